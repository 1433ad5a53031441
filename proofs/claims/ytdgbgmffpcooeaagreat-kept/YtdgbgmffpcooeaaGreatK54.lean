/- Kq4 -/
import Derived.Test.YtdgbgmffpcooeaaGreatK53
section
/- Kept: the walk. -/
namespace Go.Proofs.YtdgbgmffpcooeaaGreat
open Go.RowKit Go.Lib
theorem KAt.low {w W : World} {ak : Option Addr} {lk : Nat} {K : Nat → Int} (h : KAt w ak lk K) (hb : Below w.heap.size w W) : KAt W ak lk K :=
  ⟨fun i hi => by
    obtain ⟨a, e, l, c⟩ := h.at_ i hi
    have hbk : (a.add i).block = a.block := by unfold Addr.add; split <;> rfl
    exact ⟨a, e, Nat.lt_of_lt_of_le l hb.size, (hb.cell (p := a.add i) (by rw [hbk]; exact l)).trans c⟩⟩
theorem blk5 {w w' : World} {F : Nat → Prop} (ho : Off F w w') (hF : Fown w F) {k t : Nat} {vs : Array Value} (hb : Blk w k t vs) (ht : ¬ own5 t) : Blk w' k t vs := hb.off ho (fun hk => ht (hF.2 k _ _ _ hk hb))
theorem row5 {w w' : World} {F : Nat → Prop} (ho : Off F w w') (hF : Fown w F) {base : Nat} {e : TypeId} {size : Nat} {v : Value} {n : Nat} {xs : List Value} (hr : w.ownsRow base e size v n xs) (he : ¬ own5 e) : w'.ownsRow base e size v n xs :=
  own_offv hr ho (fun g hg hk => by obtain ⟨_, cs, hc⟩ := own_tagged hr hg; exact he (hF.2 g _ _ _ hk hc))
set_option maxRecDepth 100000 in
set_option maxHeartbeats 8000000 in
theorem kept_any (w : World) (c : Int) (hwc : (Lit.int .i64 c).wf = true) (so : Option Addr) (ls cs : Nat) (O : Nat → MvR) (hO : MAt w so ls O) (hls : ls ≤ 9223372036854775807) (ak : Option Addr) (lk ck : Nat) (K : Nat → Int) (hK : KAt w ak lk K) (hlk : lk ≤ 9223372036854775807) :
    Calls Tryz.prog 5 #[.int .i64 c, .slice so ls cs, .slice ak lk ck] w fun e w' => e = .returned (.bool true) ∧ Below w.heap.size w w' := by
  have hbg := begun_any w c hwc
  go_enter Tryz.func5, Tryz.ntmps5
  go_upto_region 2 with (go_at_call 15; refine hbg.mono ?_; rintro e w1 ⟨G, p, X, n, σ, rfl, hG1, hn, hb1⟩)
  have HB1 : Hid (Below w.heap.size w w1) := hb1
  have HG1 : Hid (GameX w1 (fun k => k < w.heap.size) G p X n σ (((n - 200) / 4 : Nat) : Int) [(5, ⟨3, 4, 9, 9⟩)]) := hG1
  clear hbg hb1 hG1
  go_wp2
  go_loopw [8] (fun x wr => ∃ (i X : Nat) (σ : PS) (tb : List (Int × Box)), x = .int .i64 (i : Int) ∧ i ≤ ls ∧ GameX wr (fun k => k < w.heap.size) G p X n σ (((n - 200) / 4 : Nat) : Int) tb ∧ tb.length ≤ (n - 200) / 4 ∧ Below w.heap.size w wr) (fun x _ => ls - (intOf x).toNat)
  case atStart => exact ⟨0, X, σ, _, rfl, Nat.zero_le _, HG1.out, by simp; omega, HB1.out⟩
  case round =>
    obtain ⟨i, X, σ, tb, rfl, hi, hG, hrm, hb⟩ := hrel
    have HB : Hid (Below w.heap.size w wr) := hb
    clear HB1 HG1
    by_cases hlt : i < ls
    · have hlt' : (i : Int) < (ls : Int) := by omega
      obtain ⟨a, rfl, hab, q0, q1, q2⟩ := hO.at_ i hlt
      obtain ⟨v0, v1, v2⟩ := hO.wf i hlt
      have hbk : (a.add (i * 3)).block = a.block := by unfold Addr.add; split <;> rfl
      have r0 : wr.cell? (a.add (i * 3)) = some (.int .i64 (O i).k) := (hb.cell (p := a.add (i * 3)) (by rw [hbk]; exact hab)).trans q0
      have r1 : wr.cell? ⟨(a.add (i * 3)).block, (a.add (i * 3)).off + 1, none⟩ = some (.int .i64 (O i).a) := (hb.cell (p := ⟨(a.add (i * 3)).block, (a.add (i * 3)).off + 1, none⟩) (by show (a.add (i * 3)).block < _; rw [hbk]; exact hab)).trans q1
      have r2 : wr.cell? ⟨(a.add (i * 3)).block, (a.add (i * 3)).off + 2, none⟩ = some (.int .i64 (O i).b) := (hb.cell (p := ⟨(a.add (i * 3)).block, (a.add (i * 3)).off + 2, none⟩) (by show (a.add (i * 3)).block < _; rw [hbk]; exact hab)).trans q2
      have hmv := moves_any wr (fun k => k < w.heap.size) G p X n σ tb hG hrm (O i).k (O i).a (O i).b v0 v1 v2
      have HKK : Hid (KAt w ak lk K) := hK
      clear hbk q0 q1 q2 v0 v1 v2 hG hb hK hrm
      by_cases h4 : i % 4 = 3
      · have h4' : (i : Int) % 4 = 3 := by omega
        go_upto_region 11 with (go_at_call 16; refine hmv.mono ?_; rintro e w3 ⟨rfl, hb3, X', σ', tb', hG3, hrm3, _⟩)
        have HB3 : Hid (Below w.heap.size w w3) := HB.out.trans (hb3.lows HB.out.size)
        obtain ⟨sv, g3, t3, hL3, hbG⟩ := hG3
        obtain ⟨sa, sc, rfl, _, _, _⟩ := own_shape t3
        obtain ⟨F0, hS3, hF0⟩ := hL3.own
        have hF0' : ∀ k, F0 k → w.heap.size ≤ k := fun k hk => Nat.not_lt.1 (hF0 k hk)
        have him := live_image hL3
        have c0 : w3.cell? ⟨G, 0, none⟩ = some (.pointer (some ⟨p, 0, none⟩)) := g3.cell 0
        have HG3 : Hid (Blk w3 G 62 (gameC p X' (.slice sa tb'.length sc) (((n - 200) / 4 : Nat) : Int))) := g3
        have HT3 : Hid (TabV w3 0 (.slice sa tb'.length sc) tb') := t3
        have HS3 : Hid (LiveS w3 F0 p X' n σ' tb') := hS3
        have hws3 := HB3.out.size
        have hF0l := hS3.2.1
        clear hmv hb3 r0 r1 r2 g3 t3 hL3 hS3 HB
        go_upto_region 12 with (go_at_call 18; refine him.mono ?_; rintro e w4 ⟨img, rfl, hb4, hI⟩)
        have hl := s_load hI w4
        have hs4 := hb4.size
        clear him c0
        go_upto_region 13 with (go_at_call 19; refine hl.mono ?_; rintro e w5 ⟨pd, Fd, rfl, hD5, hFd, hb5⟩)
        have hs5 := hb5.size
        have hb35 : Below w3.heap.size w3 w5 := hb4.trans (hb5.mono hs4)
        have HB5 : Hid (Below w.heap.size w w5) := HB3.out.trans (hb35.mono hws3)
        have HS5 : Hid (LiveS w5 F0 p X' n σ' tb') := HS3.out.below hb35
        have HG5 : Hid (Blk w5 G 62 (gameC p X' (.slice sa tb'.length sc) (((n - 200) / 4 : Nat) : Int))) := HG3.out.below hb35 HG3.out.lt
        have HT5 : Hid (TabV w5 0 (.slice sa tb'.length sc) tb') := own_below HT3.out hb35
        have HD5 : Hid (DiskS w5 Fd pd n tb') := hD5
        have hFdl := hD5.2.1
        have c05 : w5.cell? ⟨G, 0, none⟩ = some (.pointer (some ⟨p, 0, none⟩)) := HG5.out.cell 0
        have hcr := s_crash HS5.out ak lk ck K (HKK.out.low HB5.out) hlk (fun a e l => by
          obtain ⟨a', e', l', _⟩ := HKK.out.at_ 0 l
          rw [e] at e'
          cases e'
          exact ⟨fun hf => by have := hF0' _ hf; omega, by have := HB5.out.size; omega⟩)
        clear hl hb4 hb5 hD5 hI hb35 HG3 HT3 HS3 HB3
        go_upto_region 16 with (go_at_call 20; refine hcr.mono ?_; rintro e w6 ⟨rfl, o6, Fg, hD6, hFg⟩)
        have hs6 := o6.size
        have HB6 : Hid (Below w.heap.size w w6) := HB5.out.trans (o6.below HB5.out.size hF0')
        have HG6 : Hid (Blk w6 G 62 (gameC p X' (.slice sa tb'.length sc) (((n - 200) / 4 : Nat) : Int))) := blk5 o6 HS5.out.2 HG5.out (by unfold own5; omega)
        have HT6 : Hid (TabV w6 0 (.slice sa tb'.length sc) tb') := row5 o6 HS5.out.2 HT5.out (by unfold own5; omega)
        have HDd6 : Hid (DiskS w6 Fd pd n tb') := HD5.out.keep o6 (fun k h1 h2 => by have := hFd k h1; have := hF0l k h2; omega)
        have HDg6 : Hid (DiskS w6 Fg p n tb') := hD6
        have hFgl := hD6.2.1
        have hop := s_open HDd6.out
        clear hcr o6 hD6 HD5 HS5 HG5 HT5 HB5 c05
        go_upto_region 17 with (go_at_call 21; refine hop.mono ?_; rintro e w7 ⟨Xd, σd, Fd', rfl, o7, hL7, hFd7⟩)
        have hs7 := o7.size
        have hFd7l := hL7.2.1
        have HB7 : Hid (Below w.heap.size w w7) := HB6.out.trans (o7.below HB6.out.size (fun k hk => by have := hFd k hk; omega))
        have HG7 : Hid (Blk w7 G 62 (gameC p X' (.slice sa tb'.length sc) (((n - 200) / 4 : Nat) : Int))) := blk5 o7 HDd6.out.2 HG6.out (by unfold own5; omega)
        have HT7 : Hid (TabV w7 0 (.slice sa tb'.length sc) tb') := row5 o7 HDd6.out.2 HT6.out (by unfold own5; omega)
        have HLd7 : Hid (LiveS w7 Fd' pd Xd n σd tb') := hL7
        have HDg7 : Hid (DiskS w7 Fg p n tb') := HDg6.out.keep o7 (fun k h1 h2 => by have h8 := hFd k h2; have h9 := hFdl k h2; rcases hFg k h1 with h | h; have := hF0l k h; omega; omega)
        have c07 : w7.cell? ⟨G, 0, none⟩ = some (.pointer (some ⟨p, 0, none⟩)) := HG7.out.cell 0
        have hop2 := s_open HDg7.out
        clear hop o7 hL7 HB6 HG6 HT6 HDd6 HDg6
        go_upto_region 20 with (go_at_call 21; refine hop2.mono ?_; rintro e w8 ⟨Y, σy, Fg', rfl, o8, hL8, hFg8⟩)
        have hs8 := o8.size
        have hFgw : ∀ k, Fg k → w.heap.size ≤ k := fun k hk => by rcases hFg k hk with h | h; exact hF0' k h; omega
        have HB8 : Hid (Below w.heap.size w w8) := HB7.out.trans (o8.below HB7.out.size hFgw)
        have HG8 : Hid (Blk w8 G 62 (gameC p X' (.slice sa tb'.length sc) (((n - 200) / 4 : Nat) : Int))) := blk5 o8 HDg7.out.2 HG7.out (by unfold own5; omega)
        have HT8 : Hid (TabV w8 0 (.slice sa tb'.length sc) tb') := row5 o8 HDg7.out.2 HT7.out (by unfold own5; omega)
        have HLg8 : Hid (LiveS w8 Fg' p Y n σy tb') := hL8
        have hdis : ∀ k, Fd' k → ¬ Fg k := fun k h1 h2 => by
          have h9 := hFgl k h2
          rcases hFd7 k h1 with h | h
          · have := hFd k h
            have := hFdl k h
            rcases hFg k h2 with g | g
            · have := hF0l k g; omega
            · omega
          · omega
        have HLd8 : Hid (LiveS w8 Fd' pd Xd n σd tb') := HLd7.out.keep HDg7.out.2 o8 hdis
        have hdis2 : ∀ k, Fg' k → ¬ Fd' k := fun k h1 h2 => by
          rcases hFg8 k h1 with h | h
          · exact hdis k h2 h
          · have := hFd7l k h2; omega
        have c38 : w8.cell? ⟨G, 3, none⟩ = some (.int .i64 (((n - 200) / 4 : Nat) : Int)) := HG8.out.cell 3
        clear hop2 o8 hL8 HB7 HG7 HT7 HLd7 HDg7 c07
        obtain ⟨V, hV⟩ : ∃ V, w8.alloc (.cells #[.pointer (some ⟨pd, 0, none⟩), .pointer (some ⟨Xd, 0, none⟩), .slice none 0 0, .int .i64 (((n - 200) / 4 : Nat) : Int)] 62) = V := ⟨_, rfl⟩
        have hbV : Below w8.heap.size w8 V := by rw [← hV]; exact (Below.refl _ w8).alloc (Nat.le_refl _) _
        have G2 : Blk V w8.heap.size 62 (gameC pd Xd (.slice none 0 0) (((n - 200) / 4 : Nat) : Int)) := by rw [← hV]; exact Blk.new w8 62 _
        have HV : Hid (w8.alloc (.cells #[.pointer (some ⟨pd, 0, none⟩), .pointer (some ⟨Xd, 0, none⟩), .slice none 0 0, .int .i64 (((n - 200) / 4 : Nat) : Int)] 62) = V) := hV
        have HBV : Hid (Below w.heap.size w V) := HB8.out.trans (hbV.mono HB8.out.size)
        have HGV : Hid (Blk V G 62 (gameC p X' (.slice sa tb'.length sc) (((n - 200) / 4 : Nat) : Int))) := HG8.out.below hbV HG8.out.lt
        have HTV : Hid (TabV V 0 (.slice sa tb'.length sc) tb') := own_below HT8.out hbV
        have HLgV : Hid (LiveS V Fg' p Y n σy tb') := HLg8.out.below hbV
        have HLdV : Hid (LiveS V Fd' pd Xd n σd tb') := HLd8.out.below hbV
        have hal := s_alike HLdV.out G2 (.slice sa tb'.length sc) HTV.out
        have c2V : V.cell? ⟨G, 2, none⟩ = some (.slice sa tb'.length sc) := HGV.out.cell 2
        clear hV hbV G2 HB8 HG8 HT8 HLg8 HLd8
        go_upto_region 21 with fail
        have hdv2 : ((n - 200 : Nat) : Int) / 4 = (((n - 200) / 4 : Nat) : Int) := by omega
        rw [hdv2, HV.out]
        clear hdv2 HV c38
        go_upto_region 22 with (go_at_call 17; refine hal.mono ?_; rintro e w10 ⟨rfl, o10, σ10, F10, hL10, hF10⟩)
        have HB10 : Hid (Below w.heap.size w w10) := HBV.out.trans (o10.below HBV.out.size (fun k hk => by rcases hFd7 k hk with h | h; have := hFd k h; omega; omega))
        have g10 : Blk w10 G 62 (gameC p X' (.slice sa tb'.length sc) (((n - 200) / 4 : Nat) : Int)) := blk5 o10 HLdV.out.2 HGV.out (by unfold own5; omega)
        have t10 : TabV w10 0 (.slice sa tb'.length sc) tb' := row5 o10 HLdV.out.2 HTV.out (by unfold own5; omega)
        have hLg10 : LiveX w10 (fun k => k < w.heap.size) p Y n σy tb' := (HLgV.out.keep HLdV.out.2 o10 hdis2).weak (fun k hk hl => by rcases hFg8 k hk with h | h; have := hFgw k h; omega; omega) (fun k hk => by have := HB10.out.size; omega)
        have c10 : w10.cell? ⟨G, 1, none⟩ = some (.pointer (some ⟨X', 0, none⟩)) := g10.cell 1
        have f10 : w10.frozen? ⟨G, 1, none⟩ = false := g10.frozen 1
        obtain ⟨W11, hW11⟩ : ∃ W11, w10.setCell ⟨G, 1, none⟩ (.pointer (some ⟨Y, 0, none⟩)) = W11 := ⟨_, rfl⟩
        have o11 : Off (fun k => k = G) w10 W11 := by rw [← hW11]; exact Off.one w10 _
        have g11 : Blk W11 G 62 (gameC p Y (.slice sa tb'.length sc) (((n - 200) / 4 : Nat) : Int)) := by rw [← hW11]; exact g10.set 1 _
        have t11 : TabV W11 0 (.slice sa tb'.length sc) tb' := own_offv t10 o11 (fun g hg e => own_ne t10 g10 (by decide) g hg e)
        have HGX : Hid (GameX W11 (fun k => k < w.heap.size) G p Y n σy (((n - 200) / 4 : Nat) : Int) tb') := ⟨_, g11, t11, hLg10.off g10 (by unfold own5; omega) (by decide) (by decide) o11, hbG⟩
        have HB11 : Hid (Below w.heap.size w W11) := HB10.out.trans (o11.below HB10.out.size (fun k h => by omega))
        have hal2 := alike_any W11 (fun k => k < w.heap.size) G p Y n σy _ tb' HGX.out (.slice sa tb'.length sc) t11
        have c11 : W11.cell? ⟨G, 2, none⟩ = some (.slice sa tb'.length sc) := g11.cell 2
        have HW11 : Hid (w10.setCell ⟨G, 1, none⟩ (.pointer (some ⟨Y, 0, none⟩)) = W11) := hW11
        clear hal o10 hL10 HBV HGV HTV HLgV HLdV c2V hW11 o11 g11 t11 g10 t10 hLg10
        go_upto_region 23 with fail
        rw [HW11.out]
        clear HW11 c10 f10
        go_upto_region 24 with (go_at_call 17; refine hal2.mono ?_; rintro e w12 ⟨rfl, hC12, σ12, hG12⟩)
        have HB12 : Hid (Below w.heap.size w w12) := HB11.out.trans (hC12.keep.lows HB11.out.size)
        have HG12 : Hid (GameX w12 (fun k => k < w.heap.size) G p Y n σ12 (((n - 200) / 4 : Nat) : Int) tb') := hG12
        obtain ⟨sv2, g12, t12, hL12, _⟩ := hG12
        obtain ⟨sa2, sc2, rfl, _, _, _⟩ := own_shape t12
        have c12 : w12.cell? ⟨G, 2, none⟩ = some (.slice sa2 tb'.length sc2) := g12.cell 2
        have hcp := copies_any w12 (fun k => k < w.heap.size) G p Y n σ12 (.slice sa2 tb'.length sc2) tb' g12 hL12 (.slice sa2 tb'.length sc2) t12 hrm3
        clear hal2 hC12 g12 t12 hL12 c11 HGX HB11 HB10
        go_wp2_with (go_at_call 22; refine hcp.mono ?_; rintro e w13 ⟨rfl, hb13⟩)
        exact ⟨⟨i + 1, Y, σ12, tb', by go_num, by omega, HG12.out.below hb13, hrm3, HB12.out.trans (hb13.mono HB12.out.size)⟩, by simp [intOf]; omega⟩
      · have h4' : ¬ (i : Int) % 4 = 3 := by omega
        go_wp2_with (go_at_call 16; refine hmv.mono ?_; rintro e w3 ⟨rfl, hb3, X', σ', tb', hG3, hrm3, _⟩)
        exact ⟨⟨i + 1, X', σ', tb', by go_num, by omega, hG3, hrm3, HB.out.trans (hb3.lows HB.out.size)⟩, by simp [intOf]; omega⟩
    · have hlt' : ¬ (i : Int) < (ls : Int) := by omega
      clear hG hO hK
      go_wp2
      go_ret
      exact ⟨rfl, HB.out⟩
end Go.Proofs.YtdgbgmffpcooeaaGreat
end
