/- To1 To2 -/
import Derived.Test.YtdgbgmffpcooeaaGreatM50
import Derived.Test.YtdgbgmffpcooeaaGreatM51
import Derived.Test.YtdgbgmffpcooeaaGreatM52
import Derived.Test.YtdgbgmffpcooeaaGreatM53
section
/- How a game begins. -/
namespace Go.Proofs.YtdgbgmffpcooeaaGreat
open Go.RowKit Go.Lib
theorem tput_nil (id : Int) (v : Box) : tput id v [] = [(id, v)] := rfl
theorem win_one : winL ⟨9, 9, 20, 20⟩ [(5, ⟨3, 4, 9, 9⟩)] = [5] := by decide +kernel
theorem win_two : winL ⟨10, 9, 20, 20⟩ [(5, ⟨3, 4, 9, 9⟩)] = [] := by decide +kernel
set_option maxRecDepth 100000 in
set_option maxHeartbeats 4000000 in
theorem begun_any (w : World) (c : Int) (wc : (Lit.int .i64 c).wf = true) :
    Calls Tryz.prog 15 #[.int .i64 c] w fun e w' => ∃ G p X n σ, e = .returned (.pointer (some ⟨G, 0, none⟩)) ∧ GameX w' w.heap.size G p X n σ (((n - 200) / 4 : Nat) : Int) [(5, ⟨3, 4, 9, 9⟩)] ∧ 256 ≤ n ∧ Below w.heap.size w w' := by
  have hpk := pick_any c 1200 w (by omega) wc
  rw [show ((1200 : Nat) : Int) = 1200 from rfl] at hpk
  go_enter Tryz.func15, Tryz.ntmps15
  go_upto_region 2 with (go_at_call 24; refine hpk.mono ?_; rintro e w9 ⟨⟨r, hr, rfl⟩, rfl⟩)
  have hnew := qnewd_ok w9 (256 + r) (by omega) (by omega)
  rw [show ((256 + r : Nat) : Int) = 256 + (r : Int) from by omega] at hnew
  go_upto_region 5 with (go_at_call 29; refine hnew.mono ?_; rintro e w1 ⟨A, rfl, hP, hb1⟩)
  have hop := open_on hP (tr_fresh (256 + r)) idx_nil ⟨rfl, rfl⟩
  clear hnew hpk
  go_upto_region 8 with (go_at_call 21; refine hop.mono ?_; rintro e w2 ⟨X, rfl, hC2, σ2, hL2⟩)
  have hs1 := hb1.size
  have hs2 := hC2.size
  have hdv : (256 + (r : Int) - 200) / 4 = ((((256 + r) - 200) / 4 : Nat) : Int) := by omega
  obtain ⟨W3, hW3⟩ : ∃ W3, w2.alloc (.cells #[.pointer (some ⟨A.p, 0, none⟩), .pointer (some ⟨X, 0, none⟩), .slice none 0 0, .int .i64 ((((256 + r) - 200) / 4 : Nat) : Int)] 62) = W3 := ⟨_, rfl⟩
  have hb3 : Below w2.heap.size w2 W3 := by rw [← hW3]; exact (Below.refl _ w2).alloc (Nat.le_refl _) _
  have G3 : Blk W3 w2.heap.size 62 (gameC A.p X (.slice none 0 0) ((((256 + r) - 200) / 4 : Nat) : Int)) := by rw [← hW3]; exact Blk.new w2 62 _
  have HW3 : Hid (w2.alloc (.cells #[.pointer (some ⟨A.p, 0, none⟩), .pointer (some ⟨X, 0, none⟩), .slice none 0 0, .int .i64 ((((256 + r) - 200) / 4 : Nat) : Int)] 62) = W3) := hW3
  have hGX : GameX W3 w9.heap.size w2.heap.size A.p X (256 + r) σ2 ((((256 + r) - 200) / 4 : Nat) : Int) [] := ⟨_, G3, ⟨rfl, .inl ⟨rfl, rfl⟩⟩, hL2.below hb3, by omega⟩
  have HB3 : Hid (Below w9.heap.size w9 W3) := (hb1.trans (hC2.lows hs1)).trans (hb3.mono (by omega))
  have hgp := gput_any W3 w9.heap.size w2.heap.size A.p X (256 + r) σ2 _ [] hGX 5 (by omega) ⟨3, 4, 9, 9⟩ ⟨by simp, by simp, by simp, by simp⟩ (by simp) (by rw [tput_nil]; simp; omega)
  simp only [boxC] at hgp
  rw [tput_nil] at hgp
  clear hW3 hGX hop hP hL2 hb1 hC2 hb3 G3
  go_upto_region 9 with fail
  have hdv2 : ((256 + r - 200 : Nat) : Int) / 4 = (((256 + r - 200) / 4 : Nat) : Int) := by omega
  rw [hdv2, HW3.out]
  clear hdv hdv2
  go_upto_region 10 with (go_at_call 25; refine hgp.mono ?_; rintro e w4 ⟨rfl, hb4, σ4, hG4, _⟩)
  have HB4 : Hid (Below w9.heap.size w9 w4) := HB3.out.trans hb4
  obtain ⟨sv, g4, t4, hL4, hbG⟩ := hG4
  have hwn := live_win hL4 (r := ⟨9, 9, 20, 20⟩) ⟨by simp, by simp, by simp, by simp⟩
  rw [win_one] at hwn
  simp only [boxC] at hwn
  have HG4 : Hid (Blk w4 w2.heap.size 62 (gameC A.p X sv ((((256 + r) - 200) / 4 : Nat) : Int))) := g4
  have HT4 : Hid (TabV w4 0 sv [(5, ⟨3, 4, 9, 9⟩)]) := t4
  clear hgp hb4 g4 t4 hL4 HB3 HW3
  go_upto_region 11 with (go_at_call 11; refine hwn.mono ?_; rintro e w5 ⟨lv, rfl, hrow5, hC5, σ5, hL5⟩; obtain ⟨lg, lc, rfl⟩ := own_int_form (l := [5]) hrow5 (by simp))
  have hwn2 := live_win hL5 (r := ⟨10, 9, 20, 20⟩) ⟨by simp, by simp, by simp, by simp⟩
  rw [win_two] at hwn2
  simp only [boxC] at hwn2
  have HR5 : Hid (w5.ownsRow w4.heap.size 3 1 (.slice (some ⟨lg, 0, none⟩) 1 lc) 1 (intsV [5])) := hrow5
  have HC5 : Hid (CalmW w9.heap.size w4 w5) := hC5
  clear hwn hrow5 hC5 hL5
  go_upto_region 12 with (go_at_call 11; refine hwn2.mono ?_; rintro e w6 ⟨ov, rfl, hrow6, hC6, σ6, hL6⟩; obtain ⟨oa, oc, rfl, _, _, _⟩ := own_shape hrow6)
  have hr6 := hC6.row HR5.out (by unfold own5; omega)
  have z0 : w6.cell? ⟨lg, 0, none⟩ = some (.int .i64 5) := own_int (l := [5]) hr6 rfl
  have HC6 : Hid (CalmW w9.heap.size w4 w6) := HC5.out.trans hC6
  have HL6 : Hid (LiveX w6 w9.heap.size A.p X (256 + r) σ6 [(5, ⟨3, 4, 9, 9⟩)]) := hL6
  clear hwn2 hrow6 hC6 hL6 hr6 HR5 HC5
  go_wp2
  go_ret
  have hs4 := HB4.out.size
  exact ⟨_, A.p, X, 256 + r, σ6, rfl, ⟨sv, HC6.out.blk HG4.out (by unfold own5; omega), HC6.out.row HT4.out (by unfold own5; omega), HL6.out, hbG⟩, by omega, HB4.out.trans (HC6.out.lows hs4)⟩
end Go.Proofs.YtdgbgmffpcooeaaGreat
end
section
/- Told: the walk. -/
namespace Go.Proofs.YtdgbgmffpcooeaaGreat
open Go.RowKit Go.Lib
structure MvR where
  k : Int
  a : Int
  b : Int
/-- Where the moves of a script lie. -/
structure MAt (w : World) (so : Option Addr) (ls : Nat) (O : Nat → MvR) : Prop where
  at_ : ∀ i, i < ls → ∃ a, so = some a ∧ a.block < w.heap.size ∧ w.cell? (a.add (i * 3)) = some (.int .i64 (O i).k) ∧ w.cell? ⟨(a.add (i * 3)).block, (a.add (i * 3)).off + 1, none⟩ = some (.int .i64 (O i).a) ∧ w.cell? ⟨(a.add (i * 3)).block, (a.add (i * 3)).off + 2, none⟩ = some (.int .i64 (O i).b)
  wf : ∀ i, i < ls → (Lit.int .i64 (O i).k).wf = true ∧ (Lit.int .i64 (O i).a).wf = true ∧ (Lit.int .i64 (O i).b).wf = true
theorem moves_any (w : World) (base G p X n : Nat) (σ : PS) (tb : List (Int × Box)) (h : GameX w base G p X n σ (((n - 200) / 4 : Nat) : Int) tb) (hrm : tb.length ≤ (n - 200) / 4) (K A B : Int) (wK : (Lit.int .i64 K).wf = true) (wA : (Lit.int .i64 A).wf = true) (wB : (Lit.int .i64 B).wf = true) :
    Calls Tryz.prog 16 #[.pointer (some ⟨G, 0, none⟩), .agg #[.int .i64 K, .int .i64 A, .int .i64 B]] w (MoveP w base G p n σ (pickI K 10 < 8)) := by
  have hp := pickI_lt K 10 (by omega)
  have weak : ∀ (c : Prop) e w', (pickI K 10 < 8 → c) → MoveP w base G p n σ c e w' → MoveP w base G p n σ (pickI K 10 < 8) e w' := fun c e w' hc ⟨h1, h2, X', σ', tb', h3, h4, h5⟩ => ⟨h1, h2, X', σ', tb', h3, h4, fun h => h5 (hc h)⟩
  by_cases h4 : pickI K 10 < 4
  · exact (moves_put w base G p X n σ tb h hrm K A B wK wA wB ⟨hp.1, h4⟩).mono (fun e w' => weak True e w' (fun _ => trivial))
  · by_cases h6 : pickI K 10 < 6
    · exact (moves_del w base G p X n σ tb h hrm K A B wK wA wB ⟨by omega, h6⟩).mono (fun e w' => weak True e w' (fun _ => trivial))
    · by_cases h8 : pickI K 10 < 8
      · exact (moves_get w base G p X n σ tb h hrm K A B wK wA wB ⟨by omega, h8⟩).mono (fun e w' => weak True e w' (fun _ => trivial))
      · by_cases h9 : pickI K 10 = 8
        · exact (moves_win w base G p X n σ tb h hrm K A B wK wA wB h9).mono (fun e w' => weak False e w' (fun h => by omega))
        · exact (moves_open w base G p X n σ tb h hrm K A B wK wA wB (by omega)).mono (fun e w' => weak False e w' (fun h => by omega))
set_option maxRecDepth 100000 in
set_option maxHeartbeats 4000000 in
theorem told_any (w : World) (c : Int) (hwc : (Lit.int .i64 c).wf = true) (so : Option Addr) (ls cs : Nat) (O : Nat → MvR) (hO : MAt w so ls O) (hls : ls ≤ 9223372036854775807) :
    Calls Tryz.prog 4 #[.int .i64 c, .slice so ls cs] w fun e w' => e = .returned (.bool true) ∧ Below w.heap.size w w' := by
  have hbg := begun_any w c hwc
  go_enter Tryz.func4, Tryz.ntmps4
  go_upto_region 2 with (go_at_call 15; refine hbg.mono ?_; rintro e w1 ⟨G, p, X, n, σ, rfl, hG1, hn, hb1⟩)
  have HB1 : Hid (Below w.heap.size w w1) := hb1
  have HG1 : Hid (GameX w1 w.heap.size G p X n σ (((n - 200) / 4 : Nat) : Int) [(5, ⟨3, 4, 9, 9⟩)]) := hG1
  clear hbg hb1 hG1
  go_wp2
  go_loopw [6] (fun x wr => ∃ (i X : Nat) (σ : PS) (tb : List (Int × Box)), x = .int .i64 (i : Int) ∧ i ≤ ls ∧ GameX wr w.heap.size G p X n σ (((n - 200) / 4 : Nat) : Int) tb ∧ tb.length ≤ (n - 200) / 4 ∧ Below w.heap.size w wr) (fun x _ => ls - (intOf x).toNat)
  case atStart => exact ⟨0, X, σ, _, rfl, Nat.zero_le _, HG1.out, by simp; omega, HB1.out⟩
  case round =>
    obtain ⟨i, X, σ, tb, rfl, hi, hG, hrm, hb⟩ := hrel
    have HG : Hid (GameX wr w.heap.size G p X n σ (((n - 200) / 4 : Nat) : Int) tb) := hG
    have HB : Hid (Below w.heap.size w wr) := hb
    clear HB1 HG1
    by_cases hlt : i < ls
    · have hlt' : (i : Int) < (ls : Int) := by omega
      obtain ⟨a, rfl, hab, q0, q1, q2⟩ := hO.at_ i hlt
      obtain ⟨v0, v1, v2⟩ := hO.wf i hlt
      have hbk : (a.add (i * 3)).block = a.block := by unfold Addr.add; split <;> rfl
      have r0 : wr.cell? (a.add (i * 3)) = some (.int .i64 (O i).k) := (hb.cell (p := a.add (i * 3)) (by rw [hbk]; exact hab)).trans q0
      have r1 : wr.cell? ⟨(a.add (i * 3)).block, (a.add (i * 3)).off + 1, none⟩ = some (.int .i64 (O i).a) := (hb.cell (p := ⟨(a.add (i * 3)).block, (a.add (i * 3)).off + 1, none⟩) (by show (a.add (i * 3)).block < _; rw [hbk]; exact hab)).trans q1
      have r2 : wr.cell? ⟨(a.add (i * 3)).block, (a.add (i * 3)).off + 2, none⟩ = some (.int .i64 (O i).b) := (hb.cell (p := ⟨(a.add (i * 3)).block, (a.add (i * 3)).off + 2, none⟩) (by show (a.add (i * 3)).block < _; rw [hbk]; exact hab)).trans q2
      have hmv := moves_any wr w.heap.size G p X n σ tb hG hrm (O i).k (O i).a (O i).b v0 v1 v2
      clear hbk q0 q1 q2 v0 v1 v2 hG hb
      go_wp2_with (go_at_call 16; refine hmv.mono ?_; rintro e w3 ⟨rfl, hb3, X', σ', tb', hG3, hrm3, _⟩)
      exact ⟨⟨i + 1, X', σ', tb', by go_num, by omega, hG3, hrm3, HB.out.trans hb3⟩, by simp [intOf]; omega⟩
    · have hlt' : ¬ (i : Int) < (ls : Int) := by omega
      obtain ⟨sv, g1, t1, _⟩ := hG
      obtain ⟨sa, sc, rfl, _, _, _⟩ := own_shape t1
      have cS : wr.cell? ⟨G, 2, none⟩ = some (.slice sa tb.length sc) := g1.cell 2
      have hal := alike_any wr w.heap.size G p X n σ _ tb HG.out (.slice sa tb.length sc) t1
      have hws : w.heap.size ≤ wr.heap.size := hb.size
      clear g1 t1 hb hO
      go_wp2_with (go_at_call 17; refine hal.mono ?_; rintro e w3 ⟨rfl, hC3, _⟩)
      go_ret
      exact ⟨rfl, HB.out.trans (hC3.lows hws)⟩
end Go.Proofs.YtdgbgmffpcooeaaGreat
end
