/- The law's step Crash: the list that is handed over stays, with what stands behind it. -/
import Derived.Test.YtdgbgmffpcooeaaQ3
import Derived.Laws.CopyOwn
namespace Go.Proofs.Ytdgbgmffpcooeaa
open Go.RowKit Go.Lib Go.Maps

/-- A row of numbers. -/
def nums (n : Nat) (f : Nat → Int) : Array Value := ((List.range n).map fun t => Value.int .i64 (f t)).toArray
theorem nums_get (n : Nat) (f : Nat → Int) (t : Nat) (h : t < n) : (nums n f)[t]? = some (.int .i64 (f t)) := by
  unfold nums
  rw [List.getElem?_toArray, List.getElem?_map, List.getElem?_range h]; rfl
theorem nums_set (n : Nat) (f : Nat → Int) (t : Nat) (v : Int) : (nums n f).setIfInBounds t (.int .i64 v) = nums n (upd f t v) := by
  unfold nums
  rw [List.setIfInBounds_toArray, range_set (Value.int .i64) f n t v]
theorem blk_of_own {W : World} {base g n : Nat} {xs : List Value} (h : W.ownsRow base 3 1 (.slice (some ⟨g, 0, none⟩) n n) n xs) : Blk W g 3 xs.toArray := by
  obtain ⟨h0, ⟨e1, _⟩ | ⟨g', cap', cur, e1, hb, h1, q1, q2, q3, q4⟩⟩ := h
  · cases e1
  · cases e1
    have : cur = xs.toArray := by
      rw [← q4, List.take_of_length_le (by rw [Array.length_toList]; omega)]
    rw [← this]; exact h1
theorem made_nums (n : Nat) : (madeCells (Value.int .i64 0).cells (n * 1)).toList = (nums n (fun _ => 0)).toList := by
  apply List.ext_getElem?
  intro i
  by_cases h : i < n
  · simp [madeCells, nums, Value.cells, h, Nat.mod_one]
  · rw [List.getElem?_eq_none (by simp [madeCells]; omega), List.getElem?_eq_none (by simp [nums]; omega)]
theorem splice_nums (lk : Nat) (K : Nat → Int) : splice (nums (lk + 8) (fun _ => 0)).toList 0 (nums lk K).toList = (nums (lk + 8) (fun t => if t < lk then K t else 0)).toList := by
  unfold splice nums
  simp only [List.take_zero, List.nil_append, Nat.zero_add]
  apply List.ext_getElem?
  intro i
  by_cases h : i < lk
  · rw [List.getElem?_append_left (by simpa using h)]
    have h2 : i < lk + 8 := by omega
    simp [h, h2]
  · rw [List.getElem?_append_right (by simp; omega)]
    by_cases h2 : i < lk + 8
    · have h3 : i - lk < 8 := by omega
      simp [h, h2, h3]
    · simp [h2]
      omega
theorem info3q : (Try.prog.info? 3).map (fun i => (i.zero, i.size, i.bytes)) = some (some (.int .i64 0), 1, 8) := by kernel_rfl
theorem info3s : (Try.prog.info? 3).map (·.size) = some 1 := by kernel_rfl

set_option maxRecDepth 100000 in
set_option maxHeartbeats 4000000 in
theorem crashes_any (w : World) (x y : Value) (_hx1 : x.oneCell' = true) (_hy1 : y.oneCell' = true) (ak : Option Addr) (lk ck : Nat) (K : Nat → Int) (hK : KAt w ak lk K) (hlk : lk ≤ 1048576) (F : Nat → Prop) (hF : ∀ j, F j → j < w.heap.size) (hout : ∀ a, ak = some a → 0 < lk → ¬ F a.block)
    (Q : Nat → Int → World → Prop) (R : Nat → World → Prop)
    (hx : ∀ W g, Below w.heap.size w W → w.heap.size ≤ g → g < W.heap.size → KAt W (some ⟨g, 0, none⟩) lk K → Calls Try.prog 42 #[x, .slice (some ⟨g, 0, none⟩) lk (lk + 8)] W fun e w' => ∃ c : Int, e = .returned (.int .i64 c) ∧ Q g c w' ∧ Off F W w')
    (hy : ∀ W g c, Q g c W → Off F w W → Calls Try.prog 69 #[y, .slice ak lk ck] W fun e w' => e = .returned (.int .i64 c) ∧ R g w' ∧ Off F W w')
    (hR : ∀ W W' g, R g W → Off (fun j => j = g) W W' → R g W') :
    Calls Try.prog 50 #[.agg #[x, y], .slice ak lk ck] w fun e w' => ∃ g, e = .returned (.bool true) ∧ R g w' ∧ Off F w w' := by
  obtain ⟨i3, hi3, hz3a, hz3b, hz3c⟩ := info_parts info3q
  have hKc : ∀ W', Off F w W' → ∀ i, i < lk → ∃ a, ak = some a ∧ W'.cell? (a.add i) = some (.int .i64 (K i)) := fun W' ho i hi => by
    obtain ⟨a, ha, hb, hc⟩ := hK.at_ i hi
    have hblk : (a.add i).block = a.block := by unfold Addr.add; split <;> rfl
    exact ⟨a, ha, (World.cell?_of_block (ho.block (a.add i).block (by rw [hblk]; exact hb) (by rw [hblk]; exact hout a ha (by omega)))).trans hc⟩
  obtain ⟨n8, hn8⟩ : ∃ n8, lk + 8 = n8 := ⟨_, rfl⟩
  have hw8 : wrap64 ((lk : Int) + 8) = (n8 : Int) := by unfold wrap64; omega
  have hi8 : (lk : Int) + 8 = (n8 : Int) := by omega
  rw [hn8] at hx
  have HX : Hid _ := hx
  have HY : Hid _ := hy
  have HR : Hid _ := hR
  have HK : Hid _ := hKc
  have HF : Hid _ := hF
  clear hx hy hR hKc hF hK hout
  go_enter Try.func50, Try.ntmps50
  go_upto_region 1 with (fail)
  have hb1 : Below w.heap.size w (w.alloc (.cells #[x, y] 55)) := (Below.refl _ _).alloc (Nat.le_refl _) _
  have hB1 := Blk.new w 55 #[x, y]
  obtain ⟨b2, hb2⟩ : ∃ b2, w.heap.size = b2 := ⟨_, rfl⟩
  obtain ⟨w1, hw1⟩ : ∃ w1, w.alloc (.cells #[x, y] 55) = w1 := ⟨_, rfl⟩
  rw [hw1] at hb1 hB1 ⊢
  rw [hb2] at hB1 ⊢
  have HB2 : Hid (w.heap.size = b2) := hb2
  clear hw1 hb2
  go_upto_region 2 with (at_make; refine wpList_make_full _ rfl (.tmp 13) (.tmp 13) 23 rfl w1.heap.size 3 i3 _ 1 Try.underlying23 hi3 hz3a hz3b _ _ _ _ n8 rfl rfl (by omega) (by omega) (by rw [hz3c]; omega) (by unfold maxLen; omega) (Nat.le_refl _) ?_; intro w2 hown hgrow)
  have hb2 : Below w.heap.size w w2 := hb1.trans (((Below.refl _ _).grown hgrow (Nat.le_refl _) (fun k hk => by cases hk)).mono hb1.size)
  have hB2 : Blk w2 b2 55 #[x, y] := hB1.grown hgrow (fun j hj => by cases hj)
  rw [made_nums] at hown
  have hr2 := blk_of_own hown
  have hgs := hb1.size
  obtain ⟨g, hg⟩ : ∃ g, w1.heap.size = g := ⟨_, rfl⟩
  rw [hg] at hr2 hgs ⊢
  have hbg : b2 ≠ g := by have := hB1.lt; omega
  clear hown hgrow hB1 hb1 hg
  have HN8 : Hid (lk + 8 = n8) := hn8
  have hcn : (nums lk K).toList.length = Nat.min lk n8 := by rw [show Nat.min lk n8 = lk from Nat.min_eq_left (by omega)]; simp [nums]
  have hcf : 0 + (nums lk K).toList.length ≤ (nums n8 (fun _ => 0)).toList.length := by simp [nums]; omega
  have hc1 : ∀ v ∈ (nums lk K).toList, v.oneCell' = true := fun v hv => by
    simp only [nums, List.mem_map] at hv
    obtain ⟨_, _, rfl⟩ := hv
    rfl
  have hcp : 0 < (nums lk K).toList.length → ∃ ad, ak = some ad ∧ ∀ j v, (nums lk K).toList[j]? = some v → w2.cell? (ad.add j) = some v := fun hpos => by
    have hpos' : 0 < lk := by simpa [nums] using hpos
    obtain ⟨a, ha, _⟩ := HK.out w2 (Off.of_below hb2) 0 hpos'
    refine ⟨a, ha, fun j v hv => ?_⟩
    have hj : j < lk := by
      have := (List.getElem?_eq_some_iff.1 hv).1
      simpa [nums] using this
    obtain ⟨a', ha', hc⟩ := HK.out w2 (Off.of_below hb2) j hj
    rw [ha] at ha'
    cases ha'
    have h2 := nums_get lk K j hj
    rw [← Array.getElem?_toList, hv] at h2
    rw [hc, ← h2]
  have HCP : Hid _ := hcp
  have HC1 : Hid _ := hc1
  obtain ⟨L1, hL1⟩ : ∃ L, (nums lk K).toList = L := ⟨_, rfl⟩
  obtain ⟨L0, hL0⟩ : ∃ L, (nums n8 (fun _ => 0)).toList = L := ⟨_, rfl⟩
  have hr2' : Blk w2 g 3 L0.toArray := by rw [← hL0]; exact hr2
  rw [hL1] at HCP HC1 hcn hcf
  rw [hL0] at hcf
  have HL1 : Hid _ := hL1
  have HL0 : Hid _ := hL0
  clear hcp hc1 hL1 hL0 hr2
  go_upto_region 3 with (refine wpList_copy_splice rfl (.tmp 15) (.tmp 16) 23 23 rfl 3 Try.underlying23 info3s (some ⟨g, 0, none⟩) ak n8 n8 lk ck rfl rfl g 0 L0 3 hr2' L1 hcn (fun h => ⟨rfl, HCP.out h⟩) hcf HC1.out g w2 (Below.refl _ _) (Nat.le_refl _) ?_; intro w3 hr3 hb3')
  · have hb3 : Below w.heap.size w w3 := hb2.trans (hb3'.mono hgs)
    have hB3 : Blk w3 b2 55 #[x, y] := hB2.below hb3' (by have := HB2.out; omega)
    have hr3' : Blk w3 g 3 (nums n8 (fun t => if t < lk then K t else 0)) := by
      have := hr3.out
      rw [← HL0.out, ← HL1.out, ← HN8.out, splice_nums] at this
      rw [← HN8.out]; exact this
    clear hr3 hr2' HCP HC1 HL1 HL0 hcn hcf hb3' hB2 hb2
    go_wp2
    go_loopw [6] (fun v wr => ∃ (i : Nat) (f : Nat → Int), v = .int .i64 (i : Int) ∧ lk ≤ i ∧ i ≤ n8 ∧ Blk wr g 3 (nums n8 f) ∧ (∀ t, t < lk → f t = K t) ∧ (∀ t, lk ≤ t → t < i → f t = -77) ∧ Blk wr b2 55 #[x, y] ∧ Below w.heap.size w wr) (fun v _ => n8 - (intOf v).toNat)
    case atStart => exact ⟨lk, _, rfl, Nat.le_refl _, by omega, hr3', fun t ht => if_pos ht, fun t h1 h2 => by omega, hB3, hb3⟩
    case round =>
      obtain ⟨i, f, rfl, hi1, hi2, hrow, hf1, hf2, hBt, hbel⟩ := hrel
      clear hr3' hB3 hb3
      by_cases hlt : i < n8
      · have hlt' : (i : Int) < (n8 : Int) := by omega
        have q1 := hrow.cell i
        rw [nums_get n8 f i hlt] at q1
        have q2 := hrow.frozen i
        have HF1 : Hid _ := hf1
        have HF2 : Hid _ := hf2
        clear hf1 hf2
        go_wp2
        have hs := hrow.set i (.int .i64 (-77))
        rw [nums_set] at hs
        go_roundw
        case rel =>
          refine ⟨i + 1, upd f i (-77), by go_num, by omega, by omega, hs, fun t ht => ?_, fun t h1 h2 => ?_, hBt.other hbg _ _, hbel.setCell hgs _⟩
          · rw [upd_ne _ _ (by omega)]; exact HF1.out t ht
          · by_cases e : t = i
            · rw [e, upd_same]
            · rw [upd_ne _ _ e]; exact HF2.out t h1 (by omega)
        case measure => simp [intOf]; omega
      · have hlt' : decide ((i : Int) < (n8 : Int)) = false := by simp; omega
        have hlt2 : decide (i < n8) = false := by simp; omega
        have hkat : KAt wr.drew (some ⟨g, 0, none⟩) lk K := ⟨fun j hj => ⟨_, rfl, hrow.lt, by
          rw [show (⟨g, 0, none⟩ : Addr).add j = ⟨g, j, none⟩ by unfold Addr.add; split <;> simp_all]
          rw [World.cell?_drew, hrow.cell j, nums_get n8 f j (by omega), hf1 j hj]⟩⟩
        have HF1 : Hid _ := hf1
        have HF2 : Hid (∀ t, lk ≤ t → t < n8 → f t = -77) := fun t h1 h2 => hf2 t h1 (by omega)
        have hcx := HX.out wr.drew g hbel.drew hgs hrow.lt hkat
        have hlk8 : (lk : Int) ≤ (n8 : Int) := by omega
        have hb2F : ¬ F b2 := fun h => by have := HF.out _ h; have := HB2.out; omega
        have hgF : ¬ F g := fun h => by have := HF.out _ h; omega
        have hBd : Blk wr.drew b2 55 #[x, y] := hBt
        have hrd : Blk wr.drew g 3 (nums n8 f) := hrow
        have hod : Off F w wr.drew := Off.of_below hbel.drew
        clear hf1 hf2 hkat
        go_upto_region 7 with (fail)
        have c0 : wr.cell? ⟨b2, 0, none⟩ = some x := hBt.cell 0
        have HBd : Hid (Blk wr.drew b2 55 #[x, y]) := hBd
        clear hBd hBt hrow hbel
        go_region_held3 (fun W' => W'.cell? ⟨b2, 0, none⟩ = some x)
          (first
            | exact c0
            | exact e0
            | go_keep)
          ((go_at_call 42; refine hcx.mono ?_; rintro e w4 ⟨c, rfl, hQ4, ho4⟩; have hB4 : Blk w4 b2 55 #[x, y] := Blk.off HBd.out ho4 hb2F; have e0 : w4.cell? ⟨b2, 0, none⟩ = some x := hB4.cell 0; have e1 : w4.cell? ⟨b2, 1, none⟩ = some y := hB4.cell 1))
        have hcy := HY.out w4 g c hQ4 (hod.trans ho4)
        have hrw4 := hrd.off ho4 hgF
        have hod4 := hod.trans ho4
        clear hcx c0 HBd hrd hod hQ4 ho4
        go_upto_region 9 with (go_at_call 69; refine hcy.mono ?_; rintro e w5 ⟨rfl, hR5, ho5⟩)
        have hrw5 := hrw4.off ho5 hgF
        have hod5 := hod4.trans ho5
        clear hcy hrw4 hod4 ho5 hB4 e0 e1
        go_wp2
        clear hlt' hlt2
        obtain ⟨wz, rfl⟩ : ∃ wz, wz = wr := ⟨_, rfl⟩
        go_loopw [9, 10] (fun b v wr => ∃ (i : Nat) (f' : Nat → Int), b = .bool true ∧ v = .int .i64 (i : Int) ∧ i ≤ n8 ∧ Blk wr g 3 (nums n8 f') ∧ (∀ t, i ≤ t → t < n8 → f' t = f t) ∧ R g wr ∧ Off F w wr) (fun _ v _ => n8 - (intOf v).toNat)
        case atStart => exact ⟨0, f, by simp, rfl, by omega, hrw5, fun _ _ _ => rfl, hR5, hod5⟩
        case round =>
          obtain ⟨i2, f2, rfl, rfl, hi2', hrow2, hf2', hRq, hoq⟩ := hrel
          clear hrw5 hR5 hod5
          obtain ⟨wq, rfl⟩ : ∃ wq, wq = wr := ⟨_, rfl⟩
          have HRq : Hid (R g wq) := hRq
          have HF3 : Hid (∀ t, i2 ≤ t → t < n8 → f2 t = f t) := hf2'
          clear hRq hf2'
          by_cases hlt3 : i2 < n8
          · have hlt3' : (i2 : Int) < (n8 : Int) := by omega
            have p1 := hrow2.cell i2
            rw [nums_get n8 f2 i2 hlt3, HF3.out i2 (Nat.le_refl _) hlt3] at p1
            have p2 := hrow2.frozen i2
            have HFN : Hid (∀ t, i2 + 1 ≤ t → t < n8 → upd f2 i2 (i2 : Int) t = f t) := fun t h1 h2 => by rw [upd_ne _ _ (by omega)]; exact HF3.out t (by omega) h2
            by_cases hlt4 : i2 < lk
            · have hlt4' : (i2 : Int) < (lk : Int) := by omega
              obtain ⟨a, ha, hca⟩ := HK.out wq hoq i2 hlt4
              subst ha
              rw [HF1.out i2 hlt4] at p1
              obtain ⟨kv, hkv⟩ : ∃ kv, K i2 = kv := ⟨_, rfl⟩
              rw [hkv] at p1 hca
              clear hkv
              go_upto_region 13 with (fail)
              go_quiet (fail)
              have hrN : Blk (wq.drewN nq) g 3 (nums n8 f2) := hrow2
              have hoN : Off F w (wq.drewN nq) := hoq.trans (Off.of_below (below_drewN (Below.refl _ wq) nq))
              have hRN : R g (wq.drewN nq) := HR.out wq _ g HRq.out (Off.of_below (below_drewN (Below.refl _ wq) nq))
              clear p1 p2 hca hrow2 hoq HRq
              obtain ⟨W2, hW2⟩ : ∃ W2, wq.drewN nq = W2 := ⟨_, rfl⟩
              rw [hW2] at hrN hoN hRN ⊢
              clear hW2
              have HRN : Hid (R g W2) := hRN
              clear hRN
              have p1 := hrN.cell i2
              rw [nums_get n8 f2 i2 hlt3] at p1
              have p2 := hrN.frozen i2
              go_wp2
              have hs2 := hrN.set i2 (.int .i64 (i2 : Int))
              rw [nums_set] at hs2
              have hRs := HR.out W2 _ g HRN.out (Off.one (B := g) (i := i2) W2 (.int .i64 (i2 : Int)))
              have hoS := hoN.setCell (B := g) (i := i2) (.int .i64 (i2 : Int)) (.inr hgs)
              go_roundw
              case rel => exact ⟨i2 + 1, _, by simp, by go_num, by omega, hs2, HFN.out, hRs, hoS⟩
              case measure => simp [intOf]; omega
            · have hlt4' : decide ((i2 : Int) < (lk : Int)) = false := by simp; omega
              have hlt4b : decide (i2 < lk) = false := by simp; omega
              have hge4 : (lk : Int) ≤ (i2 : Int) := by omega
              rw [HF2.out i2 (by omega) hlt3] at p1
              go_upto_region 13 with (fail)
              go_quiet (fail)
              have hrN : Blk (wq.drewN nq) g 3 (nums n8 f2) := hrow2
              have hoN : Off F w (wq.drewN nq) := hoq.trans (Off.of_below (below_drewN (Below.refl _ wq) nq))
              have hRN : R g (wq.drewN nq) := HR.out wq _ g HRq.out (Off.of_below (below_drewN (Below.refl _ wq) nq))
              clear p1 p2 hrow2 hoq HRq
              obtain ⟨W2, hW2⟩ : ∃ W2, wq.drewN nq = W2 := ⟨_, rfl⟩
              rw [hW2] at hrN hoN hRN ⊢
              clear hW2
              have HRN : Hid (R g W2) := hRN
              clear hRN
              have p1 := hrN.cell i2
              rw [nums_get n8 f2 i2 hlt3] at p1
              have p2 := hrN.frozen i2
              go_wp2
              have hs2 := hrN.set i2 (.int .i64 (i2 : Int))
              rw [nums_set] at hs2
              have hRs := HR.out W2 _ g HRN.out (Off.one (B := g) (i := i2) W2 (.int .i64 (i2 : Int)))
              have hoS := hoN.setCell (B := g) (i := i2) (.int .i64 (i2 : Int)) (.inr hgs)
              go_roundw
              case rel => exact ⟨i2 + 1, _, by simp, by go_num, by omega, hs2, HFN.out, hRs, hoS⟩
              case measure => simp [intOf]; omega
          · have hlt3' : decide ((i2 : Int) < (n8 : Int)) = false := by simp; omega
            have hlt3b : decide (i2 < n8) = false := by simp; omega
            go_wp2
            go_ret
            exact ⟨g, rfl, HRq.out, hoq⟩
end Go.Proofs.Ytdgbgmffpcooeaa
