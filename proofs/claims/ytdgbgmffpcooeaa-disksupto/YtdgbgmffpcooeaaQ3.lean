/- Which disk a number speaks of; a sector that is full of one byte; the disk that keeps what was written, and loses it. -/
import Derived.Test.YtdgbgmffpcooeaaQ2
namespace Go.Proofs.Ytdgbgmffpcooeaa
open Go.RowKit Go.Lib Go.Maps

theorem pick_ok (w : World) (c : Int) (n : Nat) (hn : 0 < n) (hn2 : n ≤ 1073741824) (hc : -9223372036854775808 ≤ c ∧ c ≤ 9223372036854775807) :
    Calls Try.prog 24 #[.int .i64 c, .int .i64 (n : Int)] w fun e w' => ∃ j : Nat, e = .returned (.int .i64 (j : Int)) ∧ j < n ∧ w' = w := by
  have key : ∀ d : Int, 0 ≤ d → ∃ j : Nat, d.tmod (n : Int) = (j : Int) ∧ j < n := fun d hd => by
    have h1 := Int.tmod_nonneg (n : Int) hd
    have h2 := Int.tmod_lt_of_pos d (show (0 : Int) < (n : Int) by omega)
    exact ⟨(d.tmod (n : Int)).toNat, by omega, by omega⟩
  have hn0 : (n : Int) ≠ 0 := by omega
  by_cases h : c < 0
  · obtain ⟨j, hj, hjn⟩ := key (-(c + 1)) (by omega)
    go_enter Try.func24, Try.ntmps24
    go_wp2
    go_ret
    exact ⟨j, rfl, hjn, rfl⟩
  · have h0 : decide (c < 0) = false := by simp; omega
    obtain ⟨j, hj, hjn⟩ := key c (by omega)
    go_enter Try.func24, Try.ntmps24
    go_wp2
    go_ret
    exact ⟨j, rfl, hjn, rfl⟩
theorem fill_set (c : UInt8) (m j : Nat) (hj : j < m) : (List.replicate j c ++ List.replicate (m - j) 0).set j c = List.replicate (j + 1) c ++ List.replicate (m - (j + 1)) (0 : UInt8) := by
  rw [List.set_append_right _ _ (by simp)]
  simp only [List.length_replicate, Nat.sub_self]
  rw [show m - j = (m - (j + 1)) + 1 by omega, List.replicate_succ, List.set_cons_zero, List.replicate_succ']
  simp
theorem byteCells_set (l : List UInt8) (j : Nat) (c : UInt8) : (byteCells l).set j (.int .u8 (c.toNat : Int)) = byteCells (l.set j c) := by
  unfold byteCells
  rw [List.map_set]
def filled (c : UInt8) : ByteArray := ⟨(List.replicate 256 c).toArray⟩
set_option maxRecDepth 100000 in
set_option maxHeartbeats 1000000 in
theorem sector_ok (w : World) (c : UInt8) :
    Calls Try.prog 39 #[.int .u8 (c.toNat : Int)] w fun e w' => e = .returned (.string (filled c)) ∧ Below w.heap.size w w' := by
  obtain ⟨i5, hi5, hz5a, hz5b, hz5c⟩ := info_parts info5
  obtain ⟨m, hm⟩ : ∃ m, m = 256 := ⟨_, rfl⟩
  have hF : filled c = ⟨(List.replicate m c).toArray⟩ := by rw [hm]; rfl
  go_enter Try.func39, Try.ntmps39
  go_wp2_with (at_make; refine wpList_make_full _ rfl _ _ 81 rfl w.heap.size 5 i5 _ 1 Try.underlying81 hi5 hz5a hz5b _ _ _ _ m rfl rfl (by omega) (by omega) (by rw [hz5c]; omega) (by unfold maxLen; omega) (Nat.le_refl _) ?_; intro w1 hown hgrow; rw [made_zero] at hown)
  have hB1 : Below w.heap.size w w1 := (Below.refl _ _).grown hgrow (Nat.le_refl _) (fun k hk => by cases hk)
  clear hgrow
  obtain ⟨g, cap, hv, hge, _⟩ := hown.form (by omega)
  cases hv
  go_loopw [4] (fun x wr => ∃ j : Nat, x = .int .i64 (j : Int) ∧ j ≤ m ∧ wr.ownsRow w.heap.size 5 1 (.slice (some ⟨w.heap.size, 0, none⟩) m m) m (byteCells (List.replicate j c ++ List.replicate (m - j) 0)) ∧ Below w.heap.size w wr) (fun x _ => m - (intOf x).toNat)
  case atStart => exact ⟨0, rfl, by omega, by simpa using hown, hB1⟩
  case round =>
    obtain ⟨j, rfl, hj, hr, hB⟩ := hrel
    clear hown hB1
    by_cases hlt : j < m
    · have hlt' : (j : Int) < 256 := by omega
      have hlt2 : j < 256 := by omega
      obtain ⟨q1, q2⟩ := own_cell hr j (by omega)
      have hz : ∃ u, wr.cell? ⟨w.heap.size, j, none⟩ = some u := ⟨_, q1.trans (List.getElem?_eq_getElem (by simp [byteCells]; omega))⟩
      obtain ⟨u, hu⟩ := hz
      clear q1 hm
      go_wp2
      have hs := own_set hr j (.int .u8 (c.toNat : Int))
      rw [byteCells_set, fill_set c m j hlt] at hs
      go_roundw
      case rel => exact ⟨j + 1, by go_num, by omega, hs, hB.setCell (Nat.le_refl _) _⟩
      case measure => simp [intOf]; omega
    · have hlt' : decide ((j : Int) < 256) = false := by simp; omega
      have hlt2 : decide (j < 256) = false := by simp; omega
      have hjm : j = m := by omega
      rw [hjm, Nat.sub_self, List.replicate_zero, List.append_nil] at hr
      have hcv : (convert 81 9 (.slice (some ⟨w.heap.size, 0, none⟩) 256 256)).run Try.prog wr = .ok (.string (filled c)) wr := by
        have := conv_own (l := List.replicate m c) (by simp) hr
        rw [← hF, hm] at this
        exact this
      clear hjm hm hlt hr hF
      go_wp2
      go_ret
      exact ⟨rfl, hB⟩
theorem size_filled (c : UInt8) : (filled c).size = 256 := by show (List.replicate 256 c).toArray.size = 256; rw [List.size_toArray, List.length_replicate]
theorem filled_zero : filled 0 = zeros 256 := rfl
theorem keep_write (z : Nat → ByteArray) (a : ByteArray) (ha : a.size = 256) : (PS.fresh 300 z).write 299 a = (0, ⟨300, upd z 299 a, upd (fun _ => none) 299 (some (z 299)), -1, false, 1⟩) := by
  unfold PS.write
  rw [if_neg (by simp [PS.fresh]), if_neg (by simp [ha])]
  rfl
theorem keep_read (s : PS) (hn : s.n = 300) (hl : s.left = -1) (hb : s.broken = false) : s.read 299 = (s.now 299, 0, { s with steps := s.steps + 1 }) := by
  have e : s.brk = false := by unfold PS.brk; rw [hb, hl]; rfl
  have e2 : s.asked = s := by unfold PS.asked; rw [e, ← hb]
  unfold PS.read
  rw [if_neg (by rw [hn]; decide), e, e2]
  rfl
theorem keep_write' (z a : ByteArray) (ha : a.size = 256) : ∃ s : PS, (PS.fresh 300 (fun _ => z)).write 299 a = (0, s) ∧ s.n = 300 ∧ s.left = -1 ∧ s.broken = false ∧ s.steps = 1 ∧ s.now 299 = a ∧ s.old 299 = some z :=
  ⟨_, keep_write (fun _ => z) a ha, rfl, rfl, rfl, rfl, upd_same (fun _ => z) 299 a, upd_same (fun _ => none) 299 (some z)⟩
theorem keep_read' (s : PS) (hn : s.n = 300) (hl : s.left = -1) (hb : s.broken = false) : ∃ s' : PS, s.read 299 = (s.now 299, 0, s') ∧ s'.n = 300 ∧ s'.left = -1 ∧ s'.broken = false ∧ s'.steps = s.steps + 1 ∧ s'.now = s.now ∧ s'.old = s.old :=
  ⟨_, keep_read s hn hl hb, hn, hl, hb, rfl, rfl, rfl⟩
theorem keep_crash (s : PS) (z : ByteArray) (hn : s.n = 300) (ho : s.old 299 = some z) : ∃ s' : PS, s.crash 0 (fun _ => 0) = s' ∧ s'.n = 300 ∧ s'.left = -1 ∧ s'.broken = false ∧ s'.steps = s.steps ∧ s'.now 299 = z :=
  ⟨_, rfl, hn, rfl, rfl, rfl, by show (keptOld s.old _ 0 299).getD _ = z; rw [keptOld_zero, ho]; rfl⟩
set_option maxRecDepth 100000 in
set_option maxHeartbeats 1000000 in
theorem keeps_ok (w : World) : Calls Try.prog 19 #[] w fun e w' => e = .returned (.bool true) ∧ Below w.heap.size w w' := by
  have h1 : Calls Try.prog 20 #[.int .i64 300] w _ := qnewd_ok w 300 (by omega) (by omega)
  have h2 : ∀ W, Calls Try.prog 39 #[.int .u8 97] W _ := fun W => sector_ok W 97
  have h3 : ∀ W, Calls Try.prog 39 #[.int .u8 0] W _ := fun W => sector_ok W 0
  obtain ⟨a, ha⟩ : ∃ a, filled 97 = a := ⟨_, rfl⟩
  have hasz : a.size = 256 := by rw [← ha]; exact size_filled 97
  rw [ha] at h2
  rw [filled_zero] at h3
  obtain ⟨z, hz⟩ : ∃ z, zeros 256 = z := ⟨_, rfl⟩
  rw [hz] at h1 h3
  clear ha hz
  go_enter Try.func19, Try.ntmps19
  go_upto_region 4 with (go_at_call 20; refine h1.mono ?_; rintro e w1 ⟨A, rfl, hR1, hb1⟩)
  go_upto_region 5 with (go_at_call 39; refine (h2 w1).mono ?_; rintro e w2 ⟨rfl, hb2⟩)
  have hR2 := hR1.below hb2
  have hB2 := hb1.trans (hb2.mono hb1.size)
  have h4 := qwrite_ok w2 _ A _ hR2 299 a ⟨Int.le_refl _, (by show (0 : Int) ≤ _; omega)⟩ ⟨Int.le_refl _, (by show (-1 : Int) ≤ _; omega)⟩
  obtain ⟨s1, e1, n1, l1, b1, t1, v1, o1⟩ := keep_write' z a hasz
  rw [e1] at h4
  have hF2 : ∀ k, A.F k → w.heap.size ≤ k := fun k hk => (hR2.lt k hk).1
  clear h1 h2 hR1 hR2 hb1 hb2 e1
  go_upto_region 6 with (go_at_call 40; refine h4.mono ?_; rintro e w3 ⟨rfl, hR3, ho3⟩)
  have hB3 := hB2.trans (ho3.below hB2.size hF2)
  have h5 := qread_ok w3 _ A _ hR3 299 ⟨(by rw [t1]; omega), (by rw [t1]; omega)⟩
  obtain ⟨s2, e2, n2, l2, b2, t2, v2, o2⟩ := keep_read' s1 n1 l1 b1
  rw [e2] at h5
  rw [v1] at h5
  rw [v1] at e2
  rw [t1] at t2
  rw [← o2] at o1
  clear h4 hB2 ho3 hR3 e2 n1 l1 b1 t1 v1 v2 o2
  go_upto_region 7 with (go_at_call 41; refine h5.mono ?_; rintro e w4 ⟨rfl, hR4, ho4⟩)
  have hB4 := hB3.trans (ho4.below hB3.size hF2)
  have h6 := qcrash_ok w4 _ A _ hR4 ⟨(by rw [t2]; omega), (by rw [t2]; omega)⟩ none 0 0 (fun _ => 0) ⟨fun i hi => (by omega)⟩ (by omega) (fun a ha => by cases ha)
  obtain ⟨s3, e3, n3, l3, b3, t3, v3⟩ := keep_crash s2 z n2 o1
  rw [e3] at h6
  rw [t2] at t3
  clear h5 hB3 ho4 hR4 e3 n2 l2 b2 t2 o1
  go_upto_region 8 with (go_at_call 42; refine h6.mono ?_; rintro e w5 ⟨A5, rfl, hR5, ho5, hp5, hF5⟩)
  have hB5 := hB4.trans (ho5.below hB4.size hF2)
  have h7 := qread_ok w5 _ A5 _ hR5 299 ⟨(by rw [t3]; omega), (by rw [t3]; omega)⟩
  obtain ⟨s4, e4, _⟩ := keep_read' s3 n3 l3 b3
  rw [e4] at h7
  rw [v3, hp5] at h7
  have hF6 : ∀ k, A5.F k → w.heap.size ≤ k := fun k hk => (hR5.lt k hk).1
  clear h6 hB4 ho5 hR5 e4 hF5 hF2 n3 l3 b3 t3 v3
  go_upto_region 9 with (go_at_call 41; refine h7.mono ?_; rintro e w6 ⟨rfl, hR6, ho6⟩)
  have hB6 := hB5.trans (ho6.below hB5.size hF6)
  clear h7 hB5 ho6 hR6 hF6
  go_wp2_with (go_at_call 39; refine (h3 w6).mono ?_; rintro e w7 ⟨rfl, hb7⟩)
  go_ret
  exact ⟨rfl, hB6.trans (hb7.mono hB6.size)⟩
end Go.Proofs.Ytdgbgmffpcooeaa
