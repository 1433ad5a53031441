/- The walk of Celled. -/
import Derived.Test.YtdgbgmffpcooeaaQCover
import Derived.Test.YtdgbgmffpcooeaaKeep
namespace Go.Proofs.Ytdgbgmffpcooeaa
open Go.RowKit

def pickI (c m : Int) : Int := (if c < 0 then -(c + 1) else c) % m
theorem pickI_lt (c m : Int) (h : 0 < m) : 0 ≤ pickI c m ∧ pickI c m < m := ⟨Int.emod_nonneg _ (by omega), Int.emod_lt_of_pos _ h⟩
theorem pickI_neg (c m : Int) (h : (Lit.int .i64 c).wf = true) (hc : c < 0) : (wrap64 (-wrap64 (c + 1))).tmod m = pickI c m := by
  have hb := bounds_i64 h
  have e1 : wrap64 (c + 1) = c + 1 := by unfold wrap64; omega
  have e2 : wrap64 (-(c + 1)) = -(c + 1) := by unfold wrap64; omega
  rw [e1, e2, Int.tmod_eq_emod_of_nonneg (by omega), pickI, if_pos hc]

set_option maxHeartbeats 400000 in
theorem pick_eq (c m : Int) (w : World) (hm : 0 < m) (h : (Lit.int .i64 c).wf = true) :
    Calls Try.prog 16 #[.int .i64 c, .int .i64 m] w fun e w' => e = .returned (.int .i64 (pickI c m)) ∧ w' = w := by
  by_cases hc : c < 0
  · have H : Hid ((wrap64 (-wrap64 (c + 1))).tmod m = pickI c m) := pickI_neg c m h hc
    go_enter Try.func16, Try.ntmps16
    go_wp2
    go_ret
    exact ⟨ret_int H.out, rfl⟩
  · have H : Hid (c % m = pickI c m) := by show c % m = _; unfold pickI; rw [if_neg hc]
    go_enter Try.func16, Try.ntmps16
    go_wp2
    go_ret
    exact ⟨ret_int H.out, rfl⟩

theorem code_last : code 65535 65535 = 4294967295 := by decide +kernel

set_option maxRecDepth 100000 in
set_option maxHeartbeats 2000000 in
theorem celled_nn (a b c d : Int) (h : rightB a b c d = false) (a2 b2 c2 d2 : Int) (h2 : rightB a2 b2 c2 d2 = false) (x y : Int) (w : World) :
    Calls Try.prog 4 #[.agg #[.int .i64 a, .int .i64 b, .int .i64 c, .int .i64 d], .agg #[.int .i64 a2, .int .i64 b2, .int .i64 c2, .int .i64 d2], .int .i64 x, .int .i64 y] w fun e w' => e = .returned (.bool true) ∧ Below w.heap.size w w' := by
  go_enter Try.func4, Try.ntmps4
  go_wp2_with fail
  refine (qcode_in 65535 65535 _ (by omega) (by omega)).mono ?_
  rintro e w1 ⟨rfl, rfl⟩
  rw [code_last]
  go_wp2_with fail
  refine (qcover_no _ _ _ _ h _).mono ?_
  rintro e w2 ⟨rfl, hb2⟩
  have br := ((Blk.new w 30 #[.int .i64 a, .int .i64 b, .int .i64 c, .int .i64 d]).alloc (.cells #[.int .i64 a2, .int .i64 b2, .int .i64 c2, .int .i64 d2] 30)).below hb2 (by simp; omega)
  have bs := (Blk.new (w.alloc (.cells #[.int .i64 a, .int .i64 b, .int .i64 c, .int .i64 d] 30)) 30 #[.int .i64 a2, .int .i64 b2, .int .i64 c2, .int .i64 d2]).below hb2 (by simp)
  simp only [World.size_alloc] at bs
  have hB2 : Below w.heap.size w w2 := (((Below.refl _ w).alloc (Nat.le_refl _) _).alloc (by simp) _).trans (hb2.mono (by simp; omega))
  have s0 : w2.cell? ⟨w.heap.size + 1, 0, none⟩ = some (.int .i64 a2) := bs.cell 0
  have s1 : w2.cell? ⟨w.heap.size + 1, 1, none⟩ = some (.int .i64 b2) := bs.cell 1
  have s2 : w2.cell? ⟨w.heap.size + 1, 2, none⟩ = some (.int .i64 c2) := bs.cell 2
  have s3 : w2.cell? ⟨w.heap.size + 1, 3, none⟩ = some (.int .i64 d2) := bs.cell 3
  go_wp2_with fail
  refine (qcover_no _ _ _ _ h2 _).mono ?_
  rintro e w3 ⟨rfl, hb3⟩
  have br3 := br.below hb3 br.lt
  have bs3 := bs.below hb3 bs.lt
  have hB3 : Below w.heap.size w w3 := hB2.trans (hb3.mono hB2.size)
  clear s0 s1 s2 s3 br bs hB2 hb2 hb3
  have r0 : w3.cell? ⟨w.heap.size, 0, none⟩ = some (.int .i64 a) := br3.cell 0
  have r1 : w3.cell? ⟨w.heap.size, 1, none⟩ = some (.int .i64 b) := br3.cell 1
  have r2 : w3.cell? ⟨w.heap.size, 2, none⟩ = some (.int .i64 c) := br3.cell 2
  have r3 : w3.cell? ⟨w.heap.size, 3, none⟩ = some (.int .i64 d) := br3.cell 3
  go_wp2_with fail
  refine (kright_any _ _ _ _ _).mono ?_
  rintro e w4 ⟨rfl, hb4⟩
  have bs4 := bs3.below hb4 bs3.lt
  have hB4 : Below w.heap.size w w4 := hB3.trans (hb4.mono hB3.size)
  have s0 : w4.cell? ⟨w.heap.size + 1, 0, none⟩ = some (.int .i64 a2) := bs4.cell 0
  have s1 : w4.cell? ⟨w.heap.size + 1, 1, none⟩ = some (.int .i64 b2) := bs4.cell 1
  have s2 : w4.cell? ⟨w.heap.size + 1, 2, none⟩ = some (.int .i64 c2) := bs4.cell 2
  have s3 : w4.cell? ⟨w.heap.size + 1, 3, none⟩ = some (.int .i64 d2) := bs4.cell 3
  clear r0 r1 r2 r3 br3 bs3 hB3 hb4
  go_wp2_with fail
  refine (kright_any _ _ _ _ _).mono ?_
  rintro e w5 ⟨rfl, hb5⟩
  have hB5 : Below w.heap.size w w5 := hB4.trans (hb5.mono hB4.size)
  clear s0 s1 s2 s3
  go_wp2
  go_ret
  exact ⟨rfl, hB5⟩

set_option maxRecDepth 100000 in
set_option maxHeartbeats 2000000 in
theorem celled_ny (a b c d : Int) (h : rightB a b c d = false) (s : Box) (hs : s.ok) (x y : Int) (w : World) :
    Calls Try.prog 4 #[.agg #[.int .i64 a, .int .i64 b, .int .i64 c, .int .i64 d], .agg #[.int .i64 (s.a : Int), .int .i64 (s.b : Int), .int .i64 (s.c : Int), .int .i64 (s.d : Int)], .int .i64 x, .int .i64 y] w fun e w' => e = .returned (.bool true) ∧ Below w.heap.size w w' := by
  have h2 := rightB_box hs
  go_enter Try.func4, Try.ntmps4
  go_wp2_with fail
  refine (qcode_in 65535 65535 _ (by omega) (by omega)).mono ?_
  rintro e w1 ⟨rfl, rfl⟩
  rw [code_last]
  go_wp2_with fail
  refine (qcover_no _ _ _ _ h _).mono ?_
  rintro e w2 ⟨rfl, hb2⟩
  have br := ((Blk.new w 30 #[.int .i64 a, .int .i64 b, .int .i64 c, .int .i64 d]).alloc (.cells #[.int .i64 (s.a : Int), .int .i64 (s.b : Int), .int .i64 (s.c : Int), .int .i64 (s.d : Int)] 30)).below hb2 (by simp; omega)
  have bs := (Blk.new (w.alloc (.cells #[.int .i64 a, .int .i64 b, .int .i64 c, .int .i64 d] 30)) 30 #[.int .i64 (s.a : Int), .int .i64 (s.b : Int), .int .i64 (s.c : Int), .int .i64 (s.d : Int)]).below hb2 (by simp)
  simp only [World.size_alloc] at bs
  have hB2 : Below w.heap.size w w2 := (((Below.refl _ w).alloc (Nat.le_refl _) _).alloc (by simp) _).trans (hb2.mono (by simp; omega))
  have s0 : w2.cell? ⟨w.heap.size + 1, 0, none⟩ = some (.int .i64 (s.a : Int)) := bs.cell 0
  have s1 : w2.cell? ⟨w.heap.size + 1, 1, none⟩ = some (.int .i64 (s.b : Int)) := bs.cell 1
  have s2 : w2.cell? ⟨w.heap.size + 1, 2, none⟩ = some (.int .i64 (s.c : Int)) := bs.cell 2
  have s3 : w2.cell? ⟨w.heap.size + 1, 3, none⟩ = some (.int .i64 (s.d : Int)) := bs.cell 3
  go_wp2_with fail
  refine (qcover_ok s hs _).mono ?_
  rintro e w3 ⟨g, cap, k, l, rfl, hown, hcov, hb3⟩
  have br3 := br.below hb3 br.lt
  have bs3 := bs.below hb3 bs.lt
  have hB3 : Below w.heap.size w w3 := hB2.trans (hb3.mono hB2.size)
  clear s0 s1 s2 s3 br bs hB2 hb2 hb3
  have r0 : w3.cell? ⟨w.heap.size, 0, none⟩ = some (.int .i64 a) := br3.cell 0
  have r1 : w3.cell? ⟨w.heap.size, 1, none⟩ = some (.int .i64 b) := br3.cell 1
  have r2 : w3.cell? ⟨w.heap.size, 2, none⟩ = some (.int .i64 c) := br3.cell 2
  have r3 : w3.cell? ⟨w.heap.size, 3, none⟩ = some (.int .i64 d) := br3.cell 3
  go_wp2_with fail
  refine (kright_any _ _ _ _ _).mono ?_
  rintro e w4 ⟨rfl, hb4⟩
  have bs4 := bs3.below hb4 bs3.lt
  have hB4 : Below w.heap.size w w4 := hB3.trans (hb4.mono hB3.size)
  have s0 : w4.cell? ⟨w.heap.size + 1, 0, none⟩ = some (.int .i64 (s.a : Int)) := bs4.cell 0
  have s1 : w4.cell? ⟨w.heap.size + 1, 1, none⟩ = some (.int .i64 (s.b : Int)) := bs4.cell 1
  have s2 : w4.cell? ⟨w.heap.size + 1, 2, none⟩ = some (.int .i64 (s.c : Int)) := bs4.cell 2
  have s3 : w4.cell? ⟨w.heap.size + 1, 3, none⟩ = some (.int .i64 (s.d : Int)) := bs4.cell 3
  clear r0 r1 r2 r3 br3 bs3 hB3 hb4
  go_wp2_with fail
  refine (kright_any _ _ _ _ _).mono ?_
  rintro e w5 ⟨rfl, hb5⟩
  have hB5 : Below w.heap.size w w5 := hB4.trans (hb5.mono hB4.size)
  clear s0 s1 s2 s3
  go_wp2
  go_ret
  exact ⟨rfl, hB5⟩

set_option maxRecDepth 100000 in
set_option maxHeartbeats 2000000 in
theorem celled_yn (r : Box) (hr : r.ok) (a2 b2 c2 d2 : Int) (h2 : rightB a2 b2 c2 d2 = false) (x y : Int) (w : World) :
    Calls Try.prog 4 #[.agg #[.int .i64 (r.a : Int), .int .i64 (r.b : Int), .int .i64 (r.c : Int), .int .i64 (r.d : Int)], .agg #[.int .i64 a2, .int .i64 b2, .int .i64 c2, .int .i64 d2], .int .i64 x, .int .i64 y] w fun e w' => e = .returned (.bool true) ∧ Below w.heap.size w w' := by
  have h := rightB_box hr
  go_enter Try.func4, Try.ntmps4
  go_wp2_with fail
  refine (qcode_in 65535 65535 _ (by omega) (by omega)).mono ?_
  rintro e w1 ⟨rfl, rfl⟩
  rw [code_last]
  go_wp2_with fail
  refine (qcover_ok r hr _).mono ?_
  rintro e w2 ⟨g, cap, k, l, rfl, hown, hcov, hb2⟩
  have br := ((Blk.new w 30 #[.int .i64 (r.a : Int), .int .i64 (r.b : Int), .int .i64 (r.c : Int), .int .i64 (r.d : Int)]).alloc (.cells #[.int .i64 a2, .int .i64 b2, .int .i64 c2, .int .i64 d2] 30)).below hb2 (by simp; omega)
  have bs := (Blk.new (w.alloc (.cells #[.int .i64 (r.a : Int), .int .i64 (r.b : Int), .int .i64 (r.c : Int), .int .i64 (r.d : Int)] 30)) 30 #[.int .i64 a2, .int .i64 b2, .int .i64 c2, .int .i64 d2]).below hb2 (by simp)
  simp only [World.size_alloc] at bs
  have hB2 : Below w.heap.size w w2 := (((Below.refl _ w).alloc (Nat.le_refl _) _).alloc (by simp) _).trans (hb2.mono (by simp; omega))
  have s0 : w2.cell? ⟨w.heap.size + 1, 0, none⟩ = some (.int .i64 a2) := bs.cell 0
  have s1 : w2.cell? ⟨w.heap.size + 1, 1, none⟩ = some (.int .i64 b2) := bs.cell 1
  have s2 : w2.cell? ⟨w.heap.size + 1, 2, none⟩ = some (.int .i64 c2) := bs.cell 2
  have s3 : w2.cell? ⟨w.heap.size + 1, 3, none⟩ = some (.int .i64 d2) := bs.cell 3
  go_wp2_with fail
  refine (qcover_no _ _ _ _ h2 _).mono ?_
  rintro e w3 ⟨rfl, hb3⟩
  have br3 := br.below hb3 br.lt
  have bs3 := bs.below hb3 bs.lt
  have hB3 : Below w.heap.size w w3 := hB2.trans (hb3.mono hB2.size)
  clear s0 s1 s2 s3 br bs hB2 hb2 hb3
  have r0 : w3.cell? ⟨w.heap.size, 0, none⟩ = some (.int .i64 (r.a : Int)) := br3.cell 0
  have r1 : w3.cell? ⟨w.heap.size, 1, none⟩ = some (.int .i64 (r.b : Int)) := br3.cell 1
  have r2 : w3.cell? ⟨w.heap.size, 2, none⟩ = some (.int .i64 (r.c : Int)) := br3.cell 2
  have r3 : w3.cell? ⟨w.heap.size, 3, none⟩ = some (.int .i64 (r.d : Int)) := br3.cell 3
  go_wp2_with fail
  refine (kright_any _ _ _ _ _).mono ?_
  rintro e w4 ⟨rfl, hb4⟩
  have bs4 := bs3.below hb4 bs3.lt
  have hB4 : Below w.heap.size w w4 := hB3.trans (hb4.mono hB3.size)
  have s0 : w4.cell? ⟨w.heap.size + 1, 0, none⟩ = some (.int .i64 a2) := bs4.cell 0
  have s1 : w4.cell? ⟨w.heap.size + 1, 1, none⟩ = some (.int .i64 b2) := bs4.cell 1
  have s2 : w4.cell? ⟨w.heap.size + 1, 2, none⟩ = some (.int .i64 c2) := bs4.cell 2
  have s3 : w4.cell? ⟨w.heap.size + 1, 3, none⟩ = some (.int .i64 d2) := bs4.cell 3
  clear r0 r1 r2 r3 br3 bs3 hB3 hb4
  go_wp2_with fail
  refine (kright_any _ _ _ _ _).mono ?_
  rintro e w5 ⟨rfl, hb5⟩
  have hB5 : Below w.heap.size w w5 := hB4.trans (hb5.mono hB4.size)
  clear s0 s1 s2 s3
  go_wp2
  go_ret
  exact ⟨rfl, hB5⟩

end Go.Proofs.Ytdgbgmffpcooeaa
