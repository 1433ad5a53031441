/- What the document's own Code (off the grid), Right, Meet and square answer. -/
import Derived.Test.YtdgbgmffpcooeaaRef1
import Derived.Test.YtdgbgmffpcooeaaNext
import Derived.Test.YtdgbgmffpcooeaaKeep
import Derived.RegionTactic
import Derived.ChangeAlike
import Derived.BigRegion
namespace Go.Proofs.Ytdgbgmffpcooeaa
open Go.RowKit

set_option maxHeartbeats 1000000 in
theorem rcode_out (x y : Int) (w : World) (h : onB x y = false) :
    Calls Try.prog 10 #[.int .i64 x, .int .i64 y] w fun e w' => e = .returned (.int .i64 (-1)) ∧ w' = w := by
  unfold onB at h
  rw [decide_eq_false_iff_not] at h
  by_cases h1 : x < 0
  · clear h
    go_enter Try.func10, Try.ntmps10
    go_wp2
    go_ret
    exact ⟨rfl, rfl⟩
  · have t1 : decide (x < 0) = false := by simp; omega
    by_cases h2 : 65536 ≤ x
    · clear h
      go_enter Try.func10, Try.ntmps10
      go_wp2
      go_ret
      exact ⟨rfl, rfl⟩
    · have t2 : decide (65536 ≤ x) = false := by simp; omega
      by_cases h3 : y < 0
      · clear h
        go_enter Try.func10, Try.ntmps10
        go_wp2
        go_ret
        exact ⟨rfl, rfl⟩
      · have t3 : decide (y < 0) = false := by simp; omega
        have h4 : 65536 ≤ y := by omega
        clear h
        go_enter Try.func10, Try.ntmps10
        go_wp2
        go_ret
        exact ⟨rfl, rfl⟩

set_option maxHeartbeats 1000000 in
theorem rright_any (a b c d : Int) (w : World) :
    Calls Try.prog 32 #[.agg #[.int .i64 a, .int .i64 b, .int .i64 c, .int .i64 d]] w fun e w' => e = .returned (.bool (rightB a b c d)) ∧ Below w.heap.size w w' := by
  go_enter Try.func32, Try.ntmps32
  go_wp2
  all_goals
    go_ret
    refine ⟨ret_bool ?_, (Below.refl _ _).alloc (Nat.le_refl _) _⟩
    unfold rightB
    first | (rw [decide_eq_decide]; omega) | (symm; rw [decide_eq_false_iff_not]; omega)

set_option maxHeartbeats 1000000 in
theorem rmeet_raw (a1 b1 c1 d1 a2 b2 c2 d2 m1 m2 m3 m4 : Int) (w : World) (hm1 : (if a1 < a2 then a2 else a1) = m1) (hm2 : (if b1 < b2 then b2 else b1) = m2) (hm3 : (if c2 < c1 then c2 else c1) = m3) (hm4 : (if d2 < d1 then d2 else d1) = m4) :
    Calls Try.prog 36 #[.agg #[.int .i64 a1, .int .i64 b1, .int .i64 c1, .int .i64 d1], .agg #[.int .i64 a2, .int .i64 b2, .int .i64 c2, .int .i64 d2]] w fun e w' =>
      e = .returned (.bool (decide (m1 ≤ m3 ∧ m2 ≤ m4))) ∧ Below w.heap.size w w' := by
  by_cases h1 : m1 ≤ m3
  · by_cases h2 : m2 ≤ m4
    · go_enter Try.func36, Try.ntmps36
      go_wp2
      go_ret
      exact ⟨ret_bool (by simp [h1, h2]), ((Below.refl _ _).alloc (Nat.le_refl _) _).alloc (by simp) _⟩
    · have t2 : decide (m2 ≤ m4) = false := by simp; omega
      go_enter Try.func36, Try.ntmps36
      go_wp2
      go_ret
      exact ⟨ret_bool (by simp), ((Below.refl _ _).alloc (Nat.le_refl _) _).alloc (by simp) _⟩
  · have t1 : decide (m1 ≤ m3) = false := by simp; omega
    go_enter Try.func36, Try.ntmps36
    go_wp2
    go_ret
    exact ⟨ret_bool (by simp), ((Below.refl _ _).alloc (Nat.le_refl _) _).alloc (by simp) _⟩

def metB (s r : Box) : Bool := decide (max s.a r.a ≤ min s.c r.c ∧ max s.b r.b ≤ min s.d r.d)
theorem rmeet_any (s r : Box) (w : World) :
    Calls Try.prog 36 #[.agg #[.int .i64 (s.a : Int), .int .i64 (s.b : Int), .int .i64 (s.c : Int), .int .i64 (s.d : Int)], .agg #[.int .i64 (r.a : Int), .int .i64 (r.b : Int), .int .i64 (r.c : Int), .int .i64 (r.d : Int)]] w fun e w' =>
      e = .returned (.bool (metB s r)) ∧ Below w.heap.size w w' := by
  refine (rmeet_raw _ _ _ _ _ _ _ _ _ _ _ _ w (both_max _ _) (both_max _ _) (both_min _ _) (both_min _ _)).mono ?_
  rintro e w' ⟨rfl, hb⟩
  refine ⟨ret_bool ?_, hb⟩
  unfold metB
  rw [decide_eq_decide]; omega
theorem metB_psq {q f : Nat} {r : Box} (hr : r.ok) (hf : f ≤ 32) (hq : (q + 1) * 2 ^ f ≤ 4294967296) : metB (psq (q * 2 ^ f) f) r = true ↔ ∃ x y, r.has x y ∧ code x y / 2 ^ f = q := by
  obtain ⟨r1, r2, r3, r4⟩ := hr
  unfold metB
  rw [decide_eq_true_iff]
  constructor
  · rintro ⟨h1, h2⟩
    have hs : (psq (q * 2 ^ f) f).has (max (psq (q * 2 ^ f) f).a r.a) (max (psq (q * 2 ^ f) f).b r.b) := ⟨by omega, by omega, by omega, by omega⟩
    exact ⟨_, _, ⟨by omega, by omega, by omega, by omega⟩, (psq_has q f _ _ hf hq (by omega) (by omega)).1 hs⟩
  · rintro ⟨x, y, hxy, e⟩
    obtain ⟨x1, x2, y1, y2⟩ := hxy
    obtain ⟨s1, s2, s3, s4⟩ := (psq_has q f x y hf hq (by omega) (by omega)).2 e
    omega
end Go.Proofs.Ytdgbgmffpcooeaa
