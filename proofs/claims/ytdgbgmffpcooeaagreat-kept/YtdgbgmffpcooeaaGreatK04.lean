/- W2 -/
import Derived.Test.YtdgbgmffpcooeaaGreatK03
section
/- What Right, square, common and the outer Code answer. -/
namespace Go.Proofs.YtdgbgmffpcooeaaGreat
open Go.RowKit

def rightB (a b c d : Int) : Bool := decide (0 ≤ a ∧ a ≤ c ∧ c < 65536 ∧ 0 ≤ b ∧ b ≤ d ∧ d < 65536)
theorem rightB_of (a b c d : Int) : (onB a b && onB c d && decide (a ≤ c) && decide (b ≤ d)) = rightB a b c d := by
  unfold onB rightB
  rw [Bool.eq_iff_iff]
  simp
  omega

abbrev R64 (a b c d : Int) : Value := .agg #[.int .i64 a, .int .i64 b, .int .i64 c, .int .i64 d]

set_option maxHeartbeats 400000 in
theorem right_any (a b c d : Int) (w : World) :
    Calls Tryz.prog 59 #[.agg #[.int .i64 a, .int .i64 b, .int .i64 c, .int .i64 d]] w fun e w' => e = .returned (.bool (rightB a b c d)) ∧ Below w.heap.size w w' := by
  have hr := rightB_of a b c d
  have H : Hid ((onB a b && onB c d && decide (a ≤ c) && decide (b ≤ d)) = rightB a b c d) := hr
  clear hr
  cases h1 : onB a b <;> cases h2 : onB c d <;> by_cases h3 : a ≤ c <;> by_cases h4 : b ≤ d
  all_goals
    go_enter Tryz.func59, Tryz.ntmps59
    go_wp2_with (go_at_call 79; refine (ongrid_any _ _ _).mono ?_; rintro e w' ⟨rfl, rfl⟩)
    go_ret
    refine ⟨ret_bool ?_, (Below.refl _ _).alloc (Nat.le_refl _) _⟩
    rw [← H.out]
    simp [h1, h2, h3, h4]

set_option maxHeartbeats 400000 in
theorem last_of (k : Nat) (hk : k ≤ 16) : wrap64 (wrap64 (2 ^ k) - 1) = ((2 ^ k - 1 : Nat) : Int) := by
  have h2 : 2 ^ k ≤ 2 ^ 16 := Nat.pow_le_pow_right (by decide) (by omega)
  have h0 := Nat.two_pow_pos k
  rw [pow_cast, wrap64_nat _ (by omega)]
  unfold wrap64; omega
set_option maxHeartbeats 400000 in
theorem square_any (p k : Nat) (w : World) (hk : k ≤ 16) (hp : (p + 1) * 4 ^ k ≤ 4294967296) (c : Nat) (hc : c = p * 4 ^ k) :
    Calls Tryz.prog 91 #[.agg #[.int .i64 c, .int .i64 k]] w fun e w' => e = .returned (.agg #[.int .i64 (sqr p k).a, .int .i64 (sqr p k).b, .int .i64 (sqr p k).c, .int .i64 (sqr p k).d]) ∧ Below w.heap.size w w' := by
  have hc' : c < 4294967296 := by
    have q := Nat.pow_pos (n := k) (show 0 < 4 by decide)
    rw [Nat.add_mul] at hp; omega
  clear hp
  have HC : Hid (c = p * 4 ^ k) := hc
  clear hc
  go_enter Tryz.func91, Tryz.ntmps91
  go_wp2_with (go_at_call 124; refine (point_any _ _ hc').mono ?_; rintro e w' ⟨rfl, rfl⟩)
  have hs := sqr_lt p k hk
  simp only [sqr, ← HC.out] at hs
  have e1 : wrap64 (↑(dex 16 c) + wrap64 (wrap64 (2 ^ k) - 1)) = ((sqr p k).c : Int) := by
    rw [last_of k hk]; simp only [sqr, ← HC.out]; unfold wrap64; omega
  have e2 : wrap64 (↑(dey 16 c) + wrap64 (wrap64 (2 ^ k) - 1)) = ((sqr p k).d : Int) := by
    rw [last_of k hk]; simp only [sqr, ← HC.out]; unfold wrap64; omega
  have e3 : dex 16 c = (sqr p k).a := by simp only [sqr, ← HC.out]
  have e4 : dey 16 c = (sqr p k).b := by simp only [sqr, ← HC.out]
  rw [e1, e2, e3, e4]
  exact bodyPost_ret (v := .agg #[.int .i64 (sqr p k).a, .int .i64 (sqr p k).b, .int .i64 (sqr p k).c, .int .i64 (sqr p k).d]) (by simp [results, Tryz.results91, go_sem]) rfl ⟨rfl, ((Below.refl _ _).alloc (Nat.le_refl _) _).alloc (by simp) _⟩

end Go.Proofs.YtdgbgmffpcooeaaGreat
end
