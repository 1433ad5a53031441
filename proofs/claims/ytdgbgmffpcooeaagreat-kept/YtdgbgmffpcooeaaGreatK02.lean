/- Bits -/
import Derived.WalkKit
import Derived.WalkSpells
import Derived.OpenShut
import Derived.Laws.BitsAllLaws
import Derived.Test.YtdgbgmffpcooeaaGreatK01
section
/- Plain facts on 64-bit numbers, in the forms that the walks show: no program is looked at here. -/
namespace Go.Proofs.YtdgbgmffpcooeaaGreat
open Go.RowKit

theorem wrap_i64_nat (a : Nat) (h : a < 9223372036854775808) : IntKind.i64.wrap (a : Int) = a := by
  simp [IntKind.wrap, IntKind.bits, IntKind.signed]
  omega
theorem or_i64 (a b : Nat) (ha : a < 4611686018427387904) (hb : b < 4611686018427387904) : bits .or .i64 (a : Int) (b : Int) = ((a ||| b : Nat) : Int) := by
  have hx : a ||| b < 2 ^ 62 := Nat.or_lt_two_pow (by omega) (by omega)
  show IntKind.i64.wrap ((BitVec.ofInt 64 (a : Int) ||| BitVec.ofInt 64 (b : Int)).toNat : Int) = _
  rw [BitVec.toNat_or, ofInt_u64 a (by omega), ofInt_u64 b (by omega)]
  exact wrap_i64_nat _ (by omega)
theorem and1_i64 (a : Nat) (ha : a < 4611686018427387904) : bits .and .i64 (a : Int) 1 = ((a % 2 : Nat) : Int) := by
  show IntKind.i64.wrap ((BitVec.ofInt 64 (a : Int) &&& BitVec.ofInt 64 ((1 : Nat) : Int)).toNat : Int) = _
  rw [BitVec.toNat_and, ofInt_u64 a (by omega), ofInt_u64 1 (by omega), nat_mask1]
  exact wrap_i64_nat _ (by omega)
theorem wrap64_nat (a : Nat) (h : a < 9223372036854775808) : wrap64 (a : Int) = a := by unfold wrap64; omega

theorem div_cast (x q : Nat) : ((x : Int) / (q : Int)) = ((x / q : Nat) : Int) := by simp
theorem pow_cast (k : Nat) : ((2 : Int) ^ k) = ((2 ^ k : Nat) : Int) := by simp

/-- The bit that a round lays into the code. -/
theorem bit_of (x k j : Nat) (hx : x < 4611686018427387904) (hj : j < 62) : wrap64 (bits .and .i64 ((x : Int) / 2 ^ k) 1 * 2 ^ j) = ((x / 2 ^ k % 2 * 2 ^ j : Nat) : Int) := by
  have h1 : x / 2 ^ k ≤ x := Nat.div_le_self _ _
  have h2 : 2 ^ j ≤ 2 ^ 61 := Nat.pow_le_pow_right (by decide) (by omega)
  rw [pow_cast k, pow_cast j, div_cast, and1_i64 _ (by omega), ← Int.natCast_mul]
  refine wrap64_nat _ ?_
  have : x / 2 ^ k % 2 * 2 ^ j ≤ 1 * 2 ^ j := Nat.mul_le_mul_right _ (by omega)
  omega
/-- Laid above all that is there. -/
theorem or_above (a b j : Nat) (ha : a < 2 ^ j) : a ||| b * 2 ^ j = a + b * 2 ^ j := by
  rw [Nat.or_comm, nat_join j (b * 2 ^ j) a (by simp) ha, Nat.add_comm]

theorem code_round (n x y k : Nat) (hk : k < 16) (hn : n = cod k x y) (hx : x < 65536) (hy : y < 65536) :
    bits .or .i64 (bits .or .i64 (n : Int) (wrap64 (bits .and .i64 ((x : Int) / 2 ^ k) 1 * 2 ^ (2 * k)))) (wrap64 (bits .and .i64 ((y : Int) / 2 ^ k) 1 * 2 ^ (2 * k + 1))) = ((cod (k + 1) x y : Nat) : Int) := by
  have hl := cod_lt k x y
  have e4 : 4 ^ k = 2 ^ (2 * k) := by rw [show 4 = 2 ^ 2 from rfl, ← Nat.pow_mul]
  have hp : 2 ^ (2 * k) ≤ 2 ^ 30 := Nat.pow_le_pow_right (by decide) (by omega)
  rw [bit_of x k _ (by omega) (by omega), bit_of y k _ (by omega) (by omega)]
  have ha : x / 2 ^ k % 2 < 2 := by omega
  have hb : y / 2 ^ k % 2 < 2 := by omega
  rw [cod_top, ← hn, e4]
  rw [← hn, e4] at hl
  generalize x / 2 ^ k % 2 = a at *
  generalize y / 2 ^ k % 2 = b at *
  have m1 : a * 2 ^ (2 * k) ≤ 1 * 2 ^ (2 * k) := Nat.mul_le_mul_right _ (by omega)
  have m2 : b * 2 ^ (2 * k + 1) ≤ 1 * 2 ^ (2 * k + 1) := Nat.mul_le_mul_right _ (by omega)
  have ps : 2 ^ (2 * k + 1) = 2 * 2 ^ (2 * k) := by rw [Nat.pow_succ, Nat.mul_comm]
  rw [or_i64 n _ (by omega) (by omega), or_above n a _ hl, or_i64 _ _ (by omega) (by omega), or_above _ b _ (by omega), ps]

theorem dex_round (n c k : Nat) (hk : k < 16) (hn : n = dex k c) (hc : c < 4294967296) :
    bits .or .i64 (n : Int) (wrap64 (bits .and .i64 ((c : Int) / 2 ^ (2 * k)) 1 * 2 ^ k)) = ((dex (k + 1) c : Nat) : Int) := by
  have hl := dex_lt k c
  have e4 : 4 ^ k = 2 ^ (2 * k) := by rw [show 4 = 2 ^ 2 from rfl, ← Nat.pow_mul]
  have hp : 2 ^ k ≤ 2 ^ 15 := Nat.pow_le_pow_right (by decide) (by omega)
  rw [bit_of c _ _ (by omega) (by omega), dex_top, ← hn, e4]
  rw [← hn] at hl
  have ha : c / 2 ^ (2 * k) % 2 < 2 := by omega
  generalize c / 2 ^ (2 * k) % 2 = a at *
  have m1 : a * 2 ^ k ≤ 1 * 2 ^ k := Nat.mul_le_mul_right _ (by omega)
  rw [or_i64 n _ (by omega) (by omega), or_above n a _ hl]
theorem dey_round (n c k : Nat) (hk : k < 16) (hn : n = dey k c) (hc : c < 4294967296) :
    bits .or .i64 (n : Int) (wrap64 (bits .and .i64 ((c : Int) / 2 ^ (2 * k + 1)) 1 * 2 ^ k)) = ((dey (k + 1) c : Nat) : Int) := by
  have hl := dey_lt k c
  have e4 : 4 ^ k * 2 = 2 ^ (2 * k + 1) := by rw [Nat.pow_succ, show 4 = 2 ^ 2 from rfl, ← Nat.pow_mul]
  have hp : 2 ^ k ≤ 2 ^ 15 := Nat.pow_le_pow_right (by decide) (by omega)
  rw [bit_of c _ _ (by omega) (by omega), dey_top, ← hn, e4]
  rw [← hn] at hl
  have ha : c / 2 ^ (2 * k + 1) % 2 < 2 := by omega
  generalize c / 2 ^ (2 * k + 1) % 2 = a at *
  have m1 : a * 2 ^ k ≤ 1 * 2 ^ k := Nat.mul_le_mul_right _ (by omega)
  rw [or_i64 n _ (by omega) (by omega), or_above n a _ hl]

/-- pick: whatever comes in, a number below n. -/
theorem pick_neg (c : Int) (n : Nat) (hn : 0 < n) (h : (Lit.int .i64 c).wf = true) (hc : c < 0) : ∃ r : Nat, r < n ∧ (wrap64 (-wrap64 (c + 1))).tmod (n : Int) = r := by
  have hb := bounds_i64 h
  have e1 : wrap64 (c + 1) = c + 1 := by unfold wrap64; omega
  have e2 : wrap64 (-(c + 1)) = -(c + 1) := by unfold wrap64; omega
  rw [e1, e2, Int.tmod_eq_emod_of_nonneg (by omega)]
  have g0 := Int.emod_nonneg (-(c + 1)) (show (n : Int) ≠ 0 by omega)
  have g1 := Int.emod_lt_of_pos (-(c + 1)) (show (0 : Int) < n by omega)
  exact ⟨(-(c + 1) % (n : Int)).toNat, by omega, by omega⟩
theorem pick_pos (c : Int) (n : Nat) (hn : 0 < n) : ∃ r : Nat, r < n ∧ c % (n : Int) = r := by
  have g0 := Int.emod_nonneg c (show (n : Int) ≠ 0 by omega)
  have g1 := Int.emod_lt_of_pos c (show (0 : Int) < n by omega)
  exact ⟨(c % (n : Int)).toNat, by omega, by omega⟩
end Go.Proofs.YtdgbgmffpcooeaaGreat
end
