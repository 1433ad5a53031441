/- What the document's own Code, Right and Meet answer. -/
import Derived.Test.YtdgbgmffpcooeaaW3
import Derived.Test.YtdgbgmffpcooeaaRMath
import Derived.RegionTactic
namespace Go.Proofs.Ytdgbgmffpcooeaa
open Go.RowKit

theorem bit_tmod2 (c j n : Nat) (hn : n < 32) : wrap64 (((c : Int) / 2 ^ j).tmod 2 * 2 ^ n) = ((c / 2 ^ j % 2 * 2 ^ n : Nat) : Int) := by
  rw [pow_cast j, div_cast, Int.tmod_eq_emod_of_nonneg (Int.natCast_nonneg _), show ((c / 2 ^ j : Nat) : Int) % 2 = ((c / 2 ^ j % 2 : Nat) : Int) by omega, pow_cast n, ← Int.natCast_mul]
  have hp : 2 ^ n ≤ 2 ^ 31 := Nat.pow_le_pow_right (by decide) (by omega)
  have : c / 2 ^ j % 2 * 2 ^ n ≤ 1 * 2 ^ n := Nat.mul_le_mul_right _ (by omega)
  exact wrap64_nat _ (by omega)
theorem rcode_round (x y k : Nat) (hk : k < 16) : wrap64 (wrap64 ((cod k x y : Int) + wrap64 (((x : Int) / 2 ^ k).tmod 2 * 2 ^ (2 * k))) + wrap64 (((y : Int) / 2 ^ k).tmod 2 * 2 ^ (2 * k + 1))) = (cod (k + 1) x y : Int) := by
  have hl := cod_lt k x y
  have hp : 4 ^ k ≤ 4 ^ 15 := Nat.pow_le_pow_right (by decide) (by omega)
  have e2 : 2 ^ (2 * k + 1) = 2 * 4 ^ k := by rw [Nat.pow_succ, four_pow, Nat.mul_comm]
  rw [bit_tmod2 x k _ (by omega), bit_tmod2 y k _ (by omega), cod_top, e2, ← four_pow]
  have m1 : x / 2 ^ k % 2 * 4 ^ k ≤ 1 * 4 ^ k := Nat.mul_le_mul_right _ (by omega)
  have m2 : y / 2 ^ k % 2 * (2 * 4 ^ k) ≤ 1 * (2 * 4 ^ k) := Nat.mul_le_mul_right _ (by omega)
  generalize x / 2 ^ k % 2 * 4 ^ k = a at *
  generalize y / 2 ^ k % 2 * (2 * 4 ^ k) = b at *
  generalize 4 ^ k = q at *
  rw [← Int.natCast_add, wrap64_nat _ (by omega), ← Int.natCast_add, wrap64_nat _ (by omega)]

set_option maxRecDepth 100000 in
set_option maxHeartbeats 400000 in
theorem rcode_in (x y : Nat) (w : World) (hx : x < 65536) (hy : y < 65536) :
    Calls Try.prog 10 #[.int .i64 x, .int .i64 y] w fun e w' => e = .returned (.int .i64 (code x y)) ∧ Below w.heap.size w w' := by
  have t1 : decide ((x : Int) < 0) = false := by simp
  have t2 : decide ((65536 : Int) ≤ (x : Int)) = false := by simp; omega
  have t3 : decide ((y : Int) < 0) = false := by simp
  have t4 : decide ((65536 : Int) ≤ (y : Int)) = false := by simp; omega
  have t5 : decide (65536 ≤ x) = false := by simp; omega
  have t6 : decide (65536 ≤ y) = false := by simp; omega
  clear hx hy
  go_enter Try.func10, Try.ntmps10
  go_wp2
  go_loopw [5, 6] (fun c i wr => ∃ k : Nat, k ≤ 16 ∧ i = .int .i64 (k : Int) ∧ (∃ n : Nat, Hid (n = cod k x y) ∧ c = .int .i64 (n : Int)) ∧ Below w.heap.size w wr) (fun _ i _ => 16 - (intOf i).toNat)
  case atStart => exact ⟨0, by omega, rfl, ⟨0, rfl, rfl⟩, Below.refl _ _⟩
  case round =>
    obtain ⟨k, hk, rfl, ⟨n, hn, rfl⟩, hB⟩ := hrel
    by_cases hlt : k < 16
    · have hlt' : (k : Int) < 16 := by omega
      have ex := rcode_round x y k hlt
      rw [← hn.out] at ex
      obtain ⟨N, hN⟩ : ∃ N, N = cod (k + 1) x y := ⟨_, rfl⟩
      rw [← hN] at ex
      have EX := (show Hid (wrap64 (wrap64 ((n : Int) + wrap64 (((x : Int) / 2 ^ k).tmod 2 * 2 ^ (2 * k))) + wrap64 (((y : Int) / 2 ^ k).tmod 2 * 2 ^ (2 * k + 1))) = (N : Int)) from ex)
      have HN : Hid (N = cod (k + 1) x y) := hN
      clear ex hN
      go_wp2
      go_quiet (fail)
      rw [EX.out]
      go_wp2
      go_roundw
      case rel => exact ⟨k + 1, by omega, by go_num, ⟨N, HN, rfl⟩, below_drewN hB _⟩
      case measure => simp [intOf]; omega
    · have hk16 : k = 16 := by omega
      have hcc : Hid (n = code x y) := by show n = code x y; rw [hn.out, hk16, code]
      have hn' : ¬ (k : Int) < 16 := by omega
      clear hk16
      go_wp2
      go_ret
      exact ⟨ret_int (by rw [hcc.out]), hB⟩
end Go.Proofs.Ytdgbgmffpcooeaa
