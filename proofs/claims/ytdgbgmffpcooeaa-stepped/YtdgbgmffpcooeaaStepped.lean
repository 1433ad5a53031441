/- The walk of Stepped. -/
import Derived.Test.YtdgbgmffpcooeaaW3
import Derived.Test.YtdgbgmffpcooeaaCount
namespace Go.Proofs.Ytdgbgmffpcooeaa
open Go.RowKit

theorem codes_small {r : Box} (h1 : r.c ≤ r.a + 15) (h2 : r.d ≤ r.b + 15) : (codes r).length ≤ 256 := by
  rw [length_codes]
  calc (r.c - r.a + 1) * (r.d - r.b + 1) ≤ 16 * 16 := Nat.mul_le_mul (by omega) (by omega)
    _ = 256 := rfl
theorem total_eq {r : Box} (hr : r.ok) (h1 : r.c ≤ r.a + 15) (h2 : r.d ≤ r.b + 15) (k : Nat) (hk : k = (codes r).length) :
    ((k : Int) == wrap64 (((r.c : Int) - (r.a : Int) + 1) * ((r.d : Int) - (r.b : Int) + 1))) = true := by
  have h := codes_small h1 h2
  have e : ((r.c : Int) - (r.a : Int) + 1) * ((r.d : Int) - (r.b : Int) + 1) = (((r.c - r.a + 1) * (r.d - r.b + 1) : Nat) : Int) := by
    have := hr.1; have := hr.2.2.1
    rw [show (r.c : Int) - (r.a : Int) + 1 = ((r.c - r.a + 1 : Nat) : Int) by omega, show (r.d : Int) - (r.b : Int) + 1 = ((r.d - r.b + 1 : Nat) : Int) by omega]
    rw [Int.natCast_mul]
  rw [e, ← length_codes, wrap64_nat _ (by omega), hk]
  simp
theorem min_box (x a : Nat) (hx : x < 65536) : ∃ c : Nat, (if (65535 : Int) < (x : Int) + (a : Int) then (65535 : Int) else (x : Int) + (a : Int)) = (c : Int) ∧ x ≤ c ∧ c < 65536 ∧ c ≤ x + a := by
  by_cases h : (65535 : Int) < (x : Int) + (a : Int)
  · exact ⟨65535, by rw [if_pos h]; rfl, by omega, by omega, by omega⟩
  · exact ⟨x + a, by rw [if_neg h]; omega, by omega, by omega, by omega⟩

def NextSays : Prop := ∀ (c : Nat) (_ : c < 4294967296) (r : Box) (_ : r.ok) (w : World),
    Calls Try.prog 9 #[.int .i64 (c : Int), .agg #[.int .i64 (r.a : Int), .int .i64 (r.b : Int), .int .i64 (r.c : Int), .int .i64 (r.d : Int)]] w fun e w' => (∃ m : Int, e = .returned (.tuple #[.int .i64 m, .int .i64 0]) ∧ IsNext c r m) ∧ Below w.heap.size w w'

set_option maxRecDepth 100000 in
set_option maxHeartbeats 1000000 in
theorem stepped_any (qnext : NextSays) (x y u v : Int) (wx : (Lit.int .i64 x).wf = true) (wy : (Lit.int .i64 y).wf = true) (wu : (Lit.int .i64 u).wf = true) (wv : (Lit.int .i64 v).wf = true) (w : World) :
    Calls Try.prog 5 #[.int .i64 x, .int .i64 y, .int .i64 u, .int .i64 v] w fun e w' => e = .returned (.bool true) ∧ Below w.heap.size w w' := by
  go_enter Try.func5, Try.ntmps5
  go_wp2_with fail
  refine (pick_any x 65536 w (by omega) wx).mono ?_
  rintro e w' ⟨⟨a, ha, rfl⟩, hw'⟩; have hw2 := hw'.symm; clear hw'; subst hw2
  go_wp2_with fail
  refine (pick_any y 65536 _ (by omega) wy).mono ?_
  rintro e w' ⟨⟨b, hb, rfl⟩, hw'⟩; have hw2 := hw'.symm; clear hw'; subst hw2
  go_wp2_with fail
  refine (pick_any u 16 _ (by omega) wu).mono ?_
  rintro e w' ⟨⟨i, hi, rfl⟩, hw'⟩; have hw2 := hw'.symm; clear hw'; subst hw2
  obtain ⟨c, hcm, hc1, hc2, hc3⟩ := min_box a i ha
  go_wp2_with fail
  refine (pick_any v 16 _ (by omega) wv).mono ?_
  rintro e w' ⟨⟨j, hj, rfl⟩, hw'⟩; have hw2 := hw'.symm; clear hw'; subst hw2
  obtain ⟨d, hdm, hd1, hd2, hd3⟩ := min_box b j hb
  obtain ⟨r, hra, hrb, hrc, hrd⟩ : ∃ r : Box, r.a = a ∧ r.b = b ∧ r.c = c ∧ r.d = d := ⟨⟨a, b, c, d⟩, rfl, rfl, rfl, rfl⟩
  subst hra; subst hrb; subst hrc; subst hrd
  have hr : r.ok := ⟨hc1, hc2, hd1, hd2⟩
  have g1 : r.c ≤ r.a + 15 := by omega
  have g2 : r.d ≤ r.b + 15 := by omega
  go_wp2
  clear hcm hdm hc3 hd3 hi hj
  go_loopw [10, 11, 12] (fun n l i wr => ∃ k b : Nat, i = .int .i64 (k : Int) ∧ n = .int .i64 (k : Int) ∧ l = .int .i64 ((b : Int) - 1) ∧ b ≤ 4294967296 ∧ Hid (under (codes r) b = k) ∧ k ≤ 256 ∧ Below (w.heap.size + 1) (w.alloc (.cells #[.int .i64 (r.a : Int), .int .i64 (r.b : Int), .int .i64 (r.c : Int), .int .i64 (r.d : Int)] 30)) wr) (fun _ _ i _ => 300 - (intOf i).toNat)
  case atStart => exact ⟨0, 0, rfl, rfl, rfl, by omega, under_zero _, by omega, Below.refl _ _⟩
  case round =>
    obtain ⟨k, b, rfl, rfl, rfl, hb, hu, hk, hB⟩ := hrel
    have c0 : wr.cell? ⟨w.heap.size, 0, none⟩ = some (.int .i64 (r.a : Int)) := (hB.cell (p := ⟨w.heap.size, 0, none⟩) (by simp)).trans (by simp)
    have c1 : wr.cell? ⟨w.heap.size, 1, none⟩ = some (.int .i64 (r.b : Int)) := (hB.cell (p := ⟨w.heap.size, 1, none⟩) (by simp)).trans (by simp)
    have c2 : wr.cell? ⟨w.heap.size, 2, none⟩ = some (.int .i64 (r.c : Int)) := (hB.cell (p := ⟨w.heap.size, 2, none⟩) (by simp)).trans (by simp)
    have c3 : wr.cell? ⟨w.heap.size, 3, none⟩ = some (.int .i64 (r.d : Int)) := (hB.cell (p := ⟨w.heap.size, 3, none⟩) (by simp)).trans (by simp)
    have hB' : Below w.heap.size w wr := ((Below.refl _ w).alloc (Nat.le_refl _) _).trans (hB.mono (by omega))
    have hk3 : (k : Int) < 300 := by omega
    by_cases hbt : b = 4294967296
    · have ht : ((b : Int) - 1 == 4294967295) = true := by simp; omega
      have hkl : k = (codes r).length := by rw [← next_top hr, ← hbt, hu.out]
      have htot := total_eq hr g1 g2 k hkl
      clear hkl hbt
      go_wp2
      go_ret
      exact ⟨rfl, hB'⟩
    · have ht : ((b : Int) - 1 == 4294967295) = false := by simp; omega
      have hb2 : b < 4294967296 := by omega
      clear hbt
      go_wp2_with fail
      refine (qnext b hb2 r hr _).mono ?_
      rintro e w1 ⟨⟨m, rfl, hm⟩, hb1⟩
      have hs := hB.size
      simp at hs
      have hB1 := hB.trans (hb1.mono hs)
      have hB1' : Below w.heap.size w w1 := hB'.trans (hb1.mono (by omega))
      clear c0 c1 c2 c3 hB hB' hb1 hs
      have c0 : w1.cell? ⟨w.heap.size, 0, none⟩ = some (.int .i64 (r.a : Int)) := (hB1.cell (p := ⟨w.heap.size, 0, none⟩) (by simp)).trans (by simp)
      have c1 : w1.cell? ⟨w.heap.size, 1, none⟩ = some (.int .i64 (r.b : Int)) := (hB1.cell (p := ⟨w.heap.size, 1, none⟩) (by simp)).trans (by simp)
      have c2 : w1.cell? ⟨w.heap.size, 2, none⟩ = some (.int .i64 (r.c : Int)) := (hB1.cell (p := ⟨w.heap.size, 2, none⟩) (by simp)).trans (by simp)
      have c3 : w1.cell? ⟨w.heap.size, 3, none⟩ = some (.int .i64 (r.d : Int)) := (hB1.cell (p := ⟨w.heap.size, 3, none⟩) (by simp)).trans (by simp)
      by_cases hm0 : m < 0
      · have hkl : k = (codes r).length := by rw [← next_end hr hm hm0, hu.out]
        have htot := total_eq hr g1 g2 k hkl
        clear hkl hm hB1
        go_wp2
        go_ret
        exact ⟨rfl, hB1'⟩
      · obtain ⟨c, hmc, hbc, hcl, ⟨x0, y0, hxy, hcode⟩, hstep⟩ := next_step hr hm (by omega)
        subst hmc
        have hku : k + 1 ≤ 256 := by
          have := under_le (codes r) (c + 1)
          have := codes_small g1 g2
          rw [hstep, hu.out] at *
          omega
        have HS : Hid (under (codes r) (c + 1) = k + 1) := by rw [hu.out] at hstep; exact hstep
        have HC : Hid (c = code x0 y0) := hcode
        obtain ⟨hx1, hx2, hy1, hy2⟩ := hxy
        clear hm hstep hcode hu hm0
        have hc0 : (0 : Int) ≤ (c : Int) := by omega
        have hcb : ¬ ((c : Int) ≤ (b : Int) - 1) := by omega
        go_wp2
        go_loop [15, 16] (fun f px => ∃ (q : Bool) (p : Nat), f = .bool q ∧ px = .int .i64 (p : Int) ∧ p ≤ r.c + 1 ∧ r.a ≤ p ∧ (q = false → p ≤ x0)) (fun _ px => r.c + 1 - (intOf px).toNat)
        case atStart => exact ⟨false, r.a, rfl, rfl, by omega, by omega, fun _ => hx1⟩
        case round =>
          obtain ⟨q, p, rfl, rfl, hp1, hp2, hq⟩ := hrel
          cases q with
          | true =>
            clear hq
            by_cases hp : p ≤ r.c
            · have hp' : (p : Int) ≤ (r.c : Int) := by omega
              go_wp2
              go_roundw
              case rel => exact ⟨k + 1, c + 1, by go_num, by go_num, by go_num, by omega, HS, by omega, hB1⟩
              case measure => simp [intOf]; omega
            · have hp' : ¬ (p : Int) ≤ (r.c : Int) := by omega
              go_wp2
              go_roundw
              case rel => exact ⟨k + 1, c + 1, by go_num, by go_num, by go_num, by omega, HS, by omega, hB1⟩
              case measure => simp [intOf]; omega
          | false =>
            have hpx := hq rfl
            have hp' : (p : Int) ≤ (r.c : Int) := by omega
            clear hq
            go_wp2
            go_loop [15, 17] (fun f py => ∃ (q : Bool) (t : Nat), f = .bool q ∧ py = .int .i64 (t : Int) ∧ t ≤ r.d + 1 ∧ r.b ≤ t ∧ (q = false → p = x0 → t ≤ y0)) (fun _ py => r.d + 1 - (intOf py).toNat)
            case atStart => exact ⟨false, r.b, rfl, rfl, by omega, by omega, fun _ _ => hy1⟩
            case round =>
              obtain ⟨q, t, rfl, rfl, ht1, ht2, hq⟩ := hrel
              cases q with
              | true =>
                clear hq
                by_cases hp : t ≤ r.d
                · have hp2 : (t : Int) ≤ (r.d : Int) := by omega
                  go_wp2
                  go_round
                  case rel => exact ⟨true, p + 1, rfl, by go_num, by omega, by omega, fun h => by cases h⟩
                  case measure => simp [intOf]; omega
                · have hp2 : ¬ (t : Int) ≤ (r.d : Int) := by omega
                  go_wp2
                  go_round
                  case rel => exact ⟨true, p + 1, rfl, by go_num, by omega, by omega, fun h => by cases h⟩
                  case measure => simp [intOf]; omega
              | false =>
                have hq' := hq rfl
                clear hq
                by_cases hp : t ≤ r.d
                · have hp2 : (t : Int) ≤ (r.d : Int) := by omega
                  go_wp2_with (go_at_call 7; refine (qcode_in _ _ _ (by omega) (by omega)).mono ?_; rintro e w3 ⟨rfl, hw3⟩; have hw4 := hw3.symm; clear hw3; subst hw4)
                  refine ⟨⟨_, t + 1, rfl, by go_num, by omega, by omega, fun hf hpe => ?_⟩, by simp [intOf]; omega⟩
                  have h1 := hq' hpe
                  have h2 : t ≠ y0 := by
                    intro e
                    rw [e, hpe, ← HC.out] at hf
                    simp at hf
                  omega
                · have hp2 : ¬ (t : Int) ≤ (r.d : Int) := by omega
                  go_wp2
                  go_round
                  case rel => exact ⟨false, p + 1, rfl, by go_num, by omega, by omega, fun _ => by omega⟩
                  case measure => simp [intOf]; omega
end Go.Proofs.Ytdgbgmffpcooeaa
