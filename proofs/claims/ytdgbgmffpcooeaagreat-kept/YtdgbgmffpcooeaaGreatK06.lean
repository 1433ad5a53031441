/- Size -/
import Derived.Test.YtdgbgmffpcooeaaGreatK05
section
/- What coverSize answers: the least size at which a rectangle's cells stand in two columns and two rows at most. -/
namespace Go.Proofs.YtdgbgmffpcooeaaGreat
open Go.RowKit

/-- At this size the cells stand in two columns and two rows at most. -/
def Fits (r : Box) (k : Nat) : Prop := r.c / 2 ^ k ≤ r.a / 2 ^ k + 1 ∧ r.d / 2 ^ k ≤ r.b / 2 ^ k + 1
/-- The least size that fits. -/
def IsSize (r : Box) (k : Nat) : Prop := Fits r k ∧ ∀ j, j < k → ¬ Fits r j
theorem fits15 {r : Box} (h : r.ok) : Fits r 15 := by
  obtain ⟨h1, h2, h3, h4⟩ := h
  unfold Fits; omega
theorem size_le {r : Box} {k : Nat} (h : r.ok) (hk : IsSize r k) : k ≤ 15 := by
  refine Nat.le_of_not_lt fun g => hk.2 15 g (fits15 h)
theorem size_unique {r : Box} {k l : Nat} (hk : IsSize r k) (hl : IsSize r l) : k = l := by
  rcases Nat.lt_trichotomy k l with g | g | g
  · exact absurd hk.1 (hl.2 k g)
  · exact g
  · exact absurd hl.1 (hk.2 l g)

theorem shr_nat (x k : Nat) : ((x : Int) / 2 ^ k) = ((x / 2 ^ k : Nat) : Int) := by rw [pow_cast, div_cast]

set_option maxHeartbeats 1000000 in
theorem size_any (r : Box) (hr : r.ok) (w : World) :
    Calls Tryz.prog 138 #[.agg #[.int .i64 (r.a : Int), .int .i64 (r.b : Int), .int .i64 (r.c : Int), .int .i64 (r.d : Int)]] w fun e w' => (∃ k : Nat, e = .returned (.int .i64 (k : Int)) ∧ IsSize r k) ∧ Below w.heap.size w w' := by
  go_enter Tryz.func138, Tryz.ntmps138
  go_wp2
  go_loopw [3] (fun i wr => ∃ k : Nat, i = .int .i64 (k : Int) ∧ k ≤ 15 ∧ (∀ j, j < k → ¬ Fits r j) ∧ Below (w.heap.size + 1) (w.alloc (.cells #[.int .i64 (r.a : Int), .int .i64 (r.b : Int), .int .i64 (r.c : Int), .int .i64 (r.d : Int)] 34)) wr) (fun i _ => 16 - (intOf i).toNat)
  case atStart => exact ⟨0, rfl, by omega, fun j h => by omega, Below.refl _ _⟩
  case round =>
    obtain ⟨k, rfl, hk, hno, hB⟩ := hrel
    have c0 : wr.cell? ⟨w.heap.size, 0, none⟩ = some (.int .i64 (r.a : Int)) := (hB.cell (p := ⟨w.heap.size, 0, none⟩) (by simp)).trans (by simp)
    have c1 : wr.cell? ⟨w.heap.size, 1, none⟩ = some (.int .i64 (r.b : Int)) := (hB.cell (p := ⟨w.heap.size, 1, none⟩) (by simp)).trans (by simp)
    have c2 : wr.cell? ⟨w.heap.size, 2, none⟩ = some (.int .i64 (r.c : Int)) := (hB.cell (p := ⟨w.heap.size, 2, none⟩) (by simp)).trans (by simp)
    have c3 : wr.cell? ⟨w.heap.size, 3, none⟩ = some (.int .i64 (r.d : Int)) := (hB.cell (p := ⟨w.heap.size, 3, none⟩) (by simp)).trans (by simp)
    have hB' : Below w.heap.size w wr := ((Below.refl _ w).alloc (Nat.le_refl _) _).trans (hB.mono (by omega))
    obtain ⟨A, hA⟩ : ∃ A, r.a / 2 ^ k = A := ⟨_, rfl⟩
    obtain ⟨C, hC⟩ : ∃ A, r.c / 2 ^ k = A := ⟨_, rfl⟩
    obtain ⟨B, hBb⟩ : ∃ A, r.b / 2 ^ k = A := ⟨_, rfl⟩
    obtain ⟨D, hD⟩ : ∃ A, r.d / 2 ^ k = A := ⟨_, rfl⟩
    have sA := shr_nat r.a k
    have sB := shr_nat r.b k
    have sC := shr_nat r.c k
    have sD := shr_nat r.d k
    rw [hA] at sA; rw [hBb] at sB; rw [hC] at sC; rw [hD] at sD
    have HF : Hid (Fits r k ↔ (C ≤ A + 1 ∧ D ≤ B + 1)) := by show Fits r k ↔ _; unfold Fits; rw [hA, hC, hBb, hD]
    have lA : A ≤ r.a := by rw [← hA]; exact Nat.div_le_self _ _
    have lB : B ≤ r.b := by rw [← hBb]; exact Nat.div_le_self _ _
    have lC : C ≤ r.c := by rw [← hC]; exact Nat.div_le_self _ _
    have lD : D ≤ r.d := by rw [← hD]; exact Nat.div_le_self _ _
    have hr2 := hr.2.1
    have hr4 := hr.2.2.2
    have hr1 := hr.1
    have hr3 := hr.2.2.1
    clear hA hC hBb hD
    have hgo : ¬ Fits r k → k + 1 ≤ 15 ∧ ∀ j, j < k + 1 → ¬ Fits r j := fun hn => by
      refine ⟨?_, fun j hj => ?_⟩
      · refine Nat.lt_of_le_of_ne hk fun e => hn ?_
        rw [e]; exact fits15 hr
      · rcases Nat.lt_or_ge j k with g | g
        · exact hno j g
        · rw [show j = k by omega]; exact hn
    have HG : Hid (¬ Fits r k → k + 1 ≤ 15 ∧ ∀ j, j < k + 1 → ¬ Fits r j) := hgo
    clear hgo
    by_cases h1 : A + 1 < C
    · have t1 : (1 : Int) < (C : Int) - (A : Int) := by omega
      obtain ⟨g1, g2⟩ := HG.out (fun h => by have := HF.out.1 h; omega)
      clear hno
      go_wp2
      go_quiet (fail)
      go_wp2
      go_roundw
      case rel => exact ⟨k + 1, by go_num, g1, g2, below_drewN hB _⟩
      case measure => simp [intOf]; omega
    · have t1 : decide ((1 : Int) < (C : Int) - (A : Int)) = false := by simp; omega
      by_cases h2 : B + 1 < D
      · have t2 : (1 : Int) < (D : Int) - (B : Int) := by omega
        obtain ⟨g1, g2⟩ := HG.out (fun h => by have := HF.out.1 h; omega)
        clear hno
        go_wp2
        go_quiet (fail)
        go_wp2
        go_roundw
        case rel => exact ⟨k + 1, by go_num, g1, g2, below_drewN hB _⟩
        case measure => simp [intOf]; omega
      · have t2 : decide ((1 : Int) < (D : Int) - (B : Int)) = false := by simp; omega
        have hfit : Hid (IsSize r k) := ⟨HF.out.2 ⟨by omega, by omega⟩, hno⟩
        clear hno
        go_wp2
        go_quiet (fail)
        go_wp2
        go_ret
        exact ⟨⟨k, rfl, hfit.out⟩, below_drewN hB' _⟩
end Go.Proofs.YtdgbgmffpcooeaaGreat
end
