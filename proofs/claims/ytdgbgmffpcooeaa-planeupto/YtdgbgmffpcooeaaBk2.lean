/- What sameC and sameI answer of lists that are the same. -/
import Derived.Test.YtdgbgmffpcooeaaBk1
import Derived.Test.YtdgbgmffpcooeaaW3
namespace Go.Proofs.Ytdgbgmffpcooeaa
open Go.RowKit

set_option maxRecDepth 100000 in
set_option maxHeartbeats 1000000 in
theorem sameC_any (l : List (Nat × Nat)) (v u : Value) (base base' : Nat) (w : World) (hv : w.ownsRow base 34 2 v l.length (flatC l)) (hu : w.ownsRow base' 34 2 u l.length (flatC l)) :
    Calls Try.prog 33 #[v, u] w fun e w' => e = .returned (.bool true) ∧ Below w.heap.size w w' := by
  obtain ⟨a, cap, rfl, _, hmax, _⟩ := own_shape hv
  obtain ⟨b, cap', rfl, _, _, _⟩ := own_shape hu
  unfold maxLen at hmax
  go_enter Try.func33, Try.ntmps33
  go_wp2
  go_loopw [5] (fun x wr => ∃ i : Nat, x = .int .i64 (i : Int) ∧ i ≤ l.length ∧ Below w.heap.size w wr) (fun x _ => l.length - (intOf x).toNat)
  case atStart => exact ⟨0, rfl, by omega, Below.refl _ _⟩
  case round =>
    obtain ⟨i, rfl, hi, hB⟩ := hrel
    by_cases hlt : i < l.length
    · have hlt' : (i : Int) < (l.length : Int) := by omega
      obtain ⟨g, c1, e1, _, hg⟩ := hv.form (by omega)
      obtain ⟨g', c2, e2, _, hg'⟩ := hu.form (by omega)
      cases e1
      cases e2
      obtain ⟨a0, a1⟩ := own_at (own_below hv hB) i hlt
      obtain ⟨b0, b1⟩ := own_at (own_below hu hB) i hlt
      obtain ⟨x, hx⟩ : ∃ x, l[i] = x := ⟨_, rfl⟩
      rw [hx] at a0 a1 b0 b1
      have hs := hB.size
      have hgW : g < wr.heap.size := by omega
      have hgW' : g' < wr.heap.size := by omega
      clear hx
      go_wp2
      go_quiet (fail)
      go_wp2
      go_roundw
      case rel => exact ⟨i + 1, by go_num, by omega, below_drewN hB _⟩
      case measure => simp [intOf]; omega
    · have hlt' : decide ((i : Int) < (l.length : Int)) = false := by simp; omega
      have hlt2 : decide (i < l.length) = false := by simp; omega
      go_wp2
      go_ret
      exact ⟨rfl, hB⟩

set_option maxHeartbeats 400000 in
theorem sameI_nil (w : World) :
    Calls Try.prog 35 #[.slice none 0 0, .slice none 0 0] w fun e w' => e = .returned (.bool true) ∧ Below w.heap.size w w' := by
  go_enter Try.func35, Try.ntmps35
  go_wp2
  go_loopw [5] (fun x wr => x = .int .i64 0 ∧ wr = w) (fun _ _ => 0)
  case atStart => exact ⟨rfl, rfl⟩
  case round =>
    obtain ⟨rfl, rfl⟩ := hrel
    go_wp2
    go_ret
    exact ⟨rfl, Below.refl _ _⟩
end Go.Proofs.Ytdgbgmffpcooeaa
