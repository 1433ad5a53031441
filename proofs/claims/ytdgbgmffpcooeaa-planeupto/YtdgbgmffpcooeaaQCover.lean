/- What the outer Cover answers. -/
import Derived.Test.YtdgbgmffpcooeaaCover
namespace Go.Proofs.Ytdgbgmffpcooeaa
open Go.RowKit

theorem own_mono {w : World} {base b' : Nat} {e : TypeId} {size : Nat} {v : Value} {n : Nat} {xs : List Value} (h : w.ownsRow base e size v n xs) (hb : b' ≤ base) : w.ownsRow b' e size v n xs := by
  obtain ⟨h0, h1 | ⟨g, cap, cur, e1, e2, e3⟩⟩ := h
  · exact ⟨h0, .inl h1⟩
  · exact ⟨h0, .inr ⟨g, cap, cur, e1, Nat.le_trans hb e2, e3⟩⟩

set_option maxHeartbeats 400000 in
theorem qcover_ok (r : Box) (hr : r.ok) (w : World) :
    Calls Try.prog 8 #[.agg #[.int .i64 (r.a : Int), .int .i64 (r.b : Int), .int .i64 (r.c : Int), .int .i64 (r.d : Int)]] w fun e w' => ∃ (g cap k : Nat) (l : List (Nat × Nat)), e = .returned (.tuple #[.slice (some ⟨g, 0, none⟩) l.length cap, .int .i64 0]) ∧ w'.ownsRow w.heap.size 34 2 (.slice (some ⟨g, 0, none⟩) l.length cap) l.length (flatC l) ∧ IsCover r k l ∧ Below w.heap.size w w' := by
  have hR := rightB_box hr
  go_enter Try.func8, Try.ntmps8
  go_wp2_with fail
  refine (right_any _ _ _ _ _).mono ?_
  rintro e w1 ⟨rfl, hb⟩
  obtain ⟨hc1, hf1⟩ := bcell hb
  have hz : w.heap.size < w1.heap.size := by have := hb.size; simp at this; omega
  go_wp2_with fail
  refine (gcover_any r hr _).mono ?_
  rintro e w2 ⟨g, cap, k, l, rfl, hown, hcov, hb2⟩
  have h0 : Below w.heap.size w w2 := (((Below.refl _ _).alloc (Nat.le_refl _) _).trans (hb.mono (by simp))).trans (hb2.mono (by omega))
  go_wp2
  go_ret2
  exact ⟨g, cap, k, l, rfl, own_mono hown (by omega), hcov, h0⟩

set_option maxHeartbeats 400000 in
theorem qcover_no (a b d e' : Int) (hR : rightB a b d e' = false) (w : World) :
    Calls Try.prog 8 #[.agg #[.int .i64 a, .int .i64 b, .int .i64 d, .int .i64 e']] w fun e w' => e = .returned (.tuple #[.slice none 0 0, .int .i64 6]) ∧ Below w.heap.size w w' := by
  go_enter Try.func8, Try.ntmps8
  go_wp2_with fail
  refine (right_any _ _ _ _ _).mono ?_
  rintro e w1 ⟨rfl, hb⟩
  go_wp2
  go_ret2
  exact ⟨rfl, ((Below.refl _ _).alloc (Nat.le_refl _) _).trans (hb.mono (by simp))⟩
end Go.Proofs.Ytdgbgmffpcooeaa
