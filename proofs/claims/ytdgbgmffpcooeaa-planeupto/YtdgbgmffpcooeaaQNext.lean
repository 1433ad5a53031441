/- What the outer Next answers. -/
import Derived.Test.YtdgbgmffpcooeaaNext
namespace Go.Proofs.Ytdgbgmffpcooeaa
open Go.RowKit

set_option maxHeartbeats 400000 in
theorem qnext_ok (c : Nat) (hc : c < 4294967296) (r : Box) (hr : r.ok) (w : World) :
    Calls Try.prog 9 #[.int .i64 (c : Int), .agg #[.int .i64 (r.a : Int), .int .i64 (r.b : Int), .int .i64 (r.c : Int), .int .i64 (r.d : Int)]] w fun e w' => (∃ m : Int, e = .returned (.tuple #[.int .i64 m, .int .i64 0]) ∧ IsNext c r m) ∧ Below w.heap.size w w' := by
  have hR := rightB_box hr
  go_enter Try.func9, Try.ntmps9
  go_wp2_with fail
  refine (right_any _ _ _ _ _).mono ?_
  rintro e w1 ⟨rfl, hb⟩
  obtain ⟨hc1, hf1⟩ := bcell hb
  have hz : w.heap.size < w1.heap.size := by have := hb.size; simp at this; omega
  go_wp2_with fail
  refine (gnext_any c hc r hr _).mono ?_
  rintro e w2 ⟨⟨m, rfl, hm⟩, hb2⟩
  have h0 : Below w.heap.size w w2 := (((Below.refl _ _).alloc (Nat.le_refl _) _).trans (hb.mono (by simp))).trans (hb2.mono (by omega))
  go_wp2
  go_ret2
  exact ⟨⟨m, rfl, hm⟩, h0⟩

set_option maxHeartbeats 400000 in
theorem qnext_arg (c : Int) (a b d e' : Int) (h : c < 0 ∨ 4294967296 ≤ c) (w : World) :
    Calls Try.prog 9 #[.int .i64 c, .agg #[.int .i64 a, .int .i64 b, .int .i64 d, .int .i64 e']] w fun e w' => e = .returned (.tuple #[.int .i64 0, .int .i64 5]) ∧ Below w.heap.size w w' := by
  rcases h with h | h
  · go_enter Try.func9, Try.ntmps9
    go_wp2
    go_ret2
    exact ⟨rfl, (Below.refl _ _).alloc (Nat.le_refl _) _⟩
  · have h0 : ¬ c < 0 := by omega
    go_enter Try.func9, Try.ntmps9
    go_wp2
    go_ret2
    exact ⟨rfl, (Below.refl _ _).alloc (Nat.le_refl _) _⟩

set_option maxHeartbeats 400000 in
theorem qnext_rect (c : Nat) (hc : c < 4294967296) (a b d e' : Int) (hR : rightB a b d e' = false) (w : World) :
    Calls Try.prog 9 #[.int .i64 (c : Int), .agg #[.int .i64 a, .int .i64 b, .int .i64 d, .int .i64 e']] w fun e w' => e = .returned (.tuple #[.int .i64 0, .int .i64 6]) ∧ Below w.heap.size w w' := by
  go_enter Try.func9, Try.ntmps9
  go_wp2_with fail
  refine (right_any _ _ _ _ _).mono ?_
  rintro e w1 ⟨rfl, hb⟩
  go_wp2
  go_ret2
  exact ⟨rfl, ((Below.refl _ _).alloc (Nat.le_refl _) _).trans (hb.mono (by simp))⟩
end Go.Proofs.Ytdgbgmffpcooeaa
