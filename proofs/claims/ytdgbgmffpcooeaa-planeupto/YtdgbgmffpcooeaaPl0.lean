/- The program's answers and the document's are the same: Code, Cover, Next. -/
import Derived.Test.YtdgbgmffpcooeaaRef5
import Derived.Test.YtdgbgmffpcooeaaRef7
import Derived.Test.YtdgbgmffpcooeaaQNext
import Derived.Test.YtdgbgmffpcooeaaQCover
namespace Go.Proofs.Ytdgbgmffpcooeaa
open Go.RowKit

set_option maxHeartbeats 400000 in
theorem qcode_out (x y : Int) (w : World) (h : onB x y = false) :
    Calls Try.prog 7 #[.int .i64 x, .int .i64 y] w fun e w' => e = .returned (.int .i64 (-1)) ∧ w' = w := by
  go_enter Try.func7, Try.ntmps7
  go_wp2_with (go_at_call 27; refine (ongrid_any _ _ _).mono ?_; rintro e w' ⟨rfl, rfl⟩)
  go_ret
  exact ⟨rfl, rfl⟩

theorem code_both (x y : Int) : ∃ m : Int, (∀ w, Calls Try.prog 7 #[.int .i64 x, .int .i64 y] w fun e w' => e = .returned (.int .i64 m) ∧ Below w.heap.size w w') ∧ (∀ w, Calls Try.prog 10 #[.int .i64 x, .int .i64 y] w fun e w' => e = .returned (.int .i64 m) ∧ Below w.heap.size w w') := by
  cases h : onB x y with
  | false =>
    refine ⟨-1, fun w => (qcode_out x y w h).mono ?_, fun w => (rcode_out x y w h).mono ?_⟩
    · rintro e w' ⟨rfl, rfl⟩; exact ⟨rfl, Below.refl _ _⟩
    · rintro e w' ⟨rfl, rfl⟩; exact ⟨rfl, Below.refl _ _⟩
  | true =>
    unfold onB at h
    rw [decide_eq_true_iff] at h
    obtain ⟨X, rfl⟩ : ∃ X : Nat, x = X := ⟨x.toNat, by omega⟩
    obtain ⟨Y, rfl⟩ : ∃ Y : Nat, y = Y := ⟨y.toNat, by omega⟩
    refine ⟨code X Y, fun w => (qcode_in X Y w (by omega) (by omega)).mono ?_, fun w => rcode_in X Y w (by omega) (by omega)⟩
    rintro e w' ⟨rfl, rfl⟩; exact ⟨rfl, Below.refl _ _⟩

theorem next_both (c a b d e' : Int) : ∃ m er : Int, (∀ w, Calls Try.prog 9 #[.int .i64 c, .agg #[.int .i64 a, .int .i64 b, .int .i64 d, .int .i64 e']] w fun e w' => e = .returned (.tuple #[.int .i64 m, .int .i64 er]) ∧ Below w.heap.size w w') ∧ (∀ w, Calls Try.prog 14 #[.int .i64 c, .agg #[.int .i64 a, .int .i64 b, .int .i64 d, .int .i64 e']] w fun e w' => e = .returned (.tuple #[.int .i64 m, .int .i64 er]) ∧ Below w.heap.size w w') := by
  by_cases hc : c < 0 ∨ 4294967296 ≤ c
  · exact ⟨0, 5, fun w => qnext_arg c a b d e' hc w, fun w => rnext_arg c a b d e' hc w⟩
  · obtain ⟨C, rfl⟩ : ∃ C : Nat, c = C := ⟨c.toNat, by omega⟩
    have hC : C < 4294967296 := by omega
    cases h : rightB a b d e' with
    | false => exact ⟨0, 6, fun w => qnext_rect C hC a b d e' h w, fun w => rnext_rect C hC a b d e' h w⟩
    | true =>
      obtain ⟨r, hr, rfl, rfl, rfl, rfl⟩ := box_of_right h
      obtain ⟨m, hm⟩ : ∃ m, IsNext C r m := by
        have h1 := qnext_ok C hC r hr
        by_cases hex : ∃ x y, r.has x y ∧ C ≤ code x y
        · obtain ⟨N, hN⟩ : ∃ N, (∃ x y, r.has x y ∧ C ≤ code x y ∧ code x y = N) ∧ ∀ x y, r.has x y → C ≤ code x y → N ≤ code x y := by
            obtain ⟨x, y, hxy, hle⟩ := hex
            have key : ∀ k, (∃ x y, r.has x y ∧ C ≤ code x y ∧ code x y ≤ k) → ∃ N, (∃ x y, r.has x y ∧ C ≤ code x y ∧ code x y = N) ∧ ∀ x y, r.has x y → C ≤ code x y → N ≤ code x y := by
              intro k
              induction k with
              | zero =>
                rintro ⟨x, y, h1, h2, h3⟩
                exact ⟨0, ⟨x, y, h1, h2, by omega⟩, fun _ _ _ _ => Nat.zero_le _⟩
              | succ k ih =>
                rintro ⟨x, y, h1, h2, h3⟩
                by_cases g : ∃ x y, r.has x y ∧ C ≤ code x y ∧ code x y ≤ k
                · exact ih g
                · refine ⟨k + 1, ⟨x, y, h1, h2, ?_⟩, fun x' y' h1' h2' => ?_⟩
                  · refine Nat.le_antisymm h3 (Nat.lt_of_not_le fun q => g ⟨x, y, h1, h2, q⟩)
                  · exact Nat.lt_of_not_le fun q => g ⟨x', y', h1', h2', q⟩
            exact key _ ⟨x, y, hxy, hle, Nat.le_refl _⟩
          obtain ⟨⟨x, y, q1, q2, q3⟩, q4⟩ := hN
          exact ⟨code x y, .inl ⟨x, y, q1, rfl, q2, fun x' y' h1' h2' => by rw [q3]; exact q4 x' y' h1' h2'⟩⟩
        · exact ⟨-1, .inr ⟨rfl, fun x y hxy => Nat.lt_of_not_le fun q => hex ⟨x, y, hxy, q⟩⟩⟩
      refine ⟨m, 0, fun w => (qnext_ok C hC r hr w).mono ?_, fun w => (rnext_ok C hC r hr w).mono ?_⟩
      · rintro e w' ⟨⟨m', rfl, h'⟩, hb⟩
        rw [next_unique h' hm]; exact ⟨rfl, hb⟩
      · rintro e w' ⟨⟨m', rfl, h'⟩, hb⟩
        rw [next_unique h' hm]; exact ⟨rfl, hb⟩

/-- A list that came out: nil, or one that has cells. -/
def Came (w w' : World) (v : Value) (L : List (Nat × Nat)) : Prop := w'.ownsRow w.heap.size 34 2 v L.length (flatC L) ∧ ((v = .slice none 0 0 ∧ L = []) ∨ 0 < L.length)

theorem covers_of (r : Box) (hr : r.ok) : ∃ k L, IsCover r k L := by
  obtain ⟨k, hk⟩ : ∃ k, IsSize r k := by
    have key : ∀ n, Fits r n → ∃ k, IsSize r k := by
      intro n
      induction n using Nat.strongRecOn with
      | ind n ih =>
        intro hn
        by_cases g : ∃ j, j < n ∧ Fits r j
        · obtain ⟨j, h1, h2⟩ := g; exact ih j h1 h2
        · exact ⟨n, hn, fun j hj hf => g ⟨j, hj, hf⟩⟩
    exact key 15 (fits15 hr)
  refine ⟨k, (gridL k (r.a / 2 ^ k) (r.b / 2 ^ k) (r.d / 2 ^ k - r.b / 2 ^ k + 1) (r.c / 2 ^ k - r.a / 2 ^ k + 1) 0).mergeSort (fun x y => decide (x.1 ≤ y.1)), hk, List.mergeSort_perm _ _, ?_⟩
  have := List.pairwise_mergeSort (le := fun (x y : Nat × Nat) => decide (x.1 ≤ y.1)) (fun a b c h1 h2 => by simp at h1 h2 ⊢; omega) (fun a b => by simp; omega) (gridL k (r.a / 2 ^ k) (r.b / 2 ^ k) (r.d / 2 ^ k - r.b / 2 ^ k + 1) (r.c / 2 ^ k - r.a / 2 ^ k + 1) 0)
  exact this.imp (fun h => by simpa using h)

theorem cover_both (a b d e' : Int) : ∃ (L : List (Nat × Nat)) (er : Int), L.length ≤ 4 ∧
    (∀ w, Calls Try.prog 8 #[.agg #[.int .i64 a, .int .i64 b, .int .i64 d, .int .i64 e']] w fun e w' => ∃ v, e = .returned (.tuple #[v, .int .i64 er]) ∧ Came w w' v L ∧ Below w.heap.size w w') ∧
    (∀ w, Calls Try.prog 11 #[.agg #[.int .i64 a, .int .i64 b, .int .i64 d, .int .i64 e']] w fun e w' => ∃ v, e = .returned (.tuple #[v, .int .i64 er]) ∧ Came w w' v L ∧ Below w.heap.size w w') := by
  cases h : rightB a b d e' with
  | false =>
    refine ⟨[], 6, by simp, fun w => (qcover_no a b d e' h w).mono ?_, fun w => (rcover_no a b d e' h w).mono ?_⟩
    · rintro e w' ⟨rfl, hb⟩; exact ⟨_, rfl, ⟨World.ownsRow_nil _ _ _ _, .inl ⟨rfl, rfl⟩⟩, hb⟩
    · rintro e w' ⟨rfl, hb⟩; exact ⟨_, rfl, ⟨World.ownsRow_nil _ _ _ _, .inl ⟨rfl, rfl⟩⟩, hb⟩
  | true =>
    obtain ⟨r, hr, rfl, rfl, rfl, rfl⟩ := box_of_right h
    obtain ⟨k, L, hL⟩ := covers_of r hr
    have hlen := hL.len hr
    refine ⟨L, 0, by omega, fun w => (qcover_ok r hr w).mono ?_, fun w => (rcover_ok r hr w).mono ?_⟩
    · rintro e w' ⟨g, cap, k', l, rfl, hown, hcov, hb⟩
      obtain ⟨_, rfl⟩ := cover_unique hr hcov hL
      exact ⟨_, rfl, ⟨hown, .inr (by omega)⟩, hb⟩
    · rintro e w' ⟨g, cap, k', l, rfl, hown, hcov, hb⟩
      obtain ⟨_, rfl⟩ := cover_unique hr hcov hL
      exact ⟨_, rfl, ⟨hown, .inr (by omega)⟩, hb⟩

theorem code35 : code 3 5 = 39 := by decide
theorem next12 : IsNext 5 ⟨2, 2, 3, 3⟩ 12 := by
  refine .inl ⟨2, 2, ⟨by decide, by decide, by decide, by decide⟩, by decide, by decide, fun x y hxy hc => ?_⟩
  unfold Box.has at hxy
  simp only at hxy
  obtain ⟨rfl | rfl, rfl | rfl⟩ : (x = 2 ∨ x = 3) ∧ (y = 2 ∨ y = 3) := by omega
  all_goals decide
theorem cover14 : IsCover ⟨1, 0, 2, 0⟩ 0 [(1, 0), (4, 0)] := by
  refine ⟨⟨by unfold Fits; decide, fun j h => by omega⟩, ?_, by simp⟩
  have e : gridL 0 (1 / 2 ^ 0) (0 / 2 ^ 0) (0 / 2 ^ 0 - 0 / 2 ^ 0 + 1) (2 / 2 ^ 0 - 1 / 2 ^ 0 + 1) 0 = [(1, 0), (4, 0)] := by decide
  show List.Perm _ (gridL 0 (1 / 2 ^ 0) (0 / 2 ^ 0) (0 / 2 ^ 0 - 0 / 2 ^ 0 + 1) (2 / 2 ^ 0 - 1 / 2 ^ 0 + 1) 0)
  rw [e]
end Go.Proofs.Ytdgbgmffpcooeaa
