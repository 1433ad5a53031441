/- Plain facts on rows of cells in memory of one's own. -/
import Derived.Test.YtdgbgmffpcooeaaCover
namespace Go.Proofs.Ytdgbgmffpcooeaa
open Go.RowKit

theorem own_below {W W' : World} {base : Nat} {e : TypeId} {size : Nat} {v : Value} {n : Nat} {xs : List Value} (h : W.ownsRow base e size v n xs) (hb : Below W.heap.size W W') : W'.ownsRow base e size v n xs := by
  obtain ⟨h0, h1 | ⟨g, cap, cur, e1, e2, e3, e4⟩⟩ := h
  · exact ⟨h0, .inl h1⟩
  · exact ⟨h0, .inr ⟨g, cap, cur, e1, e2, (hb.block g (Array.getElem?_eq_some_iff.1 e3).1).trans e3, e4⟩⟩
theorem own_shape {W : World} {base : Nat} {e : TypeId} {size : Nat} {v : Value} {n : Nat} {xs : List Value} (h : W.ownsRow base e size v n xs) : ∃ a cap, v = .slice a n cap ∧ (a.isSome ∨ n = 0) ∧ n ≤ maxLen ∧ n ≤ cap := by
  obtain ⟨_, ⟨rfl, rfl⟩ | ⟨g, cap, cur, rfl, _, _, h1, h2, _⟩⟩ := h
  · exact ⟨none, 0, rfl, .inr rfl, by unfold maxLen; omega, by omega⟩
  · exact ⟨_, cap, rfl, .inl rfl, Nat.le_trans h1 h2, h1⟩
theorem own_cell {W : World} {base : Nat} {e : TypeId} {size : Nat} {g n cap : Nat} {xs : List Value} (h : W.ownsRow base e size (.slice (some ⟨g, 0, none⟩) n cap) n xs) (t : Nat) (ht : t < n * size) : W.cell? ⟨g, t, none⟩ = xs[t]? ∧ W.frozen? ⟨g, t, none⟩ = false := by
  obtain ⟨_, ⟨e1, _⟩ | ⟨g', cap', cur, e1, _, h1, _, _, _, h2⟩⟩ := h
  · cases e1
  · cases e1
    constructor
    · have e : (cur.toList.take (n * size))[t]? = xs[t]? := by rw [h2]
      rw [List.getElem?_take_of_lt ht, Array.getElem?_toList] at e
      simp [World.cell?, h1, e]
    · simp [World.frozen?, h1]
theorem own_lt {W : World} {base : Nat} {e : TypeId} {size : Nat} {g n cap : Nat} {xs : List Value} (h : W.ownsRow base e size (.slice (some ⟨g, 0, none⟩) n cap) n xs) : base ≤ g ∧ g < W.heap.size := by
  obtain ⟨_, ⟨e1, _⟩ | ⟨g', cap', cur, e1, hb, h1, _, _, _, h2⟩⟩ := h
  · cases e1
  · cases e1; exact ⟨hb, (Array.getElem?_eq_some_iff.1 h1).1⟩
theorem own_at {W : World} {base g cap : Nat} {l : List (Nat × Nat)} (h : W.ownsRow base 34 2 (.slice (some ⟨g, 0, none⟩) l.length cap) l.length (flatC l)) (i : Nat) (hi : i < l.length) : W.cell? ⟨g, i * 2, none⟩ = some (.int .i64 ((l[i]).1 : Int)) ∧ W.cell? ⟨g, i * 2 + 1, none⟩ = some (.int .i64 ((l[i]).2 : Int)) := by
  constructor
  · rw [(own_cell h (i * 2) (by omega)).1, get_flatC, show i * 2 / 2 = i by omega, show i * 2 % 2 = 0 by omega, List.getElem?_eq_getElem hi]; rfl
  · rw [(own_cell h (i * 2 + 1) (by omega)).1, get_flatC, show (i * 2 + 1) / 2 = i by omega, show (i * 2 + 1) % 2 = 1 by omega, List.getElem?_eq_getElem hi]; rfl
end Go.Proofs.Ytdgbgmffpcooeaa
