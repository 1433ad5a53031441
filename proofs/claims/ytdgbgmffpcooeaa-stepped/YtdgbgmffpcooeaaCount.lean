/- Counting the codes of a window: no program is looked at here. -/
import Derived.Test.YtdgbgmffpcooeaaMath
namespace Go.Proofs.Ytdgbgmffpcooeaa

/-- All codes of a window. -/
def codes (r : Box) : List Nat := (List.range (r.c - r.a + 1)).flatMap fun i => (List.range (r.d - r.b + 1)).map fun j => code (r.a + i) (r.b + j)

theorem mem_codes {r : Box} (hr : r.ok) (n : Nat) : n ∈ codes r ↔ ∃ x y, r.has x y ∧ n = code x y := by
  obtain ⟨h1, h2, h3, h4⟩ := hr
  simp only [codes, List.mem_flatMap, List.mem_map, List.mem_range]
  constructor
  · rintro ⟨i, hi, j, hj, e⟩
    subst e
    exact ⟨r.a + i, r.b + j, ⟨by omega, by omega, by omega, by omega⟩, rfl⟩
  · rintro ⟨x, y, ⟨a, b, c, d⟩, e⟩
    rw [e]
    exact ⟨x - r.a, by omega, y - r.b, by omega, by rw [show r.a + (x - r.a) = x by omega, show r.b + (y - r.b) = y by omega]⟩

theorem length_codes (r : Box) : (codes r).length = (r.c - r.a + 1) * (r.d - r.b + 1) := by
  unfold codes
  generalize r.c - r.a + 1 = n
  induction n with
  | zero => simp
  | succ n ih => rw [List.range_succ (n := n), List.flatMap_append, List.length_append, ih]; simp [Nat.add_mul]

theorem nodup_codes {r : Box} (hr : r.ok) : (codes r).Nodup := by
  obtain ⟨h1, h2, h3, h4⟩ := hr
  unfold codes List.Nodup
  rw [List.pairwise_flatMap]
  constructor
  · intro i hi
    rw [List.pairwise_map]
    refine List.Pairwise.imp_of_mem ?_ List.nodup_range
    intro j j' hj hj' hne e
    simp only [List.mem_range] at hi hj hj'
    have := (cod_inj 16 _ _ _ _ (show _ < 65536 by omega) (show _ < 65536 by omega) (show _ < 65536 by omega) (show _ < 65536 by omega) e).2
    omega
  · refine List.Pairwise.imp_of_mem ?_ List.nodup_range
    intro i i' hi hi' hne a ha b hb e
    simp only [List.mem_map, List.mem_range] at hi hi' ha hb
    obtain ⟨j, hj, ea⟩ := ha
    obtain ⟨j', hj', eb⟩ := hb
    subst ea; subst eb
    have := (cod_inj 16 _ _ _ _ (show _ < 65536 by omega) (show _ < 65536 by omega) (show _ < 65536 by omega) (show _ < 65536 by omega) e).1
    omega

/-- How many of a list are below a number. -/
def under (l : List Nat) (b : Nat) : Nat := l.countP fun n => decide (n < b)
theorem under_zero (l : List Nat) : under l 0 = 0 := by simp [under]
theorem under_le (l : List Nat) (b : Nat) : under l b ≤ l.length := List.countP_le_length
theorem under_all {l : List Nat} {b : Nat} (h : ∀ n ∈ l, n < b) : under l b = l.length := by
  unfold under; rw [List.countP_eq_length]; simpa using h
theorem under_step {l : List Nat} {b c : Nat} (hn : l.Nodup) (hc : c ∈ l) (hb : b ≤ c) (h : ∀ n ∈ l, b ≤ n → c ≤ n) : under l (c + 1) = under l b + 1 := by
  induction l with
  | nil => cases hc
  | cons x r ih =>
    obtain ⟨hx, hr⟩ := List.nodup_cons.1 hn
    have hxc := h x (by simp)
    simp only [under, List.countP_cons] at ih ⊢
    by_cases e : c = x
    · have e2 : ∀ n ∈ r, (decide (n < c + 1)) = decide (n < b) := by
        intro n hnr
        have := h n (by simp [hnr])
        have hne : n ≠ x := fun e' => hx (e' ▸ hnr)
        rw [decide_eq_decide]; omega
      rw [List.countP_congr (fun n hnr => by rw [e2 n hnr]) (p := fun n => decide (n < c + 1)) (q := fun n => decide (n < b))]
      rw [if_pos (by simp; omega), if_neg (by simp; omega)]
    · have hcr : c ∈ r := by rcases List.mem_cons.1 hc with h' | h'; exact absurd h' e; exact h'
      have := ih hr hcr (fun n hnr => h n (by simp [hnr]))
      rw [this]
      have e3 : (decide (x < c + 1) = true) ↔ (decide (x < b) = true) := by simp; omega
      by_cases g : x < b
      · rw [if_pos (by simp; omega), if_pos (by simp; omega)]
      · rw [if_neg (by simp; omega), if_neg (by simp; omega)]

/-- The step of the walk through a window. -/
theorem next_step {b : Nat} {r : Box} {m : Int} (hr : r.ok) (h : IsNext b r m) (hm : 0 ≤ m) : ∃ c : Nat, m = c ∧ b ≤ c ∧ c < 4294967296 ∧ (∃ x y, r.has x y ∧ c = code x y) ∧ under (codes r) (c + 1) = under (codes r) b + 1 := by
  rcases h with ⟨x, y, hxy, e, hb, hl⟩ | ⟨e, _⟩
  · refine ⟨code x y, e, hb, code_lt x y, ⟨x, y, hxy, rfl⟩, under_step (nodup_codes hr) ((mem_codes hr _).2 ⟨x, y, hxy, rfl⟩) hb ?_⟩
    intro n hn hbn
    obtain ⟨x', y', h', e⟩ := (mem_codes hr _).1 hn
    rw [e] at hbn ⊢
    exact hl x' y' h' hbn
  · omega
theorem next_end {b : Nat} {r : Box} {m : Int} (hr : r.ok) (h : IsNext b r m) (hm : m < 0) : under (codes r) b = (codes r).length := by
  rcases h with ⟨x, y, hxy, e, hb, hl⟩ | ⟨e, hl⟩
  · omega
  · refine under_all fun n hn => ?_
    obtain ⟨x', y', h', e⟩ := (mem_codes hr _).1 hn
    rw [e]
    exact hl x' y' h'
theorem next_top {r : Box} (hr : r.ok) : under (codes r) 4294967296 = (codes r).length := by
  refine under_all fun n hn => ?_
  obtain ⟨x', y', h', e⟩ := (mem_codes hr _).1 hn
  rw [e]
  exact code_lt x' y'
end Go.Proofs.Ytdgbgmffpcooeaa
