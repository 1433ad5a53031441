/- Plain facts on cells that are put in order by hand: no program is looked at here. -/
import Derived.Test.YtdgbgmffpcooeaaCovFacts
namespace Go.Proofs.Ytdgbgmffpcooeaa

theorem cover_unique {r : Box} {k k' : Nat} {l l' : List (Nat × Nat)} (hr : r.ok) (h : IsCover r k l) (h' : IsCover r k' l') : k = k' ∧ l = l' := by
  obtain rfl := size_unique h.size h'.size
  refine ⟨rfl, ?_⟩
  have hp : l.Perm l' := h.perm.trans h'.perm.symm
  refine hp.eq_of_pairwise ?_ h.sorted h'.sorted
  intro a b ha hb h1 h2
  exact Prod.ext (Nat.le_antisymm h1 h2) (((h.good hr ha).two).trans ((h'.good hr hb).two).symm)

/-- What has been laid when m rows are over, and n columns of the next. -/
def gridR (k A B nc m n : Nat) : List (Nat × Nat) := ((List.range m).flatMap fun j => (List.range nc).map fun i => celAt k (A + i) (B + j)) ++ (List.range n).map fun i => celAt k (A + i) (B + m)
theorem gridR_col (k A B nc m n : Nat) : gridR k A B nc m (n + 1) = gridR k A B nc m n ++ [celAt k (A + n) (B + m)] := by
  unfold gridR; rw [List.range_succ, List.map_append, List.append_assoc]; rfl
theorem gridR_row (k A B nc m : Nat) : gridR k A B nc (m + 1) 0 = gridR k A B nc m nc := by
  unfold gridR; rw [List.range_succ (n := m), List.flatMap_append]; simp
theorem length_gridR (k A B nc m n : Nat) : (gridR k A B nc m n).length = m * nc + n := by
  unfold gridR
  induction m with
  | zero => simp
  | succ m ih =>
    rw [List.range_succ (n := m), List.flatMap_append]
    simp only [List.length_append, List.length_map, List.length_range, List.flatMap_cons, List.flatMap_nil, List.length_nil] at ih ⊢
    rw [Nat.add_mul]; omega
theorem gridR_perm (k A B nc nr : Nat) (hc : nc = 1 ∨ nc = 2) (hr : nr = 1 ∨ nr = 2) : (gridR k A B nc nr 0).Perm (gridL k A B nr nc 0) := by
  rcases hc with rfl | rfl <;> rcases hr with rfl | rfl
  all_goals simp only [gridR, gridL, List.range_succ, List.range_zero, List.nil_append, List.map_cons, List.map_nil, List.flatMap_cons, List.flatMap_nil, List.append_nil, List.cons_append]
  case inr.inr => exact .cons _ (.swap _ _ _)
  all_goals exact .refl _

/-- What stands while a cell is put in among those that are there. -/
def Ins (c : Nat × Nat) (l : List (Nat × Nat)) (i : Nat) (n : List (Nat × Nat)) (p : Bool) : Prop :=
  (p = false ∧ n = l.take i ∧ ∀ x ∈ l.take i, x.1 ≤ c.1) ∨ (p = true ∧ n.Perm (c :: l.take i) ∧ n.Pairwise (fun x y => x.1 ≤ y.1) ∧ ∃ x ∈ l.take i, c.1 ≤ x.1)
theorem Ins.start (c : Nat × Nat) (l : List (Nat × Nat)) : Ins c l 0 [] false := .inl ⟨rfl, by simp, by simp⟩
theorem Ins.length {c : Nat × Nat} {l : List (Nat × Nat)} {i : Nat} {n : List (Nat × Nat)} {p : Bool} (h : Ins c l i n p) (hi : i ≤ l.length) : n.length = i + if p then 1 else 0 := by
  rcases h with ⟨rfl, rfl, _⟩ | ⟨rfl, h, _⟩
  · simp; omega
  · rw [h.length_eq]; simp; omega
theorem pairwise_snoc {n : List (Nat × Nat)} {x : Nat × Nat} (h : n.Pairwise fun x y => x.1 ≤ y.1) (hx : ∀ y ∈ n, y.1 ≤ x.1) : (n ++ [x]).Pairwise fun x y => x.1 ≤ y.1 := by
  rw [List.pairwise_append]
  exact ⟨h, by simp, fun a ha b hb => by rw [List.mem_singleton.1 hb]; exact hx a ha⟩
theorem take_snoc {l : List (Nat × Nat)} {i : Nat} (hi : i < l.length) : l.take (i + 1) = l.take i ++ [l[i]] := List.take_succ_eq_append_getElem hi
theorem mem_take_le {l : List (Nat × Nat)} {i : Nat} (hs : l.Pairwise fun x y => x.1 ≤ y.1) (hi : i < l.length) : ∀ x ∈ l.take i, x.1 ≤ (l[i]).1 := by
  intro x hx
  obtain ⟨j, hj, e⟩ := List.getElem_of_mem hx
  simp only [List.length_take] at hj
  rw [List.getElem_take] at e
  rw [← e]
  exact (List.pairwise_iff_getElem.1 hs) j i (by omega) hi (by omega)
/-- It is put ahead of the first that is greater. -/
theorem Ins.put {c : Nat × Nat} {l : List (Nat × Nat)} {i : Nat} {n : List (Nat × Nat)} (h : Ins c l i n false) (hs : l.Pairwise fun x y => x.1 ≤ y.1) (hi : i < l.length) (hc : c.1 < (l[i]).1) : Ins c l (i + 1) (n ++ [c] ++ [l[i]]) true := by
  rcases h with ⟨_, rfl, h⟩ | ⟨e, _⟩
  · refine .inr ⟨rfl, ?_, ?_, l[i], by rw [take_snoc hi]; exact List.mem_append_right _ (List.mem_singleton.2 rfl), by omega⟩
    · rw [take_snoc hi, List.append_assoc]
      exact List.perm_middle
    · refine pairwise_snoc (pairwise_snoc (hs.sublist (List.take_sublist _ _)) h) ?_
      intro y hy
      rcases List.mem_append.1 hy with hy | hy
      · exact mem_take_le hs hi y hy
      · rw [List.mem_singleton.1 hy]; omega
  · cases e
theorem Ins.pass {c : Nat × Nat} {l : List (Nat × Nat)} {i : Nat} {n : List (Nat × Nat)} {p : Bool} (h : Ins c l i n p) (hs : l.Pairwise fun x y => x.1 ≤ y.1) (hi : i < l.length) (hc : p = true ∨ (l[i]).1 ≤ c.1) : Ins c l (i + 1) (n ++ [l[i]]) p := by
  rcases h with ⟨rfl, rfl, h⟩ | ⟨rfl, hp, hn, x, hx, hcx⟩
  · rcases hc with hc | hc
    · cases hc
    · refine .inl ⟨rfl, (take_snoc hi).symm, ?_⟩
      intro y hy
      rw [take_snoc hi] at hy
      rcases List.mem_append.1 hy with hy | hy
      · exact h y hy
      · rw [List.mem_singleton.1 hy]; exact hc
  · have hxl := mem_take_le hs hi
    refine .inr ⟨rfl, ?_, pairwise_snoc hn ?_, x, by rw [take_snoc hi]; exact List.mem_append_left _ hx, hcx⟩
    · rw [take_snoc hi]
      exact hp.append_right _
    · intro y hy
      rcases List.mem_cons.1 (hp.mem_iff.1 hy) with rfl | hy
      · have := hxl x hx; omega
      · exact hxl y hy
theorem Ins.done {c : Nat × Nat} {l : List (Nat × Nat)} {n : List (Nat × Nat)} (h : Ins c l l.length n true) : n.Perm (l ++ [c]) ∧ n.Pairwise fun x y => x.1 ≤ y.1 := by
  rcases h with ⟨e, _⟩ | ⟨_, h1, h2, _⟩
  · cases e
  · rw [List.take_length] at h1
    exact ⟨h1.trans (List.perm_append_singleton c l).symm, h2⟩
theorem Ins.last {c : Nat × Nat} {l : List (Nat × Nat)} {n : List (Nat × Nat)} (h : Ins c l l.length n false) (hs : l.Pairwise fun x y => x.1 ≤ y.1) : (n ++ [c]).Perm (l ++ [c]) ∧ (n ++ [c]).Pairwise fun x y => x.1 ≤ y.1 := by
  rcases h with ⟨_, rfl, h⟩ | ⟨e, _⟩
  · rw [List.take_length] at h ⊢
    exact ⟨.refl _, pairwise_snoc hs h⟩
  · cases e
end Go.Proofs.Ytdgbgmffpcooeaa
