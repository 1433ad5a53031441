/- Plain facts on the row of the sectors that were written: no walk here. -/
import Derived.Test.YtdgbgmffpcooeaaPk7
import Derived.Test.YtdgbgmffpcooeaaKeys
import Derived.Test.YtdgbgmffpcooeaaDk4
namespace Go.Proofs.Ytdgbgmffpcooeaa
open Go.RowKit Go.Lib Go.Maps

def dirtyOf (old : Nat → Option ByteArray) (i : Nat) : Bool := (old i).isSome
/-- The sectors that were written, rising. -/
def rowOf (d : Nat → Bool) (n : Nat) : List Nat := (List.range n).filter d
theorem mem_rowOf (d : Nat → Bool) (n i : Nat) : i ∈ rowOf d n ↔ i < n ∧ d i = true := by simp [rowOf]
theorem rowOf_sorted (d : Nat → Bool) (n : Nat) : (rowOf d n).Pairwise (· < ·) := List.Pairwise.filter _ List.pairwise_lt_range
theorem length_rowOf (d : Nat → Bool) (n : Nat) : (rowOf d n).length = rank d n := by simp [rowOf, rank, List.countP_eq_length_filter]
theorem rowOf_split (d : Nat → Bool) {n i : Nat} (hi : i < n) : ∃ r, rowOf d n = rowOf d i ++ (if d i then i :: r else r) := by
  obtain ⟨m, rfl⟩ : ∃ m, n = i + (1 + m) := ⟨n - i - 1, by omega⟩
  refine ⟨((List.range m).map (i + 1 + ·)).filter d, ?_⟩
  unfold rowOf
  rw [List.range_add, List.filter_append]
  congr 1
  rw [Nat.add_comm 1 m, List.range_succ_eq_map]
  simp only [List.map_cons, List.map_map, List.filter_cons, Nat.add_zero]
  have e : (i + ·) ∘ Nat.succ = (i + 1 + ·) := by funext x; simp; omega
  rw [e]
/-- A sector's place in the row. -/
theorem rowOf_rank (d : Nat → Bool) {n i : Nat} (hi : i < n) (hd : d i = true) : (rowOf d n)[rank d i]? = some i := by
  obtain ⟨r, hr⟩ := rowOf_split d hi
  rw [hr, hd, if_pos rfl, List.getElem?_append_right (by rw [length_rowOf]; exact Nat.le_refl _), length_rowOf, Nat.sub_self]
  rfl
theorem rank_lt (d : Nat → Bool) {n i : Nat} (hi : i < n) (hd : d i = true) : rank d i < (rowOf d n).length := by
  have := rowOf_rank d hi hd
  exact (List.getElem?_eq_some_iff.1 this).1
theorem rank_of_get (d : Nat → Bool) {n p i : Nat} (h : (rowOf d n)[p]? = some i) : i < n ∧ d i = true ∧ rank d i = p := by
  obtain ⟨hp, e⟩ := List.getElem?_eq_some_iff.1 h
  have hm : i ∈ rowOf d n := e ▸ List.getElem_mem hp
  obtain ⟨h1, h2⟩ := (mem_rowOf d n i).1 hm
  refine ⟨h1, h2, ?_⟩
  have h3 := rowOf_rank d h1 h2
  obtain ⟨hq, e2⟩ := List.getElem?_eq_some_iff.1 h3
  have hs := List.pairwise_iff_getElem.1 (rowOf_sorted d n)
  rcases Nat.lt_trichotomy (rank d i) p with g | g | g
  · have := hs _ _ hq hp g; omega
  · exact g
  · have := hs _ _ hp hq g; omega

/-- The keys that are told, sorted: the row. -/
theorem keys_sorted {W : World} {m k : Nat} {D : DataW Unit} {old : Nat → Option ByteArray} {n : Nat} (hown : W.ownsMap Try.prog 3 secR m k D) (h : MapIs D old n) {ss : List Int} (hp : ss.Perm (intKeys D)) :
    ss.mergeSort (fun x y => decide (x ≤ y)) = (rowOf (dirtyOf old) n).map (fun i : Nat => (i : Int)) ∧ ss.length = (rowOf (dirtyOf old) n).length := by
  obtain ⟨es, rfl, hpw, _⟩ := hown.entries (int_keyed Try.underlying3)
  have hkeys : ∀ p ∈ es, ∃ i, i < n ∧ p.1 = kl i := fun p hpm => by
    refine h.keys p.1 ?_
    rw [has_eq, List.any_eq_true]
    obtain ⟨p1, p2⟩ := p
    refine ⟨(p1, p2), hpm, ?_⟩
    have hk : ∃ i : Nat, p1 = p1 := ⟨0, rfl⟩
    have hI := (hown.entries (int_keyed Try.underlying3))
    obtain ⟨es', e', _, hkl⟩ := hI
    injection e' with e'
    subst e'
    have := hkl (p1, p2) hpm
    cases p1 <;> simp_all [WideAt.IsKeyLit, Lit.sameKey]
  have hperm : ((rowOf (dirtyOf old) n).map (fun i : Nat => (i : Int))).Perm (intKeys (.map es : DataW Unit)) := by
    refine perm_intKeys hpw (fun p hpm => by obtain ⟨i, _, e⟩ := hkeys p hpm; exact ⟨_, e⟩) ?_ (fun x => ?_)
    · exact List.Pairwise.map _ (fun a b hab => by omega) (rowOf_sorted (dirtyOf old) n)
    · rw [List.mem_map]
      constructor
      · rintro ⟨i, hi, rfl⟩
        obtain ⟨h1, h2⟩ := (mem_rowOf _ _ _).1 hi
        rw [h.has_ i h1]; exact h2
      · intro hx
        obtain ⟨i, hi, e⟩ := h.keys _ hx
        have e' : (Lit.int .i64 x) = .int .i64 (i : Int) := e
        injection e' with _ e2
        subst e2
        rw [h.has_ i hi] at hx
        exact ⟨i, (mem_rowOf _ _ _).2 ⟨hi, hx⟩, rfl⟩
  have hpp : ss.Perm ((rowOf (dirtyOf old) n).map (fun i : Nat => (i : Int))) := hp.trans hperm.symm
  refine ⟨?_, by rw [hpp.length_eq, List.length_map]⟩
  have := mergeSort_of_perm_i hpp
  rw [this]
  refine List.mergeSort_of_pairwise ?_
  exact List.Pairwise.map _ (fun a b hab => by simp; omega) (rowOf_sorted (dirtyOf old) n)
theorem map_size {W : World} {m k : Nat} {D : DataW Unit} (hown : W.ownsMap Try.prog 3 secR m k D) : Maps.size D ≤ k := by
  obtain ⟨es, c, h1, h2, h3, rfl⟩ := hown
  have := length_read (P := Try.prog) (k := 3) (R0 := secR) es
  simp only [Maps.size]
  omega

theorem MapIs.del {D : DataW Unit} {old : Nat → Option ByteArray} {n : Nat} (h : MapIs D old n) {i : Nat} (hi : i < n) : MapIs (D.del (kl i)) (upd old i none) n := by
  refine ⟨fun t ht => ?_, fun t c ht hc z => ?_, fun k hk => ?_, fun t c ht hc => ?_⟩
  · by_cases e : t = i
    · subst e; rw [has_del_same, upd_same]; rfl
    · rw [has_del_other (kl_ne e), h.has_ t ht, upd_ne old _ e]
  · by_cases e : t = i
    · subst e; rw [upd_same] at hc; cases hc
    · rw [upd_ne old _ e] at hc
      rw [atKey_del_other (kl_ne e)]
      exact h.val t c ht hc z
  · by_cases e : k = kl i
    · exact ⟨i, hi, e⟩
    · rw [has_del_other e] at hk
      exact h.keys k hk
  · by_cases e : t = i
    · subst e; rw [upd_same] at hc; cases hc
    · rw [upd_ne old _ e] at hc
      exact h.size t c ht hc

/-- Behind k of the places that are kept. -/
def keptOld (old : Nat → Option ByteArray) (K : Nat → Int) (k : Nat) : Nat → Option ByteArray := fun t => if keptAt K k (rank (dirtyOf old) t) then none else old t
theorem keptOld_zero (old : Nat → Option ByteArray) (K : Nat → Int) : keptOld old K 0 = old := by funext t; simp [keptOld, keptAt_zero]
theorem MapIs.congr {D : DataW Unit} {old old' : Nat → Option ByteArray} {n : Nat} (h : MapIs D old n) (he : ∀ t, t < n → old' t = old t) : MapIs D old' n :=
  ⟨fun t ht => by rw [he t ht]; exact h.has_ t ht, fun t b ht hb => h.val t b ht (by rw [← he t ht]; exact hb), h.keys, fun t b ht hb => h.size t b ht (by rw [← he t ht]; exact hb)⟩
theorem keptOld_out (old : Nat → Option ByteArray) (K : Nat → Int) (k n : Nat) (h : K k < 0 ∨ ((rowOf (dirtyOf old) n).length : Int) ≤ K k) : ∀ t, t < n → keptOld old K (k + 1) t = keptOld old K k t := by
  intro t ht
  unfold keptOld
  rw [keptAt_succ]
  cases ho : old t with
  | none => simp
  | some b =>
    have hd : dirtyOf old t = true := by unfold dirtyOf; rw [ho]; rfl
    have := rank_lt (dirtyOf old) ht hd
    have e : (K k == ((rank (dirtyOf old) t : Nat) : Int)) = false := by simp; omega
    rw [e, Bool.or_false]
theorem keptOld_in (old : Nat → Option ByteArray) (K : Nat → Int) (k n p i : Nat) (hp : K k = (p : Int)) (hi : (rowOf (dirtyOf old) n)[p]? = some i) : ∀ t, t < n → keptOld old K (k + 1) t = upd (keptOld old K k) i none t := by
  obtain ⟨h1, h2, h3⟩ := rank_of_get (dirtyOf old) hi
  intro t ht
  unfold upd
  show (if keptAt K (k + 1) (rank (dirtyOf old) t) then none else old t) = if t = i then none else (if keptAt K k (rank (dirtyOf old) t) then none else old t)
  rw [keptAt_succ, hp]
  by_cases e : t = i
  · subst e; simp [h3]
  · rw [if_neg e]
    cases ho : old t with
    | none => simp
    | some b =>
      have hd : dirtyOf old t = true := by unfold dirtyOf; rw [ho]; rfl
      have h4 := rowOf_rank (dirtyOf old) ht hd
      have e2 : ((p : Int) == ((rank (dirtyOf old) t : Nat) : Int)) = false := by
        simp
        intro e3
        have : p = rank (dirtyOf old) t := by omega
        rw [← this, hi] at h4
        injection h4 with h4
        exact e h4.symm
      rw [e2, Bool.or_false]
end Go.Proofs.Ytdgbgmffpcooeaa
