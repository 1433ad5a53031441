/- The program's disk and the document's: what they have in common, and that each call keeps it and answers alike. -/
import Derived.Test.YtdgbgmffpcooeaaQ1
namespace Go.Proofs.Ytdgbgmffpcooeaa
open Go.RowKit Go.Lib Go.Maps

structure Rel (k : Nat) (p : PS) (r : RS) : Prop where
  n : p.n = r.n
  now : ∀ t, t < r.n → p.now t = r.now t
  old : ∀ t, t < r.n → p.old t = if r.dirty t then some (r.safe t) else none
  clean : ∀ t, t < r.n → r.dirty t = false → r.safe t = r.now t
  sizeS : ∀ t, t < r.n → (r.safe t).size = 256
  sizeN : ∀ t, t < r.n → (r.now t).size = 256
  broken : p.broken = r.broken
  free : r.counts = false → p.left = -1
  counts : r.counts = true → p.left = r.left ∧ 0 ≤ r.left
  steps : p.steps = r.steps
  steps1 : 0 ≤ r.steps
  steps2 : r.steps ≤ k
  left1 : -(k : Int) ≤ r.left
  left2 : r.left ≤ 9223372036854775807
theorem Rel.mono {k k' : Nat} {p : PS} {r : RS} (h : Rel k p r) (hk : k ≤ k') : Rel k' p r := { h with steps2 := by have := h.steps2; omega, left1 := by have := h.left1; omega }
theorem Rel.brk {k : Nat} {p : PS} {r : RS} (h : Rel k p r) : p.brk = r.brk := by
  unfold PS.brk RS.brk
  rw [h.broken]
  congr 1
  cases hc : r.counts with
  | false => rw [h.free hc]; rfl
  | true =>
    obtain ⟨h1, h2⟩ := h.counts hc
    rw [h1, Bool.true_and]
    by_cases e : r.left = 0
    · rw [e]; rfl
    · have : ¬ r.left ≤ 0 := by omega
      simp [e, this]
theorem Rel.leftP {k : Nat} {p : PS} {r : RS} (h : Rel k p r) : -1 ≤ p.left ∧ p.left ≤ 9223372036854775807 := by
  cases hc : r.counts with
  | false => rw [h.free hc]; omega
  | true =>
    obtain ⟨h1, h2⟩ := h.counts hc
    have := h.left2
    omega
theorem Rel.asked {k : Nat} {p : PS} {r : RS} (h : Rel k p r) : Rel k p.asked r.asked := { h with broken := h.brk }
theorem Rel.spent {k : Nat} {p : PS} {r : RS} (h : Rel k p r) (hb : r.brk = false) : Rel (k + 1) p.spent { r with left := r.left - 1 } := by
  refine { h with free := fun hc => ?_, counts := fun hc => ?_, steps2 := ?_, left1 := ?_, left2 := ?_ }
  · have e := h.free hc
    show (if 0 < p.left then p.left - 1 else p.left) = -1
    rw [e]; rfl
  · obtain ⟨h1, h2⟩ := h.counts hc
    have hc' : r.counts = true := hc
    unfold RS.brk at hb
    rw [hc', Bool.true_and, Bool.or_eq_false_iff] at hb
    have hpos : ¬ r.left ≤ 0 := by simpa using hb.2
    have hp : 0 < p.left := by omega
    refine ⟨?_, ?_⟩
    · show (if 0 < p.left then p.left - 1 else p.left) = r.left - 1
      rw [if_pos hp, h1]
    · show 0 ≤ r.left - 1
      omega
  · have := h.steps2
    show r.steps ≤ ((k + 1 : Nat) : Int)
    omega
  · have := h.left1
    show -((k + 1 : Nat) : Int) ≤ r.left - 1
    omega
  · have := h.left2
    show r.left - 1 ≤ _
    omega
theorem Rel.stepped {k : Nat} {p : PS} {r : RS} (h : Rel k p r) : Rel (k + 1) { p with steps := p.steps + 1 } { r with steps := r.steps + 1 } := by
  have h1 := h.steps
  have h2 := h.steps1
  have h3 := h.steps2
  have h4 := h.left1
  refine { h with steps := ?_, steps1 := ?_, steps2 := ?_, left1 := ?_ }
  · show p.steps + 1 = r.steps + 1
    omega
  · show 0 ≤ r.steps + 1
    omega
  · show r.steps + 1 ≤ ((k + 1 : Nat) : Int)
    omega
  · show -((k + 1 : Nat) : Int) ≤ r.left
    omega
theorem asked_brk {r : RS} (hb : r.brk = false) : r.asked.brk = false := by
  show (r.brk || (r.counts && decide (r.left ≤ 0))) = false
  rw [hb]
  unfold RS.brk at hb
  rw [Bool.or_eq_false_iff] at hb
  rw [hb.2]; rfl
theorem Rel.read {k : Nat} {p : PS} {r : RS} (h : Rel k p r) (i : Int) : (p.read i).1 = (r.read i).1 ∧ (p.read i).2.1 = (r.read i).2.1 ∧ Rel (k + 1) (p.read i).2.2 (r.read i).2.2 := by
  unfold PS.read RS.read
  rw [h.n, h.brk]
  by_cases h1 : i < 0 ∨ (r.n : Int) ≤ i
  · simp only [if_pos h1]
    exact ⟨trivial, trivial, h.mono (by omega)⟩
  · simp only [if_neg h1]
    cases hb : r.brk with
    | true => exact ⟨rfl, rfl, h.asked.mono (by omega)⟩
    | false => exact ⟨h.now _ (by omega), rfl, h.asked.stepped⟩
theorem Rel.write {k : Nat} {p : PS} {r : RS} (h : Rel k p r) (i : Int) (b : ByteArray) : (p.write i b).1 = (r.write i b).1 ∧ Rel (k + 2) (p.write i b).2 (r.write i b).2 := by
  unfold PS.write RS.write
  rw [h.n, h.brk]
  by_cases h1 : i < 0 ∨ (r.n : Int) ≤ i
  · simp only [if_pos h1]
    exact ⟨trivial, h.mono (by omega)⟩
  · simp only [if_neg h1]
    by_cases h2 : b.size ≠ 256
    · simp only [if_pos h2]
      exact ⟨trivial, h.mono (by omega)⟩
    · simp only [if_neg h2]
      have hb256 : b.size = 256 := by simpa using h2
      cases hb : r.brk with
      | true => exact ⟨rfl, h.asked.mono (by omega)⟩
      | false =>
        have hb' : r.asked.brk = false := asked_brk hb
        have hs := (h.asked.spent hb').stepped
        obtain ⟨j, rfl⟩ : ∃ j : Nat, i = j := ⟨i.toNat, by omega⟩
        have hj : j < r.n := by omega
        refine ⟨rfl, { hs with now := fun t ht => ?_, old := fun t ht => ?_, clean := fun t ht hd => ?_, sizeN := fun t ht => ?_ }⟩
        · show upd p.now j b t = upd r.now j b t
          unfold upd
          split
          · rfl
          · exact h.now t ht
        · show (if (p.old j).isSome = true then p.old else upd p.old j (some (p.now j))) t = if upd r.dirty j true t = true then some (r.safe t) else none
          have ho := h.old t ht
          have hoj := h.old j hj
          by_cases e : t = j
          · subst e
            rw [upd_same]
            cases hd : r.dirty t with
            | true => rw [hd] at hoj; rw [hoj]; simp [hoj]
            | false =>
              rw [hd] at hoj
              rw [hoj]
              have := h.clean t ht hd
              simp [upd_same, h.now t ht, this]
          · rw [upd_ne _ _ e]
            split
            · exact ho
            · rw [upd_ne _ _ e]; exact ho
        · have hd' : upd r.dirty j true t = false := hd
          by_cases e : t = j
          · subst e; rw [upd_same] at hd'; cases hd'
          · rw [upd_ne _ _ e] at hd'
            show r.safe t = upd r.now j b t
            rw [upd_ne _ _ e]
            exact h.clean t ht hd'
        · show (upd r.now j b t).size = 256
          by_cases e : t = j
          · subst e; rw [upd_same]; exact hb256
          · rw [upd_ne _ _ e]; exact h.sizeN t ht
theorem Rel.flush {k : Nat} {p : PS} {r : RS} (h : Rel k p r) : p.flush.1 = r.flush.1 ∧ Rel (k + 1) p.flush.2 r.flush.2 := by
  unfold PS.flush RS.flush
  rw [h.brk]
  cases hb : r.brk with
  | true => exact ⟨rfl, h.asked.mono (by omega)⟩
  | false =>
    have hb' : r.asked.brk = false := asked_brk hb
    have hs := h.asked.spent hb'
    refine ⟨rfl, { hs with old := fun t ht => ?_, clean := fun t ht hd => ?_, sizeS := fun t ht => ?_ }⟩
    · have ht' : t < r.n := ht
      show none = if (if t < r.n then false else r.dirty t) = true then some (if t < r.n then r.now t else r.safe t) else none
      simp [ht']
    · have ht' : t < r.n := ht
      show (if t < r.n then r.now t else r.safe t) = r.now t
      rw [if_pos ht']
    · have ht' : t < r.n := ht
      show (if t < r.n then r.now t else r.safe t).size = 256
      rw [if_pos ht']; exact h.sizeN t ht'
theorem Rel.break_ {k : Nat} {p : PS} {r : RS} (h : Rel k p r) (n : Int) (hn : n ≤ 9223372036854775807) : (p.break_ n).1 = (r.break_ n).1 ∧ Rel k (p.break_ n).2 (r.break_ n).2 := by
  unfold PS.break_ RS.break_
  by_cases h1 : n < 0
  · simp only [if_pos h1]
    exact ⟨trivial, h⟩
  · simp only [if_neg h1]
    refine ⟨trivial, { h with free := fun hc => (by cases hc), counts := fun _ => ⟨rfl, ?_⟩, left1 := ?_, left2 := hn }⟩
    · show 0 ≤ n
      omega
    · show -(k : Int) ≤ n
      omega
theorem rank_congr {d d' : Nat → Bool} {t : Nat} (h : ∀ j, j < t → d j = d' j) : rank d t = rank d' t := by
  unfold rank
  apply List.countP_congr
  intro x hx
  rw [h x (List.mem_range.1 hx)]
theorem Rel.dirty {k : Nat} {p : PS} {r : RS} (h : Rel k p r) (t : Nat) (ht : t < r.n) : dirtyOf p.old t = r.dirty t := by
  unfold dirtyOf
  rw [h.old t ht]
  cases r.dirty t <;> rfl
theorem Rel.crash {k : Nat} {p : PS} {r : RS} (h : Rel k p r) (lk : Nat) (K : Nat → Int) : Rel k (p.crash lk K) (r.crash lk K) := by
  have hst : ∀ t, t < r.n → keptAt K lk (rank (dirtyOf p.old) t) = r.stays lk K t := fun t ht => by
    unfold RS.stays
    rw [rank_congr (fun j hj => h.dirty j (by omega))]
  have hn : ∀ t, t < r.n → (r.crash lk K).now t = if r.dirty t = true ∧ r.stays lk K t = false then r.safe t else r.now t := fun t ht => by
    show (if t < r.n ∧ _ then _ else _) = _
    simp only [ht, true_and]
  have hs : ∀ t, t < r.n → (r.crash lk K).safe t = if r.dirty t = true ∧ r.stays lk K t = true then r.now t else r.safe t := fun t ht => by
    show (if t < r.n ∧ _ then _ else _) = _
    simp only [ht, true_and]
  have hd : ∀ t, t < r.n → (r.crash lk K).dirty t = false := fun t ht => by
    show (if t < r.n then false else _) = false
    rw [if_pos ht]
  refine { n := h.n, steps := h.steps, steps1 := h.steps1, steps2 := h.steps2, left1 := h.left1, left2 := h.left2, broken := rfl, free := fun _ => rfl, counts := fun hc => (by cases hc), now := fun t ht => ?_, old := fun t ht => ?_, clean := fun t ht _ => ?_, sizeS := fun t ht => ?_, sizeN := fun t ht => ?_ }
  · have ht' : t < r.n := ht
    rw [hn t ht']
    show ((if keptAt K lk (rank (dirtyOf p.old) t) = true then none else p.old t)).getD (p.now t) = _
    rw [hst t ht', h.old t ht', h.now t ht']
    cases r.dirty t <;> cases r.stays lk K t <;> rfl
  · have ht' : t < r.n := ht
    rw [hd t ht']
    rfl
  · have ht' : t < r.n := ht
    rw [hn t ht', hs t ht']
    cases hdt : r.dirty t with
    | true => cases r.stays lk K t <;> rfl
    | false => simp [h.clean t ht' hdt]
  · have ht' : t < r.n := ht
    rw [hs t ht']
    split
    · exact h.sizeN t ht'
    · exact h.sizeS t ht'
  · have ht' : t < r.n := ht
    rw [hn t ht']
    split
    · exact h.sizeS t ht'
    · exact h.sizeN t ht'
theorem Rel.image {k : Nat} {p : PS} {r : RS} (h : Rel k p r) : joined p.safe p.n = joined r.safe r.n := by
  rw [h.n]
  refine joined_congr (fun t ht => ?_)
  unfold PS.safe
  rw [h.old t ht, h.now t ht]
  cases hd : r.dirty t with
  | true => rfl
  | false => exact (h.clean t ht hd).symm
theorem rel_load (b : ByteArray) (n : Nat) (hn : b.size = n * 256) : Rel 0 (PS.fresh n (loadNow b n)) (RS.fresh b n) := by
  refine { n := rfl, steps := rfl, steps1 := Int.le_refl _, steps2 := Int.le_refl _, left1 := Int.le_refl _, left2 := (by show (0 : Int) ≤ _; omega), broken := rfl, free := fun _ => rfl, counts := fun hc => (by cases hc), now := fun t ht => ?_, old := fun t ht => rfl, clean := fun t ht _ => rfl, sizeS := fun t ht => size_cut hn ht, sizeN := fun t ht => size_cut hn ht }
  show (if t < n then cut b t else zeros 256) = cut b t
  have ht' : t < n := ht
  rw [if_pos ht']
theorem zero_at (k j : Nat) (hj : j < (zeros k).data.size) : (zeros k).data[j] = 0 := by
  have e : (zeros k).data = (List.replicate k (0 : UInt8)).toArray := rfl
  simp only [e, List.getElem_toArray, List.getElem_replicate]
theorem cut_zeros (n t : Nat) (ht : t < n) : cut (zeros (n * 256)) t = zeros 256 := by
  have hs := size_cut (size_zeros (n * 256)) ht
  have h1 : (t + 1) * 256 ≤ n * 256 := Nat.mul_le_mul_right _ ht
  apply ByteArray.ext
  apply Array.ext
  · exact hs.trans (size_zeros 256).symm
  · intro i g1 g2
    have e : (cut (zeros (n * 256)) t).data = (zeros (n * 256)).data.extract (t * 256) ((t + 1) * 256) := ByteArray.data_extract
    have e1 : ∀ j (hj : j < (zeros (n * 256)).data.size), (zeros (n * 256)).data[j] = 0 := fun j hj => zero_at _ j hj
    have e2 : (zeros 256).data[i] = 0 := zero_at _ i g2
    rw [e2]
    simp only [e, Array.getElem_extract]
    exact e1 _ _
theorem rel_new (n : Nat) : Rel 0 (PS.fresh n (fun _ => zeros 256)) (RS.fresh (zeros (n * 256)) n) := by
  refine { n := rfl, steps := rfl, steps1 := Int.le_refl _, steps2 := Int.le_refl _, left1 := Int.le_refl _, left2 := (by show (0 : Int) ≤ _; omega), broken := rfl, free := fun _ => rfl, counts := fun hc => (by cases hc), now := fun t ht => ?_, old := fun t ht => rfl, clean := fun t ht _ => rfl, sizeS := fun t ht => size_cut (size_zeros _) ht, sizeN := fun t ht => size_cut (size_zeros _) ht }
  exact (cut_zeros n t ht).symm
end Go.Proofs.Ytdgbgmffpcooeaa
