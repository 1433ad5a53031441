/- Plain facts on the cells of a rectangle: no program is looked at here. -/
import Derived.Test.YtdgbgmffpcooeaaCover
import Derived.Test.YtdgbgmffpcooeaaKeep
namespace Go.Proofs.Ytdgbgmffpcooeaa

theorem cod_shl (k m x y : Nat) : cod (k + m) (x * 2 ^ k) (y * 2 ^ k) = cod m x y * 4 ^ k := by
  induction k with
  | zero => simp
  | succ k ih =>
    rw [show k + 1 + m = (k + m) + 1 by omega, cod]
    have ex : x * 2 ^ (k + 1) / 2 = x * 2 ^ k := by rw [Nat.pow_succ, ← Nat.mul_assoc, Nat.mul_div_cancel _ (by decide)]
    have ey : y * 2 ^ (k + 1) / 2 = y * 2 ^ k := by rw [Nat.pow_succ, ← Nat.mul_assoc, Nat.mul_div_cancel _ (by decide)]
    have mx : x * 2 ^ (k + 1) % 2 = 0 := by rw [Nat.pow_succ, ← Nat.mul_assoc, Nat.mul_mod_left]
    have my : y * 2 ^ (k + 1) % 2 = 0 := by rw [Nat.pow_succ, ← Nat.mul_assoc, Nat.mul_mod_left]
    rw [ex, ey, mx, my, ih, Nat.pow_succ 4 k]
    have : cod m x y * (4 ^ k * 4) = 4 * (cod m x y * 4 ^ k) := by rw [Nat.mul_comm (4 ^ k), Nat.mul_left_comm]
    omega
theorem celAt_fst (k x y : Nat) (hk : k ≤ 16) : (celAt k x y).1 = cod (16 - k) x y * 4 ^ k := by
  have := cod_shl k (16 - k) x y
  rw [show k + (16 - k) = 16 by omega] at this
  exact this
theorem celAt_div (k x y : Nat) (hk : k ≤ 16) : (celAt k x y).1 / 4 ^ k = cod (16 - k) x y := by
  rw [celAt_fst k x y hk, Nat.mul_div_cancel _ (Nat.pow_pos (by decide))]
theorem code_div (k x y : Nat) (hk : k ≤ 16) : code x y / 4 ^ k = cod (16 - k) (x / 2 ^ k) (y / 2 ^ k) := by
  have := cod_div k (16 - k) x y
  rw [show k + (16 - k) = 16 by omega] at this
  exact this
theorem shr_small (x k : Nat) (hk : k ≤ 16) (hx : x < 65536) : x / 2 ^ k < 2 ^ (16 - k) :=
  Nat.div_lt_of_lt_mul (by rw [← Nat.pow_add, show k + (16 - k) = 16 by omega]; exact hx)

theorem mem_gridL (k A B nr n : Nat) (x : Nat × Nat) : x ∈ gridL k A B nr n 0 ↔ ∃ i j, i < n ∧ j < nr ∧ x = celAt k (A + i) (B + j) := by
  unfold gridL
  simp only [List.range_zero, List.map_nil, List.append_nil, List.mem_flatMap, List.mem_map, List.mem_range]
  constructor
  · rintro ⟨i, hi, j, hj, e⟩; exact ⟨i, j, hi, hj, e.symm⟩
  · rintro ⟨i, j, hi, hj, e⟩; exact ⟨i, hi, j, hj, e.symm⟩

theorem nodup_gridL (k A B nr n : Nat) (hk : k ≤ 16) (hA : A + n ≤ 2 ^ (16 - k)) (hB : B + nr ≤ 2 ^ (16 - k)) : (gridL k A B nr n 0).Nodup := by
  have inj : ∀ i j i' j', i < n → j < nr → i' < n → j' < nr → celAt k (A + i) (B + j) = celAt k (A + i') (B + j') → i = i' ∧ j = j' := by
    intro i j i' j' hi hj hi' hj' e
    have e1 : (celAt k (A + i) (B + j)).1 / 4 ^ k = (celAt k (A + i') (B + j')).1 / 4 ^ k := by rw [e]
    rw [celAt_div k _ _ hk, celAt_div k _ _ hk] at e1
    have := cod_inj (16 - k) _ _ _ _ (by omega) (by omega) (by omega) (by omega) e1
    omega
  unfold gridL List.Nodup
  simp only [List.range_zero, List.map_nil, List.append_nil]
  rw [List.pairwise_flatMap]
  constructor
  · intro i hi
    rw [List.pairwise_map]
    refine List.Pairwise.imp_of_mem ?_ List.nodup_range
    intro j j' hj hj' hne e
    simp only [List.mem_range] at hi hj hj'
    exact hne (inj i j i j' hi hj hi hj' e).2
  · refine List.Pairwise.imp_of_mem ?_ List.nodup_range
    intro i i' hi hi' hne a ha b hb e
    simp only [List.mem_map, List.mem_range] at hi hi' ha hb
    obtain ⟨j, hj, ea⟩ := ha
    obtain ⟨j', hj', eb⟩ := hb
    exact hne (inj i j i' j' hi hj hi' hj' (ea.trans (e.trans eb.symm))).1

theorem IsCover.k15 {r : Box} {k : Nat} {l : List (Nat × Nat)} (h : IsCover r k l) (hr : r.ok) : k ≤ 15 := size_le hr h.size
theorem IsCover.mem {r : Box} {k : Nat} {l : List (Nat × Nat)} (h : IsCover r k l) (hr : r.ok) (x : Nat × Nat) :
    x ∈ l ↔ ∃ p q, r.a / 2 ^ k ≤ p ∧ p ≤ r.c / 2 ^ k ∧ r.b / 2 ^ k ≤ q ∧ q ≤ r.d / 2 ^ k ∧ x = celAt k p q := by
  have h1 : r.a / 2 ^ k ≤ r.c / 2 ^ k := Nat.div_le_div_right hr.1
  have h2 : r.b / 2 ^ k ≤ r.d / 2 ^ k := Nat.div_le_div_right hr.2.2.1
  rw [h.perm.mem_iff, mem_gridL]
  constructor
  · rintro ⟨i, j, hi, hj, e⟩; exact ⟨_, _, by omega, by omega, by omega, by omega, e⟩
  · rintro ⟨p, q, e1, e2, e3, e4, e⟩
    exact ⟨p - r.a / 2 ^ k, q - r.b / 2 ^ k, by omega, by omega, by rw [e, show r.a / 2 ^ k + (p - r.a / 2 ^ k) = p by omega, show r.b / 2 ^ k + (q - r.b / 2 ^ k) = q by omega]⟩
theorem IsCover.nodup {r : Box} {k : Nat} {l : List (Nat × Nat)} (h : IsCover r k l) (hr : r.ok) : l.Nodup := by
  have hk := h.k15 hr
  have h1 : r.a / 2 ^ k ≤ r.c / 2 ^ k := Nat.div_le_div_right hr.1
  have h2 : r.b / 2 ^ k ≤ r.d / 2 ^ k := Nat.div_le_div_right hr.2.2.1
  have h3 := shr_small r.c k (by omega) hr.2.1
  have h4 := shr_small r.d k (by omega) hr.2.2.2
  exact h.perm.symm.nodup (nodup_gridL k _ _ _ _ (by omega) (by omega) (by omega))
theorem IsCover.len {r : Box} {k : Nat} {l : List (Nat × Nat)} (h : IsCover r k l) (hr : r.ok) : l.length = 1 ∨ l.length = 2 ∨ l.length = 4 := by
  have h1 : r.a / 2 ^ k ≤ r.c / 2 ^ k := Nat.div_le_div_right hr.1
  have h2 : r.b / 2 ^ k ≤ r.d / 2 ^ k := Nat.div_le_div_right hr.2.2.1
  have h3 := h.size.1.1
  have h4 := h.size.1.2
  rw [h.perm.length_eq, length_gridL]
  rcases (show r.c / 2 ^ k - r.a / 2 ^ k + 1 = 1 ∨ r.c / 2 ^ k - r.a / 2 ^ k + 1 = 2 by omega) with e | e <;> rcases (show r.d / 2 ^ k - r.b / 2 ^ k + 1 = 1 ∨ r.d / 2 ^ k - r.b / 2 ^ k + 1 = 2 by omega) with f | f <;> rw [e, f] <;> simp

/-- What is true of each cell. -/
structure Good (r : Box) (k : Nat) (x : Nat × Nat) : Prop where
  two : x.2 = k
  cell : x.1 = x.1 / 4 ^ k * 4 ^ k
  fits : (x.1 / 4 ^ k + 1) * 4 ^ k ≤ 4294967296
  meets : meetB (sqr (x.1 / 4 ^ k) k) r = true
theorem IsCover.good {r : Box} {k : Nat} {l : List (Nat × Nat)} (h : IsCover r k l) (hr : r.ok) {x : Nat × Nat} (hx : x ∈ l) : Good r k x := by
  have hk := h.k15 hr
  obtain ⟨p, q, e1, e2, e3, e4, rfl⟩ := (h.mem hr x).1 hx
  have p4 := Nat.pow_pos (n := k) (show 0 < 4 by decide)
  have h3 := shr_small r.c k (by omega) hr.2.1
  have h4 := shr_small r.d k (by omega) hr.2.2.2
  have ed := celAt_div k p q (by omega)
  have ef := celAt_fst k p q (by omega)
  have hlt := cod_lt (16 - k) p q
  have hfit : (cod (16 - k) p q + 1) * 4 ^ k ≤ 4294967296 := by
    have := Nat.mul_le_mul_right (4 ^ k) (show cod (16 - k) p q + 1 ≤ 4 ^ (16 - k) from hlt)
    rw [← Nat.pow_add, show 16 - k + k = 16 by omega] at this
    exact this
  refine ⟨rfl, by rw [ed]; exact ef, by rw [ed]; exact hfit, ?_⟩
  rw [ed]
  have hx := dex_shift k (16 - k) (cod (16 - k) p q)
  have hy := dey_shift k (16 - k) (cod (16 - k) p q)
  rw [show k + (16 - k) = 16 by omega] at hx hy
  rw [dex_cod _ _ _ (by omega)] at hx
  rw [dey_cod _ _ _ (by omega)] at hy
  have q2 := Nat.two_pow_pos k
  have d1 : p * 2 ^ k ≤ r.c := Nat.le_trans (Nat.mul_le_mul_right _ e2) (Nat.div_mul_le_self _ _)
  have d2 : q * 2 ^ k ≤ r.d := Nat.le_trans (Nat.mul_le_mul_right _ e4) (Nat.div_mul_le_self _ _)
  have d3 : r.a < (p + 1) * 2 ^ k := Nat.lt_of_lt_of_le (Nat.lt_mul_of_div_lt (Nat.lt_succ_of_le e1) q2) (Nat.le_refl _)
  have d4 : r.b < (q + 1) * 2 ^ k := Nat.lt_of_lt_of_le (Nat.lt_mul_of_div_lt (Nat.lt_succ_of_le e3) q2) (Nat.le_refl _)
  rw [Nat.add_mul] at d3 d4
  unfold meetB
  rw [decide_eq_true_iff]
  simp only [sqr]
  rw [hx, hy]; omega

/-- The cell of a point. -/
theorem IsCover.point {r : Box} {k : Nat} {l : List (Nat × Nat)} (h : IsCover r k l) (hr : r.ok) {x y : Nat} (hxy : r.has x y) : ∃ c ∈ l, c.1 / 4 ^ k = code x y / 4 ^ k := by
  have hk := h.k15 hr
  refine ⟨celAt k (x / 2 ^ k) (y / 2 ^ k), (h.mem hr _).2 ⟨_, _, Nat.div_le_div_right hxy.1, Nat.div_le_div_right hxy.2.1, Nat.div_le_div_right hxy.2.2.1, Nat.div_le_div_right hxy.2.2.2, rfl⟩, ?_⟩
  rw [celAt_div k _ _ (by omega), code_div k _ _ (by omega)]
theorem IsCover.one {r : Box} {k : Nat} {l : List (Nat × Nat)} (h : IsCover r k l) (hr : r.ok) {x y : Nat} (hxy : r.has x y) : l.countP (fun c => c.1 / 4 ^ k == code x y / 4 ^ k) = 1 := by
  have hk := h.k15 hr
  obtain ⟨c, hc, e⟩ := h.point hr hxy
  have : ∀ z ∈ l, (z.1 / 4 ^ k == code x y / 4 ^ k) = true ↔ (z == c) = true := by
    intro z hz
    rw [beq_iff_eq, beq_iff_eq, ← e]
    constructor
    · intro g
      have gz := h.good hr hz
      have gc := h.good hr hc
      refine Prod.ext ?_ (gz.two.trans gc.two.symm)
      rw [gz.cell, gc.cell, g]
    · intro g; rw [g]
  rw [List.countP_congr this]
  exact (h.nodup hr).count (a := c) |>.trans (if_pos hc)
theorem IsCover.strict {r : Box} {k : Nat} {l : List (Nat × Nat)} (h : IsCover r k l) (hr : r.ok) (i j : Nat) (hij : i < j) (hj : j < l.length) : (l[i]'(by omega)).1 < (l[j]).1 := by
  have h1 := (List.pairwise_iff_getElem.1 h.sorted) i j (by omega) hj hij
  have h2 := (List.pairwise_iff_getElem.1 (h.nodup hr)) i j (by omega) hj hij
  refine Nat.lt_of_le_of_ne h1 fun e => h2 ?_
  exact Prod.ext e (((h.good hr (List.getElem_mem _)).two).trans ((h.good hr (List.getElem_mem _)).two).symm)

/-- Two that meet. -/
theorem covers_meet {r s : Box} {k m : Nat} {l l' : List (Nat × Nat)} (hr : r.ok) (hs : s.ok) (h : IsCover r k l) (h' : IsCover s m l') (hm : meetB r s = true) : ∃ c ∈ l, ∃ c' ∈ l', c.1 / 4 ^ max k m = c'.1 / 4 ^ max k m := by
  unfold meetB at hm
  rw [decide_eq_true_iff] at hm
  obtain ⟨r1, r2, r3, r4⟩ := hr
  obtain ⟨s1, s2, s3, s4⟩ := hs
  obtain ⟨c, hc, e⟩ := h.point ⟨r1, r2, r3, r4⟩ (x := max r.a s.a) (y := max r.b s.b) ⟨by omega, by omega, by omega, by omega⟩
  obtain ⟨c', hc', e'⟩ := h'.point ⟨s1, s2, s3, s4⟩ (x := max r.a s.a) (y := max r.b s.b) ⟨by omega, by omega, by omega, by omega⟩
  refine ⟨c, hc, c', hc', ?_⟩
  have key : ∀ (z n t M : Nat), n ≤ M → z / 4 ^ n = t / 4 ^ n → z / 4 ^ M = t / 4 ^ M := by
    intro z n t M hn g
    rw [show M = n + (M - n) by omega, Nat.pow_add, ← Nat.div_div_eq_div_mul, ← Nat.div_div_eq_div_mul, g]
  rw [key c.1 k _ (max k m) (by omega) e, key c'.1 m _ (max k m) (by omega) e']
end Go.Proofs.Ytdgbgmffpcooeaa
