/- Math -/
section
/- Plain facts on interleaved codes, cells and windows: no program is looked at here. -/
namespace Go.Proofs.YtdgbgmffpcooeaaGreat

def cod : Nat → Nat → Nat → Nat
  | 0, _, _ => 0
  | n + 1, x, y => x % 2 + 2 * (y % 2) + 4 * cod n (x / 2) (y / 2)
def dex : Nat → Nat → Nat
  | 0, _ => 0
  | n + 1, c => c % 2 + 2 * dex n (c / 4)
def dey : Nat → Nat → Nat
  | 0, _ => 0
  | n + 1, c => c / 2 % 2 + 2 * dey n (c / 4)

theorem cod_lt (n x y : Nat) : cod n x y < 4 ^ n := by
  induction n generalizing x y with
  | zero => simp [cod]
  | succ n ih => have := ih (x / 2) (y / 2); rw [cod, Nat.pow_succ]; omega

theorem dex_lt (n c : Nat) : dex n c < 2 ^ n := by
  induction n generalizing c with
  | zero => simp [dex]
  | succ n ih => have := ih (c / 4); rw [dex, Nat.pow_succ]; omega
theorem dey_lt (n c : Nat) : dey n c < 2 ^ n := by
  induction n generalizing c with
  | zero => simp [dey]
  | succ n ih => have := ih (c / 4); rw [dey, Nat.pow_succ]; omega

theorem cod_top (n x y : Nat) : cod (n + 1) x y = cod n x y + x / 2 ^ n % 2 * 4 ^ n + y / 2 ^ n % 2 * (2 * 4 ^ n) := by
  induction n generalizing x y with
  | zero => simp [cod]; omega
  | succ n ih =>
    have e : ∀ z : Nat, z / 2 ^ (n + 1) = z / 2 / 2 ^ n := fun z => by rw [Nat.pow_succ, Nat.mul_comm, Nat.div_div_eq_div_mul]
    rw [cod, ih (x / 2) (y / 2), e x, e y, cod, Nat.pow_succ 4 n, Nat.mul_add, Nat.mul_add]
    generalize x / 2 / 2 ^ n % 2 = a
    generalize y / 2 / 2 ^ n % 2 = b
    generalize 4 ^ n = q
    have h1 : a * (q * 4) = 4 * (a * q) := by rw [Nat.mul_comm q, Nat.mul_left_comm]
    have h2 : b * (2 * (q * 4)) = 4 * (b * (2 * q)) := by rw [← Nat.mul_assoc 2 q 4, Nat.mul_comm _ 4, Nat.mul_left_comm]
    rw [h1, h2]; omega

theorem dex_top (n c : Nat) : dex (n + 1) c = dex n c + c / 4 ^ n % 2 * 2 ^ n := by
  induction n generalizing c with
  | zero => simp [dex]
  | succ n ih =>
    have e : c / 4 ^ (n + 1) = c / 4 / 4 ^ n := by rw [Nat.pow_succ, Nat.mul_comm, Nat.div_div_eq_div_mul]
    rw [dex, ih (c / 4), e, dex, Nat.pow_succ 2 n, Nat.mul_add]
    generalize c / 4 / 4 ^ n % 2 = a
    generalize 2 ^ n = q
    have h1 : a * (q * 2) = 2 * (a * q) := by rw [Nat.mul_comm q, Nat.mul_left_comm]
    rw [h1]; omega
theorem dey_top (n c : Nat) : dey (n + 1) c = dey n c + c / (4 ^ n * 2) % 2 * 2 ^ n := by
  induction n generalizing c with
  | zero => simp [dey]
  | succ n ih =>
    have e : c / (4 ^ (n + 1) * 2) = c / 4 / (4 ^ n * 2) := by rw [Nat.pow_succ, Nat.div_div_eq_div_mul]; congr 1; omega
    rw [dey, ih (c / 4), e, dey, Nat.pow_succ 2 n, Nat.mul_add]
    generalize c / 4 / (4 ^ n * 2) % 2 = a
    generalize 2 ^ n = q
    have h1 : a * (q * 2) = 2 * (a * q) := by rw [Nat.mul_comm q, Nat.mul_left_comm]
    rw [h1]; omega

theorem cod_div4 (n x y : Nat) : cod (n + 1) x y / 4 = cod n (x / 2) (y / 2) := by rw [cod]; omega

theorem cod_div (k m x y : Nat) : cod (k + m) x y / 4 ^ k = cod m (x / 2 ^ k) (y / 2 ^ k) := by
  induction k generalizing x y with
  | zero => simp
  | succ k ih =>
    have e : ∀ z : Nat, z / 2 ^ (k + 1) = z / 2 / 2 ^ k := fun z => by rw [Nat.pow_succ, Nat.mul_comm, Nat.div_div_eq_div_mul]
    rw [e x, e y, ← ih, Nat.pow_succ, Nat.mul_comm, ← Nat.div_div_eq_div_mul, show k + 1 + m = (k + m) + 1 by omega, cod_div4]

theorem dex_cod (n x y : Nat) (hx : x < 2 ^ n) : dex n (cod n x y) = x := by
  induction n generalizing x y with
  | zero => simp [dex]; simp at hx; omega
  | succ n ih =>
    rw [Nat.pow_succ] at hx
    rw [dex, cod_div4, ih _ _ (by omega), cod]; omega
theorem dey_cod (n x y : Nat) (hy : y < 2 ^ n) : dey n (cod n x y) = y := by
  induction n generalizing x y with
  | zero => simp [dey]; simp at hy; omega
  | succ n ih =>
    rw [Nat.pow_succ] at hy
    rw [dey, cod_div4, ih _ _ (by omega), cod]; omega
theorem cod_de (n c : Nat) (h : c < 4 ^ n) : cod n (dex n c) (dey n c) = c := by
  induction n generalizing c with
  | zero => simp [cod]; simp at h; omega
  | succ n ih =>
    rw [Nat.pow_succ] at h
    have := ih (c / 4) (by omega)
    rw [cod, dex, dey, show (c % 2 + 2 * dex n (c / 4)) / 2 = dex n (c / 4) by omega, show (c / 2 % 2 + 2 * dey n (c / 4)) / 2 = dey n (c / 4) by omega, this]
    omega

theorem dex_shift (k m p : Nat) : dex (k + m) (p * 4 ^ k) = dex m p * 2 ^ k := by
  induction k with
  | zero => simp
  | succ k ih =>
    rw [show k + 1 + m = (k + m) + 1 by omega, dex, Nat.pow_succ, Nat.pow_succ, ← Nat.mul_assoc, Nat.mul_div_cancel _ (by decide), ih]
    have : dex m p * (2 ^ k * 2) = 2 * (dex m p * 2 ^ k) := by rw [Nat.mul_comm (2 ^ k), Nat.mul_left_comm]
    omega
theorem dey_shift (k m p : Nat) : dey (k + m) (p * 4 ^ k) = dey m p * 2 ^ k := by
  induction k with
  | zero => simp
  | succ k ih =>
    rw [show k + 1 + m = (k + m) + 1 by omega, dey, Nat.pow_succ, Nat.pow_succ, ← Nat.mul_assoc, Nat.mul_div_cancel _ (by decide), ih]
    have : dey m p * (2 ^ k * 2) = 2 * (dey m p * 2 ^ k) := by rw [Nat.mul_comm (2 ^ k), Nat.mul_left_comm]
    omega

theorem cod_strict (n x y x' y' : Nat) (hx : x ≤ x') (hy : y ≤ y') (h : x < x' ∨ y < y') (lx : x' < 2 ^ n) (ly : y' < 2 ^ n) : cod n x y < cod n x' y' := by
  induction n generalizing x y x' y' with
  | zero => simp at lx ly; omega
  | succ n ih =>
    rw [Nat.pow_succ] at lx ly
    rw [cod, cod]
    by_cases g : x / 2 < x' / 2 ∨ y / 2 < y' / 2
    · have := ih (x / 2) (y / 2) (x' / 2) (y' / 2) (by omega) (by omega) g (by omega) (by omega); omega
    · rw [show x / 2 = x' / 2 by omega, show y / 2 = y' / 2 by omega]; omega
theorem cod_mono (n x y x' y' : Nat) (hx : x ≤ x') (hy : y ≤ y') (lx : x' < 2 ^ n) (ly : y' < 2 ^ n) : cod n x y ≤ cod n x' y' := by
  by_cases h : x < x' ∨ y < y'
  · exact Nat.le_of_lt (cod_strict n x y x' y' hx hy h lx ly)
  · rw [show x = x' by omega, show y = y' by omega]; exact Nat.le_refl _
theorem cod_inj (n x y x' y' : Nat) (lx : x < 2 ^ n) (ly : y < 2 ^ n) (lx' : x' < 2 ^ n) (ly' : y' < 2 ^ n) (h : cod n x y = cod n x' y') : x = x' ∧ y = y' := by
  have a := dex_cod n x y lx
  have b := dey_cod n x y ly
  rw [h, dex_cod n x' y' lx'] at a
  rw [h, dey_cod n x' y' ly'] at b
  exact ⟨a.symm, b.symm⟩

theorem div_eq_iff (x d q : Nat) (hq : 0 < q) : x / q = d ↔ d * q ≤ x ∧ x ≤ d * q + (q - 1) := by
  rw [Nat.div_eq_iff hq, Nat.mul_comm]; omega

/-- A cell: the points whose codes begin so stand in one square. -/
theorem cell_iff (k m p x y : Nat) (hp : p < 4 ^ m) (hx : x < 2 ^ (k + m)) (hy : y < 2 ^ (k + m)) :
    cod (k + m) x y / 4 ^ k = p ↔ (dex (k + m) (p * 4 ^ k) ≤ x ∧ x ≤ dex (k + m) (p * 4 ^ k) + (2 ^ k - 1)) ∧ (dey (k + m) (p * 4 ^ k) ≤ y ∧ y ≤ dey (k + m) (p * 4 ^ k) + (2 ^ k - 1)) := by
  have h2 : 0 < 2 ^ k := Nat.two_pow_pos k
  have bx : x / 2 ^ k < 2 ^ m := Nat.div_lt_of_lt_mul (by rwa [← Nat.pow_add])
  have hb : y / 2 ^ k < 2 ^ m := Nat.div_lt_of_lt_mul (by rwa [← Nat.pow_add])
  rw [cod_div, dex_shift, dey_shift, ← div_eq_iff _ _ _ h2, ← div_eq_iff _ _ _ h2]
  constructor
  · intro h
    rw [← h, dex_cod m _ _ bx, dey_cod m _ _ hb]; exact ⟨rfl, rfl⟩
  · rintro ⟨a, b⟩
    rw [a, b, cod_de m p hp]

/-- Cells one behind the other, from the code a on, up to the code b. -/
def chain : Nat → List (Nat × Nat) → Nat → Prop
  | a, [], b => a = b
  | a, q :: r, b => q.1 * 4 ^ q.2 = a ∧ chain ((q.1 + 1) * 4 ^ q.2) r b

theorem chain_snoc {a b : Nat} {L : List (Nat × Nat)} {q : Nat × Nat} (h : chain a L b) (hq : q.1 * 4 ^ q.2 = b) : chain a (L ++ [q]) ((q.1 + 1) * 4 ^ q.2) := by
  induction L generalizing a with
  | nil => exact ⟨hq.trans (Eq.symm h), rfl⟩
  | cons x r ih => exact ⟨h.1, ih h.2⟩

theorem chain_length {a b : Nat} {L : List (Nat × Nat)} (h : chain a L b) : a + L.length ≤ b := by
  induction L generalizing a with
  | nil => simp only [chain] at h; simp; omega
  | cons x r ih =>
    have := ih h.2
    have p := Nat.pow_pos (n := x.2) (show 0 < 4 by decide)
    have e := h.1
    rw [Nat.add_mul] at this
    simp; omega

theorem chain_split {a b : Nat} {L : List (Nat × Nat)} {q : Nat × Nat} (h : chain a (L ++ [q]) b) : chain a L (q.1 * 4 ^ q.2) ∧ b = (q.1 + 1) * 4 ^ q.2 := by
  induction L generalizing a with
  | nil => simp only [chain, List.nil_append] at h ⊢; exact ⟨h.1.symm, h.2.symm⟩
  | cons x r ih => exact ⟨⟨h.1, (ih h.2).1⟩, (ih h.2).2⟩

/-- Codes between a and b lie in one of the cells. -/
theorem chain_in {a b c : Nat} {L : List (Nat × Nat)} (h : chain a L b) (h1 : a ≤ c) (h2 : c < b) : ∃ q ∈ L, c / 4 ^ q.2 = q.1 := by
  induction L generalizing a with
  | nil => simp only [chain] at h; omega
  | cons x r ih =>
    have p := Nat.pow_pos (n := x.2) (show 0 < 4 by decide)
    by_cases g : c < (x.1 + 1) * 4 ^ x.2
    · refine ⟨x, by simp, ?_⟩
      rw [div_eq_iff _ _ _ p]
      have := h.1
      rw [Nat.add_mul] at g; omega
    · obtain ⟨q, hq, e⟩ := ih h.2 (by omega)
      exact ⟨q, by simp [hq], e⟩

/-- A rectangle of the grid, by four numbers. -/
structure Box where
  a : Nat
  b : Nat
  c : Nat
  d : Nat
def Box.has (r : Box) (x y : Nat) : Prop := r.a ≤ x ∧ x ≤ r.c ∧ r.b ≤ y ∧ y ≤ r.d
def Box.ok (r : Box) : Prop := r.a ≤ r.c ∧ r.c < 65536 ∧ r.b ≤ r.d ∧ r.d < 65536

def code (x y : Nat) : Nat := cod 16 x y
theorem code_lt (x y : Nat) : code x y < 4294967296 := cod_lt 16 x y

/-- What Next must answer. -/
def IsNext (c : Nat) (r : Box) (n : Int) : Prop :=
  (∃ x y, r.has x y ∧ n = (code x y : Int) ∧ c ≤ code x y ∧ ∀ x' y', r.has x' y' → c ≤ code x' y' → code x y ≤ code x' y') ∨ (n = -1 ∧ ∀ x y, r.has x y → code x y < c)

/-- The square of a cell, as the program reckons it. -/
def sqr (p k : Nat) : Box := ⟨dex 16 (p * 4 ^ k), dey 16 (p * 4 ^ k), dex 16 (p * 4 ^ k) + (2 ^ k - 1), dey 16 (p * 4 ^ k) + (2 ^ k - 1)⟩
/-- What two have in common. -/
def both (s r : Box) : Box := ⟨max s.a r.a, max s.b r.b, min s.c r.c, min s.d r.d⟩

theorem sqr_has (p k x y : Nat) (hk : k ≤ 16) (hp : (p + 1) * 4 ^ k ≤ 4294967296) (hx : x < 65536) (hy : y < 65536) : (sqr p k).has x y ↔ code x y / 4 ^ k = p := by
  have e : k + (16 - k) = 16 := by omega
  have hpm : p < 4 ^ (16 - k) := by
    have q := Nat.pow_pos (n := k) (show 0 < 4 by decide)
    have : (p + 1) * 4 ^ k ≤ 4 ^ (16 - k) * 4 ^ k := by rw [← Nat.pow_add, show 16 - k + k = 16 by omega]; exact hp
    have := Nat.le_of_mul_le_mul_right this q
    omega
  have := cell_iff k (16 - k) p x y hpm (by rw [e]; exact hx) (by rw [e]; exact hy)
  rw [e] at this
  rw [code, this]
  simp only [sqr, Box.has]
  constructor
  · rintro ⟨a, b, c, d⟩; exact ⟨⟨a, b⟩, c, d⟩
  · rintro ⟨⟨a, b⟩, c, d⟩; exact ⟨a, b, c, d⟩

theorem sqr_lt (p k : Nat) (hk : k ≤ 16) : (sqr p k).c < 65536 ∧ (sqr p k).d < 65536 := by
  have hx := dex_shift k (16 - k) p
  have hy := dey_shift k (16 - k) p
  rw [show k + (16 - k) = 16 by omega] at hx hy
  have lx := dex_lt (16 - k) p
  have ly := dey_lt (16 - k) p
  have q := Nat.two_pow_pos k
  have e : 2 ^ (16 - k) * 2 ^ k = 65536 := by rw [← Nat.pow_add, show 16 - k + k = 16 by omega]
  have mx := Nat.mul_le_mul_right (2 ^ k) (show dex (16 - k) p + 1 ≤ 2 ^ (16 - k) from lx)
  have my := Nat.mul_le_mul_right (2 ^ k) (show dey (16 - k) p + 1 ≤ 2 ^ (16 - k) from ly)
  rw [e, Nat.add_mul] at mx my
  simp only [sqr]; rw [hx, hy]; omega

/-- All cells have come, and none has a point of the window. -/
theorem next_none {c : Nat} {r : Box} {L : List (Nat × Nat)} (hr : r.ok) (h : chain c L 4294967296) (hL : ∀ q ∈ L, q.2 ≤ 16 ∧ (q.1 + 1) * 4 ^ q.2 ≤ 4294967296) (hno : ∀ q ∈ L, ¬ ∃ x y, (sqr q.1 q.2).has x y ∧ r.has x y) :
    IsNext c r (-1) := by
  refine .inr ⟨rfl, fun x y hxy => ?_⟩
  have bx : x < 65536 := by have := hxy.2.1; have := hr.2.1; omega
  have hb : y < 65536 := by have := hxy.2.2.2; have := hr.2.2.2; omega
  refine Nat.lt_of_not_le fun g => ?_
  obtain ⟨q, hq, e⟩ := chain_in h g (code_lt x y)
  exact hno q hq ⟨x, y, (sqr_has q.1 q.2 x y (hL q hq).1 (hL q hq).2 bx hb).2 e, hxy⟩

/-- Some cells have come that have none, and one that has. -/
theorem next_some {c e : Nat} {r : Box} {L : List (Nat × Nat)} {q : Nat × Nat} (hr : r.ok) (h : chain c (L ++ [q]) e) (hL : ∀ q ∈ L, q.2 ≤ 16 ∧ (q.1 + 1) * 4 ^ q.2 ≤ 4294967296) (hno : ∀ q ∈ L, ¬ ∃ x y, (sqr q.1 q.2).has x y ∧ r.has x y)
    (hk : q.2 ≤ 16) (hp : (q.1 + 1) * 4 ^ q.2 ≤ 4294967296) (hb : (both (sqr q.1 q.2) r).ok) :
    IsNext c r (code (both (sqr q.1 q.2) r).a (both (sqr q.1 q.2) r).b) := by
  obtain ⟨h1, _⟩ := chain_split h
  have hle := chain_length h1
  have sl := sqr_lt q.1 q.2 hk
  obtain ⟨r1, r2, r3, r4⟩ := hr
  obtain ⟨b1, b2, b3, b4⟩ := hb
  simp only [both] at b1 b2 b3 b4 ⊢
  generalize hX : max (sqr q.1 q.2).a r.a = X at *
  generalize hY : max (sqr q.1 q.2).b r.b = Y at *
  have inS : (sqr q.1 q.2).has X Y := ⟨by omega, by omega, by omega, by omega⟩
  have inR : r.has X Y := ⟨by omega, by omega, by omega, by omega⟩
  have p4 := Nat.pow_pos (n := q.2) (show 0 < 4 by decide)
  have cXY := (sqr_has q.1 q.2 X Y hk hp (by omega) (by omega)).1 inS
  rw [div_eq_iff _ _ _ p4] at cXY
  refine .inl ⟨X, Y, inR, rfl, by omega, fun x y hxy hc => ?_⟩
  have bx : x < 65536 := by have := hxy.2.1; omega
  have hby : y < 65536 := by have := hxy.2.2.2; omega
  by_cases g : code x y < q.1 * 4 ^ q.2
  · obtain ⟨q', hq', e'⟩ := chain_in h1 hc g
    exact absurd ⟨x, y, (sqr_has q'.1 q'.2 x y (hL q' hq').1 (hL q' hq').2 bx hby).2 e', hxy⟩ (hno q' hq')
  · by_cases g2 : code x y < q.1 * 4 ^ q.2 + 4 ^ q.2
    · have := (sqr_has q.1 q.2 x y hk hp bx hby).2 (by rw [div_eq_iff _ _ _ p4]; omega)
      obtain ⟨s1, s2, s3, s4⟩ := this
      obtain ⟨t1, t2, t3, t4⟩ := hxy
      exact cod_mono 16 X Y x y (by omega) (by omega) bx hby
    · omega

/-- No point in common: the rectangle of what they have in common is not right. -/
theorem none_of_both {s r : Box} (h : ¬ (both s r).ok) (hs : s.c < 65536 ∧ s.d < 65536) : ¬ ∃ x y, s.has x y ∧ r.has x y := by
  rintro ⟨x, y, ⟨a, b, c, d⟩, e, f, g, i⟩
  refine h ⟨?_, ?_, ?_, ?_⟩ <;> simp only [both] <;> omega
end Go.Proofs.YtdgbgmffpcooeaaGreat
end
