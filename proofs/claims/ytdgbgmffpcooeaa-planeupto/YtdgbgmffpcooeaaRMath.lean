/- Plain facts on the document's way to look for the next code: prefix by prefix. No program is looked at here. -/
import Derived.Test.YtdgbgmffpcooeaaMath
namespace Go.Proofs.Ytdgbgmffpcooeaa

/-- The points of the codes that begin so, behind which f bits are free. -/
def psq (c f : Nat) : Box := ⟨dex 16 c, dey 16 c, dex 16 c + (2 ^ ((f + 1) / 2) - 1), dey 16 c + (2 ^ (f / 2) - 1)⟩

theorem four_pow (k : Nat) : 4 ^ k = 2 ^ (2 * k) := by rw [show 4 = 2 ^ 2 from rfl, ← Nat.pow_mul]
theorem sqr_pair (q k : Nat) (hk : k ≤ 15) : dex 16 ((2 * q + 1) * 4 ^ k) = dex 16 (2 * q * 4 ^ k) + 2 ^ k ∧ dey 16 ((2 * q + 1) * 4 ^ k) = dey 16 (2 * q * 4 ^ k) := by
  have x1 := dex_shift k (15 - k + 1) (2 * q + 1)
  have x0 := dex_shift k (15 - k + 1) (2 * q)
  have y1 := dey_shift k (15 - k + 1) (2 * q + 1)
  have y0 := dey_shift k (15 - k + 1) (2 * q)
  rw [show k + (15 - k + 1) = 16 by omega] at x1 x0 y1 y0
  rw [x1, x0, y1, y0]
  constructor
  · rw [dex, dex, show (2 * q + 1) / 4 = 2 * q / 4 by omega, show (2 * q + 1) % 2 = 1 by omega, show 2 * q % 2 = 0 by omega, Nat.zero_add, Nat.add_mul, Nat.one_mul, Nat.add_comm]
  · rw [dey, dey, show (2 * q + 1) / 4 = 2 * q / 4 by omega, show (2 * q + 1) / 2 = 2 * q / 2 by omega]

theorem psq_has (q f x y : Nat) (hf : f ≤ 32) (hq : (q + 1) * 2 ^ f ≤ 4294967296) (hx : x < 65536) (hy : y < 65536) : (psq (q * 2 ^ f) f).has x y ↔ code x y / 2 ^ f = q := by
  obtain ⟨k, e | e⟩ : ∃ k, f = 2 * k ∨ f = 2 * k + 1 := ⟨f / 2, by omega⟩
  · have e1 : (f + 1) / 2 = k := by omega
    have e2 : f / 2 = k := by omega
    have := sqr_has q k x y (by omega) (by rw [four_pow, ← e]; exact hq) hx hy
    rw [four_pow, ← e] at this
    rw [← this]
    unfold psq sqr
    rw [e1, e2, four_pow, ← e]
  · have e1 : (f + 1) / 2 = k + 1 := by omega
    have e2 : f / 2 = k := by omega
    have hk : k ≤ 15 := by omega
    have p2 : 2 ^ f = 2 * 4 ^ k := by rw [e, Nat.pow_succ, four_pow, Nat.mul_comm]
    have m1 : (q + 1) * 2 ^ f = (2 * q + 1 + 1) * 4 ^ k := by rw [p2, ← Nat.mul_assoc]; congr 1; omega
    have m0 : (2 * q + 1) * 4 ^ k ≤ (2 * q + 1 + 1) * 4 ^ k := Nat.mul_le_mul_right _ (by omega)
    have h0 := sqr_has (2 * q) k x y (by omega) (by omega) hx hy
    have h1 := sqr_has (2 * q + 1) k x y (by omega) (by omega) hx hy
    obtain ⟨px, py⟩ := sqr_pair q k hk
    have mq : q * 2 ^ f = 2 * q * 4 ^ k := by rw [p2, ← Nat.mul_assoc, Nat.mul_comm q 2]
    have hd : code x y / 2 ^ f = q ↔ (code x y / 4 ^ k = 2 * q ∨ code x y / 4 ^ k = 2 * q + 1) := by
      rw [p2, Nat.mul_comm 2, ← Nat.div_div_eq_div_mul]; omega
    rw [hd, ← h0, ← h1]
    unfold psq sqr Box.has
    simp only
    rw [e1, e2, mq, px, py, Nat.pow_succ]
    have := Nat.two_pow_pos k
    omega

theorem next_unique {c : Nat} {r : Box} {m n : Int} (hm : IsNext c r m) (hn : IsNext c r n) : m = n := by
  rcases hm with ⟨x, y, h1, e1, c1, l1⟩ | ⟨e1, l1⟩ <;> rcases hn with ⟨x', y', h2, e2, c2, l2⟩ | ⟨e2, l2⟩
  · have := l1 x' y' h2 c2; have := l2 x y h1 c1; omega
  · have := l2 x y h1; omega
  · have := l1 x' y' h2; omega
  · omega

/-- The least code in a window of those that begin so. -/
def Lst (q f : Nat) (r : Box) (m : Nat) : Prop := (∃ x y, r.has x y ∧ m = code x y) ∧ m / 2 ^ f = q ∧ ∀ x y, r.has x y → code x y / 2 ^ f = q → m ≤ code x y
/-- What stands while the bits are taken one by one. -/
def Dwn (q f : Nat) (r : Box) (q' f' : Nat) : Prop := f' ≤ f ∧ q' * 2 ^ f' / 2 ^ f = q ∧ (q' + 1) * 2 ^ f' ≤ 4294967296 ∧ (∃ x y, r.has x y ∧ code x y / 2 ^ f' = q') ∧ ∀ x y, r.has x y → code x y / 2 ^ f = q → q' * 2 ^ f' ≤ code x y
theorem Dwn.first {q f : Nat} {r : Box} (hq : (q + 1) * 2 ^ f ≤ 4294967296) (h : ∃ x y, r.has x y ∧ code x y / 2 ^ f = q) : Dwn q f r q f := by
  refine ⟨Nat.le_refl _, Nat.mul_div_cancel _ (Nat.two_pow_pos f), hq, h, fun x y _ e => ?_⟩
  have := ((div_eq_iff (code x y) q (2 ^ f) (Nat.two_pow_pos f)).1 e).1; exact this
theorem Dwn.last {q f : Nat} {r : Box} {q' : Nat} (h : Dwn q f r q' 0) : Lst q f r q' := by
  obtain ⟨_, h2, _, ⟨x, y, hxy, e⟩, h4⟩ := h
  simp only [Nat.pow_zero, Nat.mul_one, Nat.div_one] at h2 e h4
  exact ⟨⟨x, y, hxy, e.symm⟩, h2, h4⟩
theorem half_pow (q' f' : Nat) : q' * 2 ^ (f' + 1) = 2 * q' * 2 ^ f' := by rw [Nat.pow_succ, Nat.mul_comm (2 ^ f'), ← Nat.mul_assoc, Nat.mul_comm q' 2]
theorem Dwn.fits {q f : Nat} {r : Box} {q' f' : Nat} (h : Dwn q f r q' (f' + 1)) : (2 * q' + 1) * 2 ^ f' ≤ 4294967296 ∧ (2 * q' + 1 + 1) * 2 ^ f' ≤ 4294967296 := by
  have h3 := h.2.2.1
  rw [half_pow] at h3
  have e : 2 * (q' + 1) = 2 * q' + 1 + 1 := by omega
  rw [e] at h3
  exact ⟨Nat.le_trans (Nat.mul_le_mul_right _ (by omega)) h3, h3⟩
theorem Dwn.lower {q f : Nat} {r : Box} {q' f' : Nat} (h : Dwn q f r q' (f' + 1)) (hl : ∃ x y, r.has x y ∧ code x y / 2 ^ f' = 2 * q') : Dwn q f r (2 * q') f' := by
  have hf := h.fits
  obtain ⟨h1, h2, _, _, h5⟩ := h
  rw [half_pow] at h2 h5
  exact ⟨by omega, h2, hf.1, hl, h5⟩
theorem div_up (q' f f' : Nat) (h : f' < f) : (2 * q' + 1) * 2 ^ f' / 2 ^ f = 2 * q' * 2 ^ f' / 2 ^ f := by
  obtain ⟨d, rfl⟩ : ∃ d, f = f' + (1 + d) := ⟨f - f' - 1, by omega⟩
  rw [Nat.pow_add, ← Nat.div_div_eq_div_mul, ← Nat.div_div_eq_div_mul, Nat.mul_div_cancel _ (Nat.two_pow_pos f'), Nat.mul_div_cancel _ (Nat.two_pow_pos f'), Nat.pow_add, ← Nat.div_div_eq_div_mul, ← Nat.div_div_eq_div_mul]
  congr 1; omega
theorem Dwn.upper {q f : Nat} {r : Box} {q' f' : Nat} (h : Dwn q f r q' (f' + 1)) (hl : ¬ ∃ x y, r.has x y ∧ code x y / 2 ^ f' = 2 * q') : Dwn q f r (2 * q' + 1) f' := by
  have hf := h.fits
  obtain ⟨h1, h2, _, ⟨x, y, hxy, e⟩, h5⟩ := h
  have p0 := Nat.two_pow_pos f'
  rw [half_pow] at h2 h5
  have dd : ∀ c : Nat, c / 2 ^ (f' + 1) = c / 2 ^ f' / 2 := fun c => by rw [Nat.pow_succ, ← Nat.div_div_eq_div_mul]
  have e' := e
  rw [dd] at e'
  have ne : code x y / 2 ^ f' ≠ 2 * q' := fun g => hl ⟨x, y, hxy, g⟩
  refine ⟨by omega, ?_, hf.2, ⟨x, y, hxy, by omega⟩, fun x' y' hx' ex' => ?_⟩
  · rw [div_up q' f f' (by omega)]; exact h2
  · have g := h5 x' y' hx' ex'
    have ne' : code x' y' / 2 ^ f' ≠ 2 * q' := fun g => hl ⟨x', y', hx', g⟩
    have ge : 2 * q' ≤ code x' y' / 2 ^ f' := (Nat.le_div_iff_mul_le p0).2 g
    exact (Nat.le_div_iff_mul_le p0).1 (by omega)

/-- What stands while the prefixes are gone through. -/
def Gone (c : Nat) (r : Box) (b : Nat) : Prop := ∀ x y, r.has x y → c ≤ code x y → (c / 2 ^ b + 1) * 2 ^ b ≤ code x y
theorem Gone.first {c : Nat} {r : Box} (h : ¬ ∃ x y, r.has x y ∧ code x y / 2 ^ 0 = c) : Gone c r 0 := fun x y hxy hc => by
  simp only [Nat.pow_zero, Nat.div_one, Nat.mul_one] at h ⊢
  have : code x y ≠ c := fun e => h ⟨x, y, hxy, e⟩
  omega
theorem IsNext.here {c : Nat} {r : Box} (h : ∃ x y, r.has x y ∧ code x y / 2 ^ 0 = c) : IsNext c r c := by
  obtain ⟨x, y, hxy, e⟩ := h
  simp only [Nat.pow_zero, Nat.div_one] at e
  exact .inl ⟨x, y, hxy, by rw [e], by omega, fun x' y' _ h => by omega⟩
theorem Gone.odd {c : Nat} {r : Box} {b : Nat} (h : Gone c r b) (ho : c / 2 ^ b % 2 ≠ 0) : Gone c r (b + 1) := fun x y hxy hc => by
  have := h x y hxy hc
  have dd : c / 2 ^ (b + 1) = c / 2 ^ b / 2 := by rw [Nat.pow_succ, ← Nat.div_div_eq_div_mul]
  rw [half_pow, dd, show 2 * (c / 2 ^ b / 2 + 1) = c / 2 ^ b + 1 by omega]
  exact this
theorem Gone.even {c : Nat} {r : Box} {b : Nat} (h : Gone c r b) (ho : c / 2 ^ b % 2 = 0) (hn : ¬ ∃ x y, r.has x y ∧ code x y / 2 ^ b = c / 2 ^ b + 1) : Gone c r (b + 1) := fun x y hxy hc => by
  have g := h x y hxy hc
  have p0 := Nat.two_pow_pos b
  have dd : c / 2 ^ (b + 1) = c / 2 ^ b / 2 := by rw [Nat.pow_succ, ← Nat.div_div_eq_div_mul]
  rw [half_pow, dd, show 2 * (c / 2 ^ b / 2 + 1) = c / 2 ^ b + 2 by omega]
  have ne : code x y / 2 ^ b ≠ c / 2 ^ b + 1 := fun e => hn ⟨x, y, hxy, e⟩
  have ge := (Nat.le_div_iff_mul_le p0).2 g
  exact (Nat.le_div_iff_mul_le p0).1 (by omega)
theorem Gone.found {c : Nat} {r : Box} {b m : Nat} (h : Gone c r b) (hm : Lst (c / 2 ^ b + 1) b r m) : IsNext c r m := by
  obtain ⟨⟨x, y, hxy, e⟩, e2, hl⟩ := hm
  have p0 := Nat.two_pow_pos b
  have e3 := ((div_eq_iff m _ (2 ^ b) p0).1 e2)
  have hc : c < (c / 2 ^ b + 1) * 2 ^ b := Nat.lt_mul_of_div_lt (Nat.lt_succ_self _) p0
  refine .inl ⟨x, y, hxy, by rw [e], by omega, fun x' y' hx' hc' => ?_⟩
  rw [← e]
  have g := h x' y' hx' hc'
  have ge := (Nat.le_div_iff_mul_le p0).2 g
  by_cases k : code x' y' / 2 ^ b = c / 2 ^ b + 1
  · exact hl x' y' hx' k
  · have := (Nat.le_div_iff_mul_le p0).1 (show c / 2 ^ b + 1 + 1 ≤ code x' y' / 2 ^ b by omega)
    rw [Nat.add_mul _ 1] at this
    omega
theorem Gone.none {c : Nat} {r : Box} (h : Gone c r 32) (hc : c < 4294967296) : IsNext c r (-1) := .inr ⟨rfl, fun x y hxy => by
  refine Nat.lt_of_not_le fun g => ?_
  have := h x y hxy g
  have := code_lt x y
  omega⟩
theorem gone_fits {c b : Nat} (hc : c < 4294967296) (hb : b < 32) (he : c / 2 ^ b % 2 = 0) : (c / 2 ^ b + 1 + 1) * 2 ^ b ≤ 4294967296 := by
  have p0 := Nat.two_pow_pos b
  have e : (4294967296 : Nat) = 2 ^ (31 - b) * 2 * 2 ^ b := by rw [← Nat.pow_succ, ← Nat.pow_add, show (31 - b).succ + b = 32 by omega]
  rw [e]
  refine Nat.mul_le_mul_right _ ?_
  have : c / 2 ^ b < 2 ^ (31 - b) * 2 := Nat.div_lt_of_lt_mul (by rw [Nat.mul_comm, ← e]; exact hc)
  omega
end Go.Proofs.Ytdgbgmffpcooeaa
