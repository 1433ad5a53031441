/- Math T1 T2 T3 T4 T5 T7 T8 T9 T6 T10 T11 -/
namespace Go.Proofs.YtdgbgmffpcooeaaGreat
section
def cod : Nat → Nat → Nat → Nat
 | 0,_,_ => 0
 | n + 1,x,y => x % 2 + 2 * (y % 2) + 4 * cod n (x / 2) (y / 2)
def dex : Nat → Nat → Nat
 | 0,_ => 0
 | n + 1,c => c % 2 + 2 * dex n (c / 4)
def dey : Nat → Nat → Nat
 | 0,_ => 0
 | n + 1,c => c / 2 % 2 + 2 * dey n (c / 4)
theorem cod_lt (n x y : Nat) : cod n x y < 4 ^ n := by
 induction n generalizing x y with
 | zero => simp [cod]
 | succ n ih => have := ih (x / 2) (y / 2); rw [cod,Nat.pow_succ]; omega
theorem dex_lt (n c : Nat) : dex n c < 2 ^ n := by
 induction n generalizing c with
 | zero => simp [dex]
 | succ n ih => have := ih (c / 4); rw [dex,Nat.pow_succ]; omega
theorem dey_lt (n c : Nat) : dey n c < 2 ^ n := by
 induction n generalizing c with
 | zero => simp [dey]
 | succ n ih => have := ih (c / 4); rw [dey,Nat.pow_succ]; omega
theorem cod_top (n x y : Nat) : cod (n + 1) x y = cod n x y + x / 2 ^ n % 2 * 4 ^ n + y / 2 ^ n % 2 * (2 * 4 ^ n) := by
 induction n generalizing x y with
 | zero => simp [cod]; omega
 | succ n ih =>
  have e : ∀ z : Nat,z / 2 ^ (n + 1) = z / 2 / 2 ^ n := fun z => by rw [Nat.pow_succ,Nat.mul_comm,Nat.div_div_eq_div_mul]
  rw [cod,ih (x / 2) (y / 2),e x,e y,cod,Nat.pow_succ 4 n,Nat.mul_add,Nat.mul_add]
  generalize x / 2 / 2 ^ n % 2 = a
  generalize y / 2 / 2 ^ n % 2 = b
  generalize 4 ^ n = q
  have h1 : a * (q * 4) = 4 * (a * q) := by rw [Nat.mul_comm q,Nat.mul_left_comm]
  have h2 : b * (2 * (q * 4)) = 4 * (b * (2 * q)) := by rw [← Nat.mul_assoc 2 q 4,Nat.mul_comm _ 4,Nat.mul_left_comm]
  rw [h1,h2]; omega
theorem dex_top (n c : Nat) : dex (n + 1) c = dex n c + c / 4 ^ n % 2 * 2 ^ n := by
 induction n generalizing c with
 | zero => simp [dex]
 | succ n ih =>
  have e : c / 4 ^ (n + 1) = c / 4 / 4 ^ n := by rw [Nat.pow_succ,Nat.mul_comm,Nat.div_div_eq_div_mul]
  rw [dex,ih (c / 4),e,dex,Nat.pow_succ 2 n,Nat.mul_add]
  generalize c / 4 / 4 ^ n % 2 = a
  generalize 2 ^ n = q
  have h1 : a * (q * 2) = 2 * (a * q) := by rw [Nat.mul_comm q,Nat.mul_left_comm]
  rw [h1]; omega
theorem dey_top (n c : Nat) : dey (n + 1) c = dey n c + c / (4 ^ n * 2) % 2 * 2 ^ n := by
 induction n generalizing c with
 | zero => simp [dey]
 | succ n ih =>
  have e : c / (4 ^ (n + 1) * 2) = c / 4 / (4 ^ n * 2) := by rw [Nat.pow_succ,Nat.div_div_eq_div_mul]; congr 1; omega
  rw [dey,ih (c / 4),e,dey,Nat.pow_succ 2 n,Nat.mul_add]
  generalize c / 4 / (4 ^ n * 2) % 2 = a
  generalize 2 ^ n = q
  have h1 : a * (q * 2) = 2 * (a * q) := by rw [Nat.mul_comm q,Nat.mul_left_comm]
  rw [h1]; omega
theorem cod_div4 (n x y : Nat) : cod (n + 1) x y / 4 = cod n (x / 2) (y / 2) := by rw [cod]; omega
theorem cod_div (k m x y : Nat) : cod (k + m) x y / 4 ^ k = cod m (x / 2 ^ k) (y / 2 ^ k) := by
 induction k generalizing x y with
 | zero => simp
 | succ k ih =>
  have e : ∀ z : Nat,z / 2 ^ (k + 1) = z / 2 / 2 ^ k := fun z => by rw [Nat.pow_succ,Nat.mul_comm,Nat.div_div_eq_div_mul]
  rw [e x,e y, ← ih,Nat.pow_succ,Nat.mul_comm, ← Nat.div_div_eq_div_mul,show k + 1 + m = (k + m) + 1 by omega,cod_div4]
theorem dex_cod (n x y : Nat) (hx : x < 2 ^ n) : dex n (cod n x y) = x := by
 induction n generalizing x y with
 | zero => simp [dex]; simp at hx; omega
 | succ n ih =>
  rw [Nat.pow_succ] at hx
  rw [dex,cod_div4,ih _ _ (by omega),cod]; omega
theorem dey_cod (n x y : Nat) (hy : y < 2 ^ n) : dey n (cod n x y) = y := by
 induction n generalizing x y with
 | zero => simp [dey]; simp at hy; omega
 | succ n ih =>
  rw [Nat.pow_succ] at hy
  rw [dey,cod_div4,ih _ _ (by omega),cod]; omega
theorem cod_de (n c : Nat) (h : c < 4 ^ n) : cod n (dex n c) (dey n c) = c := by
 induction n generalizing c with
 | zero => simp [cod]; simp at h; omega
 | succ n ih =>
  rw [Nat.pow_succ] at h
  have := ih (c / 4) (by omega)
  rw [cod,dex,dey,show (c % 2 + 2 * dex n (c / 4)) / 2 = dex n (c / 4) by omega,show (c / 2 % 2 + 2 * dey n (c / 4)) / 2 = dey n (c / 4) by omega,this]
  omega
theorem dex_shift (k m p : Nat) : dex (k + m) (p * 4 ^ k) = dex m p * 2 ^ k := by
 induction k with
 | zero => simp
 | succ k ih =>
  rw [show k + 1 + m = (k + m) + 1 by omega,dex,Nat.pow_succ,Nat.pow_succ, ← Nat.mul_assoc,Nat.mul_div_cancel _ (by decide),ih]
  have : dex m p * (2 ^ k * 2) = 2 * (dex m p * 2 ^ k) := by rw [Nat.mul_comm (2 ^ k),Nat.mul_left_comm]
  omega
theorem dey_shift (k m p : Nat) : dey (k + m) (p * 4 ^ k) = dey m p * 2 ^ k := by
 induction k with
 | zero => simp
 | succ k ih =>
  rw [show k + 1 + m = (k + m) + 1 by omega,dey,Nat.pow_succ,Nat.pow_succ, ← Nat.mul_assoc,Nat.mul_div_cancel _ (by decide),ih]
  have : dey m p * (2 ^ k * 2) = 2 * (dey m p * 2 ^ k) := by rw [Nat.mul_comm (2 ^ k),Nat.mul_left_comm]
  omega
theorem cod_strict (n x y x' y' : Nat) (hx : x ≤ x') (hy : y ≤ y') (h : x < x' ∨ y < y') (lx : x' < 2 ^ n) (ly : y' < 2 ^ n) : cod n x y < cod n x' y' := by
 induction n generalizing x y x' y' with
 | zero => simp at lx ly; omega
 | succ n ih =>
  rw [Nat.pow_succ] at lx ly
  rw [cod,cod]
  by_cases g : x / 2 < x' / 2 ∨ y / 2 < y' / 2
  ·have := ih (x / 2) (y / 2) (x' / 2) (y' / 2) (by omega) (by omega) g (by omega) (by omega); omega
  ·rw [show x / 2 = x' / 2 by omega,show y / 2 = y' / 2 by omega]; omega
theorem cod_mono (n x y x' y' : Nat) (hx : x ≤ x') (hy : y ≤ y') (lx : x' < 2 ^ n) (ly : y' < 2 ^ n) : cod n x y ≤ cod n x' y' := by
 by_cases h : x < x' ∨ y < y'
 ·exact Nat.le_of_lt (cod_strict n x y x' y' hx hy h lx ly)
 ·rw [show x = x' by omega,show y = y' by omega]; exact Nat.le_refl _
theorem cod_inj (n x y x' y' : Nat) (lx : x < 2 ^ n) (ly : y < 2 ^ n) (lx' : x' < 2 ^ n) (ly' : y' < 2 ^ n) (h : cod n x y = cod n x' y') : x = x' ∧ y = y' := by
 have a := dex_cod n x y lx
 have b := dey_cod n x y ly
 rw [h,dex_cod n x' y' lx'] at a
 rw [h,dey_cod n x' y' ly'] at b
 exact ⟨a.symm,b.symm⟩
theorem div_eq_iff (x d q : Nat) (hq : 0 < q) : x / q = d ↔ d * q ≤ x ∧ x ≤ d * q + (q - 1) := by
 rw [Nat.div_eq_iff hq,Nat.mul_comm]; omega
theorem cell_iff (k m p x y : Nat) (hp : p < 4 ^ m) (hx : x < 2 ^ (k + m)) (hy : y < 2 ^ (k + m)) :
  cod (k + m) x y / 4 ^ k = p ↔ (dex (k + m) (p * 4 ^ k) ≤ x ∧ x ≤ dex (k + m) (p * 4 ^ k) + (2 ^ k - 1)) ∧ (dey (k + m) (p * 4 ^ k) ≤ y ∧ y ≤ dey (k + m) (p * 4 ^ k) + (2 ^ k - 1)) := by
 have h2 : 0 < 2 ^ k := Nat.two_pow_pos k
 have bx : x / 2 ^ k < 2 ^ m := Nat.div_lt_of_lt_mul (by rwa [← Nat.pow_add])
 have hb : y / 2 ^ k < 2 ^ m := Nat.div_lt_of_lt_mul (by rwa [← Nat.pow_add])
 rw [cod_div,dex_shift,dey_shift, ← div_eq_iff _ _ _ h2, ← div_eq_iff _ _ _ h2]
 constructor
 ·intro h
  rw [← h,dex_cod m _ _ bx,dey_cod m _ _ hb]; exact ⟨rfl,rfl⟩
 ·rintro ⟨a,b⟩
  rw [a,b,cod_de m p hp]
def chain : Nat → List (Nat × Nat) → Nat → Prop
 | a, [],b => a = b
 | a,q :: r,b => q.1 * 4 ^ q.2 = a ∧ chain ((q.1 + 1) * 4 ^ q.2) r b
theorem chain_snoc {a b : Nat} {L : List (Nat × Nat)} {q : Nat × Nat} (h : chain a L b) (hq : q.1 * 4 ^ q.2 = b) : chain a (L ++ [q]) ((q.1 + 1) * 4 ^ q.2) := by
 induction L generalizing a with
 | nil => exact ⟨hq.trans (Eq.symm h),rfl⟩
 | cons x r ih => exact ⟨h.1,ih h.2⟩
theorem chain_length {a b : Nat} {L : List (Nat × Nat)} (h : chain a L b) : a + L.length ≤ b := by
 induction L generalizing a with
 | nil => simp only [chain] at h; simp; omega
 | cons x r ih =>
  have := ih h.2
  have p := Nat.pow_pos (n := x.2) (show 0 < 4 by decide)
  have e := h.1
  rw [Nat.add_mul] at this
  simp; omega
theorem chain_split {a b : Nat} {L : List (Nat × Nat)} {q : Nat × Nat} (h : chain a (L ++ [q]) b) : chain a L (q.1 * 4 ^ q.2) ∧ b = (q.1 + 1) * 4 ^ q.2 := by
 induction L generalizing a with
 | nil => simp only [chain,List.nil_append] at h ⊢; exact ⟨h.1.symm,h.2.symm⟩
 | cons x r ih => exact ⟨⟨h.1,(ih h.2).1⟩,(ih h.2).2⟩
theorem chain_in {a b c : Nat} {L : List (Nat × Nat)} (h : chain a L b) (h1 : a ≤ c) (h2 : c < b) : ∃ q ∈ L,c / 4 ^ q.2 = q.1 := by
 induction L generalizing a with
 | nil => simp only [chain] at h; omega
 | cons x r ih =>
  have p := Nat.pow_pos (n := x.2) (show 0 < 4 by decide)
  by_cases g : c < (x.1 + 1) * 4 ^ x.2
  ·refine ⟨x,by simp, ?_⟩
   rw [div_eq_iff _ _ _ p]
   have := h.1
   rw [Nat.add_mul] at g; omega
  ·obtain ⟨q,hq,e⟩ := ih h.2 (by omega)
   exact ⟨q,by simp [hq],e⟩
structure Box where
 a : Nat
 b : Nat
 c : Nat
 d : Nat
def Box.has (r : Box) (x y : Nat) : Prop := r.a ≤ x ∧ x ≤ r.c ∧ r.b ≤ y ∧ y ≤ r.d
def Box.ok (r : Box) : Prop := r.a ≤ r.c ∧ r.c < 65536 ∧ r.b ≤ r.d ∧ r.d < 65536
def code (x y : Nat) : Nat := cod 16 x y
theorem code_lt (x y : Nat) : code x y < 4294967296 := cod_lt 16 x y
def IsNext (c : Nat) (r : Box) (n : Int) : Prop :=
 (∃ x y,r.has x y ∧ n = (code x y : Int) ∧ c ≤ code x y ∧ ∀ x' y',r.has x' y' → c ≤ code x' y' → code x y ≤ code x' y') ∨ (n = -1 ∧ ∀ x y,r.has x y → code x y < c)
def sqr (p k : Nat) : Box := ⟨dex 16 (p * 4 ^ k),dey 16 (p * 4 ^ k),dex 16 (p * 4 ^ k) + (2 ^ k - 1),dey 16 (p * 4 ^ k) + (2 ^ k - 1)⟩
def both (s r : Box) : Box := ⟨max s.a r.a,max s.b r.b,min s.c r.c,min s.d r.d⟩
theorem sqr_has (p k x y : Nat) (hk : k ≤ 16) (hp : (p + 1) * 4 ^ k ≤ 4294967296) (hx : x < 65536) (hy : y < 65536) : (sqr p k).has x y ↔ code x y / 4 ^ k = p := by
 have e : k + (16 - k) = 16 := by omega
 have hpm : p < 4 ^ (16 - k) := by
  have q := Nat.pow_pos (n := k) (show 0 < 4 by decide)
  have : (p + 1) * 4 ^ k ≤ 4 ^ (16 - k) * 4 ^ k := by rw [← Nat.pow_add,show 16 - k + k = 16 by omega]; exact hp
  have := Nat.le_of_mul_le_mul_right this q
  omega
 have := cell_iff k (16 - k) p x y hpm (by rw [e]; exact hx) (by rw [e]; exact hy)
 rw [e] at this
 rw [code,this]
 simp only [sqr,Box.has]
 constructor
 ·rintro ⟨a,b,c,d⟩; exact ⟨⟨a,b⟩,c,d⟩
 ·rintro ⟨⟨a,b⟩,c,d⟩; exact ⟨a,b,c,d⟩
theorem sqr_lt (p k : Nat) (hk : k ≤ 16) : (sqr p k).c < 65536 ∧ (sqr p k).d < 65536 := by
 have hx := dex_shift k (16 - k) p
 have hy := dey_shift k (16 - k) p
 rw [show k + (16 - k) = 16 by omega] at hx hy
 have lx := dex_lt (16 - k) p
 have ly := dey_lt (16 - k) p
 have q := Nat.two_pow_pos k
 have e : 2 ^ (16 - k) * 2 ^ k = 65536 := by rw [← Nat.pow_add,show 16 - k + k = 16 by omega]
 have mx := Nat.mul_le_mul_right (2 ^ k) (show dex (16 - k) p + 1 ≤ 2 ^ (16 - k) from lx)
 have my := Nat.mul_le_mul_right (2 ^ k) (show dey (16 - k) p + 1 ≤ 2 ^ (16 - k) from ly)
 rw [e,Nat.add_mul] at mx my
 simp only [sqr]; rw [hx,hy]; omega
theorem next_none {c : Nat} {r : Box} {L : List (Nat × Nat)} (hr : r.ok) (h : chain c L 4294967296) (hL : ∀ q ∈ L,q.2 ≤ 16 ∧ (q.1 + 1) * 4 ^ q.2 ≤ 4294967296) (hno : ∀ q ∈ L, ¬ ∃ x y,(sqr q.1 q.2).has x y ∧ r.has x y) :
  IsNext c r (-1) := by
 refine .inr ⟨rfl,fun x y hxy => ?_⟩
 have bx : x < 65536 := by have := hxy.2.1; have := hr.2.1; omega
 have hb : y < 65536 := by have := hxy.2.2.2; have := hr.2.2.2; omega
 refine Nat.lt_of_not_le fun g => ?_
 obtain ⟨q,hq,e⟩ := chain_in h g (code_lt x y)
 exact hno q hq ⟨x,y,(sqr_has q.1 q.2 x y (hL q hq).1 (hL q hq).2 bx hb).2 e,hxy⟩
theorem next_some {c e : Nat} {r : Box} {L : List (Nat × Nat)} {q : Nat × Nat} (hr : r.ok) (h : chain c (L ++ [q]) e) (hL : ∀ q ∈ L,q.2 ≤ 16 ∧ (q.1 + 1) * 4 ^ q.2 ≤ 4294967296) (hno : ∀ q ∈ L, ¬ ∃ x y,(sqr q.1 q.2).has x y ∧ r.has x y)
  (hk : q.2 ≤ 16) (hp : (q.1 + 1) * 4 ^ q.2 ≤ 4294967296) (hb : (both (sqr q.1 q.2) r).ok) :
  IsNext c r (code (both (sqr q.1 q.2) r).a (both (sqr q.1 q.2) r).b) := by
 obtain ⟨h1,_⟩ := chain_split h
 have hle := chain_length h1
 have sl := sqr_lt q.1 q.2 hk
 obtain ⟨r1,r2,r3,r4⟩ := hr
 obtain ⟨b1,b2,b3,b4⟩ := hb
 simp only [both] at b1 b2 b3 b4 ⊢
 generalize hX : max (sqr q.1 q.2).a r.a = X at *
 generalize hY : max (sqr q.1 q.2).b r.b = Y at *
 have inS : (sqr q.1 q.2).has X Y := ⟨by omega,by omega,by omega,by omega⟩
 have inR : r.has X Y := ⟨by omega,by omega,by omega,by omega⟩
 have p4 := Nat.pow_pos (n := q.2) (show 0 < 4 by decide)
 have cXY := (sqr_has q.1 q.2 X Y hk hp (by omega) (by omega)).1 inS
 rw [div_eq_iff _ _ _ p4] at cXY
 refine .inl ⟨X,Y,inR,rfl,by omega,fun x y hxy hc => ?_⟩
 have bx : x < 65536 := by have := hxy.2.1; omega
 have hby : y < 65536 := by have := hxy.2.2.2; omega
 by_cases g : code x y < q.1 * 4 ^ q.2
 ·obtain ⟨q',hq',e'⟩ := chain_in h1 hc g
  exact absurd ⟨x,y,(sqr_has q'.1 q'.2 x y (hL q' hq').1 (hL q' hq').2 bx hby).2 e',hxy⟩ (hno q' hq')
 ·by_cases g2 : code x y < q.1 * 4 ^ q.2 + 4 ^ q.2
  ·have := (sqr_has q.1 q.2 x y hk hp bx hby).2 (by rw [div_eq_iff _ _ _ p4]; omega)
   obtain ⟨s1,s2,s3,s4⟩ := this
   obtain ⟨t1,t2,t3,t4⟩ := hxy
   exact cod_mono 16 X Y x y (by omega) (by omega) bx hby
  ·omega
theorem none_of_both {s r : Box} (h : ¬ (both s r).ok) (hs : s.c < 65536 ∧ s.d < 65536) : ¬ ∃ x y,s.has x y ∧ r.has x y := by
 rintro ⟨x,y,⟨a,b,c,d⟩,e,f,g,i⟩
 refine h ⟨?_, ?_, ?_, ?_⟩ <;> simp only [both] <;> omega
end
section
abbrev Key := Int × Int
def klt (a b : Key) : Prop := a.1 < b.1 ∨ (a.1 = b.1 ∧ a.2 < b.2)
instance (a b : Key) : Decidable (klt a b) := by unfold klt; exact inferInstance
theorem klt_irrefl (a : Key) : ¬ klt a a := by unfold klt; omega
theorem klt_trans {a b c : Key} (h : klt a b) (k : klt b c) : klt a c := by unfold klt at *; omega
theorem klt_asymm {a b : Key} (h : klt a b) : ¬ klt b a := by unfold klt at *; omega
theorem klt_tri (a b : Key) : klt a b ∨ a = b ∨ klt b a := by
 obtain ⟨a1,a2⟩ := a
 obtain ⟨b1,b2⟩ := b
 simp only [klt,Prod.mk.injEq]
 omega
theorem klt_of_not {a b : Key} (h : ¬ klt a b) (e : a ≠ b) : klt b a := by
 rcases klt_tri a b with g | g | g
 ·exact absurd g h
 ·exact absurd g e
 ·exact g
theorem klt_of_le_lt {a b c : Key} (h : ¬ klt b a) (k : klt b c) : klt a c := by
 rcases klt_tri a b with g | g | g
 ·exact klt_trans g k
 ·rw [g]; exact k
 ·exact absurd g h
theorem klt_of_lt_le {a b c : Key} (h : klt a b) (k : ¬ klt c b) : klt a c := by
 rcases klt_tri b c with g | g | g
 ·exact klt_trans h g
 ·rw [← g]; exact h
 ·exact absurd g k
section
variable {V : Type}
def Rising (r : List (Key × V)) : Prop := r.Pairwise fun a b => klt a.1 b.1
theorem Rising.nil : Rising ([] : List (Key × V)) := List.Pairwise.nil
theorem Rising.append {a b : List (Key × V)} : Rising (a ++ b) ↔ Rising a ∧ Rising b ∧ ∀ x ∈ a, ∀ y ∈ b,klt x.1 y.1 := List.pairwise_append
theorem Rising.cons {x : Key × V} {b : List (Key × V)} : Rising (x :: b) ↔ (∀ y ∈ b,klt x.1 y.1) ∧ Rising b := List.pairwise_cons
theorem Rising.sub {a b : List (Key × V)} (h : Rising b) (s : a.Sublist b) : Rising a := List.Pairwise.sublist s h
def lo (k : Key) (r : List (Key × V)) : List (Key × V) := r.filter fun p => decide (klt p.1 k)
def hi (k : Key) (r : List (Key × V)) : List (Key × V) := r.filter fun p => decide (klt k p.1)
def ins (k : Key) (v : V) (r : List (Key × V)) : List (Key × V) := lo k r ++ (k,v) :: hi k r
def del (k : Key) (r : List (Key × V)) : List (Key × V) := lo k r ++ hi k r
theorem lo_append (k : Key) (a b : List (Key × V)) : lo k (a ++ b) = lo k a ++ lo k b := List.filter_append ..
theorem hi_append (k : Key) (a b : List (Key × V)) : hi k (a ++ b) = hi k a ++ hi k b := List.filter_append ..
theorem lo_all {k : Key} {a : List (Key × V)} (h : ∀ x ∈ a,klt x.1 k) : lo k a = a := List.filter_eq_self.2 fun x hx => decide_eq_true (h x hx)
theorem hi_all {k : Key} {a : List (Key × V)} (h : ∀ x ∈ a,klt k x.1) : hi k a = a := List.filter_eq_self.2 fun x hx => decide_eq_true (h x hx)
theorem lo_none {k : Key} {a : List (Key × V)} (h : ∀ x ∈ a, ¬ klt x.1 k) : lo k a = [] := List.filter_eq_nil_iff.2 fun x hx => by simp [h x hx]
theorem hi_none {k : Key} {a : List (Key × V)} (h : ∀ x ∈ a, ¬ klt k x.1) : hi k a = [] := List.filter_eq_nil_iff.2 fun x hx => by simp [h x hx]
theorem mem_lo {k : Key} {a : List (Key × V)} {x : Key × V} : x ∈ lo k a ↔ x ∈ a ∧ klt x.1 k := by simp [lo]
theorem mem_hi {k : Key} {a : List (Key × V)} {x : Key × V} : x ∈ hi k a ↔ x ∈ a ∧ klt k x.1 := by simp [hi]
def Local (k : Key) (op : List (Key × V) → List (Key × V)) : Prop :=
 ∀ a m c : List (Key × V),(∀ x ∈ a,klt x.1 k) → (∀ x ∈ c,klt k x.1) → op (a ++ m ++ c) = a ++ op m ++ c
theorem local_ins (k : Key) (v : V) : Local k (ins k v) := fun a m c ha hc => by
 unfold ins
 rw [lo_append,lo_append,hi_append,hi_append,lo_all ha,hi_all hc,hi_none (fun x hx => klt_asymm (ha x hx)),lo_none (fun x hx => klt_asymm (hc x hx))]
 simp
theorem local_del (k : Key) : Local k (del (V := V) k) := fun a m c ha hc => by
 unfold del
 rw [lo_append,lo_append,hi_append,hi_append,lo_all ha,hi_all hc,hi_none (fun x hx => klt_asymm (ha x hx)),lo_none (fun x hx => klt_asymm (hc x hx))]
 simp
theorem rising_ins {k : Key} {v : V} {r : List (Key × V)} (h : Rising r) : Rising (ins k v r) := by
 unfold ins
 refine Rising.append.2 ⟨h.sub List.filter_sublist,Rising.cons.2 ⟨fun y hy => (mem_hi.1 hy).2,h.sub List.filter_sublist⟩,fun x hx y hy => ?_⟩
 have hx := (mem_lo.1 hx).2
 rcases List.mem_cons.1 hy with rfl | hy
 ·exact hx
 ·exact klt_trans hx (mem_hi.1 hy).2
theorem rising_del {k : Key} {r : List (Key × V)} (h : Rising r) : Rising (del k r) := by
 unfold del
 exact Rising.append.2 ⟨h.sub List.filter_sublist,h.sub List.filter_sublist,fun x hx y hy => klt_trans (mem_lo.1 hx).2 (mem_hi.1 hy).2⟩
def lbn (k : Key) (r : List (Key × V)) : Nat := (lo k r).length
def fnd (k : Key) (r : List (Key × V)) : Bool := r.any fun p => p.1 == k
theorem lbn_le (k : Key) (r : List (Key × V)) : lbn k r ≤ r.length := List.length_filter_le ..
theorem rising_split (k : Key) {r : List (Key × V)} (h : Rising r) : ∃ m,r = lo k r ++ m ++ hi k r ∧ ((fnd k r = false ∧ m = []) ∨ (fnd k r = true ∧ ∃ v,m = [(k,v)])) := by
 induction r with
 | nil => exact ⟨[],rfl, .inl ⟨rfl,rfl⟩⟩
 | cons x r ih =>
  obtain ⟨hx,hr⟩ := Rising.cons.1 h
  rcases klt_tri x.1 k with g | g | g
  ·obtain ⟨m,e,hm⟩ := ih hr
   have h1 : lo k (x :: r) = x :: lo k r := by simp [lo,g]
   have h2 : hi k (x :: r) = hi k r := by simp [hi,klt_asymm g]
   have h3 : fnd k (x :: r) = fnd k r := by
    have : (x.1 == k) = false := beq_eq_false_iff_ne.2 (fun e => klt_irrefl k (e ▸ g))
    simp only [fnd,List.any_cons,this,Bool.false_or]
   rw [h1,h2,h3]
   exact ⟨m,by rw [List.cons_append,List.cons_append, ← e],hm⟩
  ·have hh : ∀ y ∈ r,klt k y.1 := fun y hy => g ▸ hx y hy
   have h1 : lo k (x :: r) = [] := lo_none fun y hy => by
    rcases List.mem_cons.1 hy with rfl | hy
    ·rw [g]; exact klt_irrefl k
    ·exact klt_asymm (hh y hy)
   have h2 : hi k (x :: r) = r := by
    have := hi_all hh
    simp only [hi] at this ⊢
    rw [List.filter_cons,if_neg (by rw [g]; simp [klt_irrefl]),this]
   refine ⟨[(k,x.2)], ?_, .inr ⟨?_,_,rfl⟩⟩
   ·rw [h1,h2, ← g]; rfl
   ·simp [fnd,g]
  ·have hh : ∀ y ∈ x :: r,klt k y.1 := fun y hy => by
    rcases List.mem_cons.1 hy with rfl | hy
    ·exact g
    ·exact klt_trans g (hx y hy)
   refine ⟨[], ?_, .inl ⟨?_,rfl⟩⟩
   ·rw [lo_none (fun y hy => klt_asymm (hh y hy)),hi_all hh]; rfl
   ·simp only [fnd,List.any_eq_false]
    intro y hy e
    have := hh y hy
    rw [eq_of_beq e] at this
    exact klt_irrefl k this
theorem take_lbn (k : Key) {r : List (Key × V)} (h : Rising r) : r.take (lbn k r) = lo k r := by
 obtain ⟨m,e,_⟩ := rising_split k h
 have : (lo k r ++ m ++ hi k r).take (lbn k r) = lo k r := by rw [List.append_assoc]; exact List.take_left' rfl
 rwa [← e] at this
theorem drop_lbn (k : Key) {r : List (Key × V)} (h : Rising r) : r.drop (if fnd k r then lbn k r + 1 else lbn k r) = hi k r := by
 obtain ⟨m,e,hm⟩ := rising_split k h
 rcases hm with ⟨f,rfl⟩ | ⟨f,v,rfl⟩
 ·rw [f]
  have : (lo k r ++ [] ++ hi k r).drop (lbn k r) = hi k r := by rw [List.append_assoc]; exact List.drop_left' rfl
  rwa [← e] at this
 ·rw [f]
  have : (lo k r ++ [(k,v)] ++ hi k r).drop (lbn k r + 1) = hi k r := List.drop_left' (by simp [lbn])
  rwa [← e] at this
theorem ins_eq (k : Key) (v : V) {r : List (Key × V)} (h : Rising r) : r.take (lbn k r) ++ [(k,v)] ++ r.drop (if fnd k r then lbn k r + 1 else lbn k r) = ins k v r := by
 rw [take_lbn k h,drop_lbn k h]; simp [ins]
theorem del_eq (k : Key) {r : List (Key × V)} (h : Rising r) : (if fnd k r then r.take (lbn k r) ++ r.drop (lbn k r + 1) else r) = del k r := by
 have h1 := take_lbn k h
 have h2 := drop_lbn k h
 split
 ·rename_i f
  rw [if_pos f] at h2
  rw [h1,h2]; rfl
 ·rename_i f
  rw [if_neg f] at h2
  rw [del, ← h1, ← h2,List.take_append_drop]
theorem lbn_found {k : Key} {r : List (Key × V)} (h : Rising r) (f : fnd k r = true) : ∃ v,r[lbn k r]? = some (k,v) := by
 obtain ⟨m,e,hm⟩ := rising_split k h
 rcases hm with ⟨g,_⟩ | ⟨_,v,rfl⟩
 ·rw [f] at g; cases g
 ·refine ⟨v, ?_⟩
  have : (lo k r ++ [(k,v)] ++ hi k r)[lbn k r]? = some (k,v) := by simp [lbn]
  rwa [← e] at this
theorem length_ins {k : Key} {v : V} {r : List (Key × V)} (h : Rising r) : (ins k v r).length = if fnd k r then r.length else r.length + 1 := by
 obtain ⟨m,e,hm⟩ := rising_split k h
 have hl : r.length = (lo k r).length + m.length + (hi k r).length := by have := congrArg List.length e; simp only [List.length_append] at this; exact this
 rcases hm with ⟨f,rfl⟩ | ⟨f,v,rfl⟩ <;> rw [f] <;> simp [ins] <;> simp at hl <;> omega
theorem length_del {k : Key} {r : List (Key × V)} (h : Rising r) : (del k r).length = if fnd k r then r.length - 1 else r.length := by
 obtain ⟨m,e,hm⟩ := rising_split k h
 have hl : r.length = (lo k r).length + m.length + (hi k r).length := by have := congrArg List.length e; simp only [List.length_append] at this; exact this
 rcases hm with ⟨f,rfl⟩ | ⟨f,v,rfl⟩ <;> rw [f] <;> simp [del] <;> simp at hl <;> omega
end
end
end Go.Proofs.YtdgbgmffpcooeaaGreat
section
namespace Go.Proofs.YtdgbgmffpcooeaaGreat
inductive Res (α : Type) where
 | ok (a : α)
 | space
 | bad
def Res.bind {α β : Type} : Res α → (α → Res β) → Res β
 | .ok a,f => f a
 | .space,_ => .space
 | .bad,_ => .bad
theorem Res.ok_bind {α β : Type} (a : α) (f : α → Res β) : (Res.ok a).bind f = f a := rfl
theorem Res.space_bind {α β : Type} (f : α → Res β) : (Res.space).bind f = .space := rfl
inductive Node (V : Type) where
 | leaf (r : List (Key × V))
 | branch (r : List (Key × Nat))
namespace Node
variable {V : Type}
def size : Node V → Nat
 | leaf r => r.length
 | branch r => r.length
def most : Node V → Nat
 | leaf _ => 10
 | branch _ => 14
def poor (n : Node V) : Bool := decide (n.size < n.most / 2)
def fk : Node V → Key
 | leaf r => (r.head?.map (·.1)).getD (0, 0)
 | branch r => (r.head?.map (·.1)).getD (0, 0)
def tk (j : Nat) : Node V → Node V
 | leaf r => leaf (r.take j)
 | branch r => branch (r.take j)
def dp (j : Nat) : Node V → Node V
 | leaf r => leaf (r.drop j)
 | branch r => branch (r.drop j)
def parts (n : Node V) : List (Node V) := if n.size = 0 then [] else if n.size ≤ n.most then [n] else [n.tk (n.size / 2),n.dp (n.size / 2)]
def join : Node V → Node V → Node V
 | leaf a,leaf b => leaf (a ++ b)
 | branch a,branch b => branch (a ++ b)
 | a,_ => a
theorem most_tk (j : Nat) (n : Node V) : (n.tk j).most = n.most := by cases n <;> rfl
theorem most_dp (j : Nat) (n : Node V) : (n.dp j).most = n.most := by cases n <;> rfl
theorem size_tk (j : Nat) (n : Node V) : (n.tk j).size = min j n.size := by cases n <;> simp [tk,size]
theorem size_dp (j : Nat) (n : Node V) : (n.dp j).size = n.size - j := by cases n <;> simp [dp,size]
theorem most_cases (n : Node V) : n.most = 10 ∨ n.most = 14 := by cases n <;> simp [most]
end Node
def upd2 {α : Type} (f : Nat → α) (i : Nat) (b : α) : Nat → α := fun j => if j = i then b else f j
structure CS (V : Type) where
 free : List Nat
 left : List Nat
 made : Nat → Option (Node V)
 reads : Nat
 puts : Nat
section
variable {V : Type}
def takeF (D : Nat → Option (Node V)) (s : CS V) (sec : Nat) : Res (Node V × CS V) :=
 if sec = 0 then .ok (.leaf [],s) else
 match s.made sec with
 | some nd => .ok (nd, { s with made := upd2 s.made sec none,free := s.free ++ [sec] })
 | none => match D sec with
  | some nd => .ok (nd, { s with left := s.left ++ [sec],reads := s.reads + 1 })
  | none => .bad
def keep1 (s : CS V) (p : Node V) : Res ((Key × Nat) × CS V) :=
 match s.free.getLast? with
 | none => .space
 | some sec => .ok ((p.fk,sec), { s with free := s.free.dropLast,made := upd2 s.made sec (some p),puts := s.puts + 1 })
def keepL : List (Node V) → CS V → Res (List (Key × Nat) × CS V)
 | [],s => .ok ([],s)
 | p :: ps,s => (keep1 s p).bind fun x => (keepL ps x.2).bind fun y => .ok (x.1 :: y.1,y.2)
def undr (k : Key) (r : List (Key × Nat)) : Nat := if fnd k r then lbn k r else lbn k r - 1
instance : Decidable (Rising (V := V) []) := .isTrue Rising.nil
open Classical in
noncomputable def editF (D : Nat → Option (Node V)) (k : Key) (op : List (Key × V) → List (Key × V)) : Nat → CS V → Nat → Res (Node V × CS V)
 | 0,_,_ => .bad
 | f + 1,s,sec => (takeF D s sec).bind fun x =>
  match x.1 with
  | .leaf r => if Rising r then .ok (.leaf (op r),x.2) else .bad
  | .branch r => if Rising r then
    match r[undr k r]? with
    | none => .bad
    | some c => (editF D k op f x.2 c.2).bind fun y =>
     if y.1.poor = true then
      if 0 < undr k r then
       match r[undr k r - 1]? with
       | none => .bad
       | some a => (takeF D y.2 a.2).bind fun z => if z.1.most = y.1.most then (keepL (z.1.join y.1).parts z.2).bind fun q => .ok (.branch (r.take (undr k r - 1) ++ q.1 ++ r.drop (undr k r + 1)),q.2) else .bad
      else
       match r[undr k r + 1]? with
       | none => .bad
       | some b => (takeF D y.2 b.2).bind fun z => if z.1.most = y.1.most then (keepL (y.1.join z.1).parts z.2).bind fun q => .ok (.branch (r.take (undr k r) ++ q.1 ++ r.drop (undr k r + 2)),q.2) else .bad
     else (keepL y.1.parts y.2).bind fun q => .ok (.branch (r.take (undr k r) ++ q.1 ++ r.drop (undr k r + 1)),q.2)
   else .bad
def rowRoot (g : CS V → Node V → Res (Nat × CS V)) (q : List (Key × Nat) × CS V) : Res (Nat × CS V) :=
 match q.1 with
 | [] => .ok (0,q.2)
 | [c] => .ok (c.2,q.2)
 | row => g q.2 (.branch row)
def plantF : Nat → CS V → Node V → Res (Nat × CS V)
 | 0,_,_ => .bad
 | f + 1,s,n =>
  match n with
  | .branch [c] => .ok (c.2,s)
  | n => (keepL n.parts s).bind (rowRoot (plantF f))
theorem plant_unf (f : Nat) (s : CS V) (n : Node V) (h : ∀ c,n ≠ .branch [c]) : plantF (f + 1) s n = (keepL n.parts s).bind (rowRoot (plantF f)) := by
 match n,h with
 | .leaf r,_ => rfl
 | .branch [],_ => rfl
 | .branch [c],h => exact absurd rfl (h c)
 | .branch (a :: b :: r),_ => rfl
structure Kid (V : Type) where
 key : Key
 sec : Nat
 nd : Node V
 es : List (Key × V)
 us : List Nat
abbrev Kid.pr (c : Kid V) : Key × Nat := (c.key,c.sec)
abbrev Kid.all (c : Kid V) : List Nat := c.sec :: c.us
def Tre (M : Nat → Option (Node V)) : Nat → Node V → List (Key × V) → List Nat → Prop
 | 0,n,es,us => n = .leaf es ∧ us = []
 | h + 1,n,es,us => ∃ ks : List (Kid V),n = .branch (ks.map Kid.pr) ∧
   (∀ c ∈ ks,M c.sec = some c.nd ∧ Tre M h c.nd c.es c.us ∧ c.nd.poor = false ∧ c.nd.size ≤ c.nd.most ∧ c.es.head?.map (·.1) = some c.key) ∧
   es = ks.flatMap Kid.es ∧ us = ks.flatMap Kid.all
structure KidOk (M : Nat → Option (Node V)) (h : Nat) (c : Kid V) : Prop where
 at_ : M c.sec = some c.nd
 tre : Tre M h c.nd c.es c.us
 rich : c.nd.poor = false
 fits : c.nd.size ≤ c.nd.most
 hd : c.es.head?.map (·.1) = some c.key
theorem tre_succ {M : Nat → Option (Node V)} {h : Nat} {n : Node V} {es : List (Key × V)} {us : List Nat} :
  Tre M (h + 1) n es us ↔ ∃ ks : List (Kid V),n = .branch (ks.map Kid.pr) ∧ (∀ c ∈ ks,KidOk M h c) ∧ es = ks.flatMap Kid.es ∧ us = ks.flatMap Kid.all := by
 constructor
 ·rintro ⟨ks,e1,e2,e3,e4⟩
  exact ⟨ks,e1,fun c hc => by obtain ⟨a,b,c,d,e⟩ := e2 c hc; exact ⟨a,b,c,d,e⟩,e3,e4⟩
 ·rintro ⟨ks,e1,e2,e3,e4⟩
  exact ⟨ks,e1,fun c hc => ⟨(e2 c hc).at_,(e2 c hc).tre,(e2 c hc).rich,(e2 c hc).fits,(e2 c hc).hd⟩,e3,e4⟩
theorem tre_congr {M M' : Nat → Option (Node V)} : ∀ (h : Nat) {n : Node V} {es : List (Key × V)} {us : List Nat},Tre M h n es us → (∀ t ∈ us,M' t = M t) → Tre M' h n es us
 | 0,_,_,_,ht,_ => ht
 | h + 1,n,es,us,ht,hm => by
  obtain ⟨ks,e1,e2,e3,e4⟩ := tre_succ.1 ht
  refine tre_succ.2 ⟨ks,e1,fun c hc => ?_,e3,e4⟩
  have k := e2 c hc
  have hs : ∀ t ∈ c.all,t ∈ us := fun t ht => by rw [e4]; exact List.mem_flatMap.2 ⟨c,hc,ht⟩
  exact ⟨(hm _ (hs _ List.mem_cons_self)).trans k.at_,tre_congr h k.tre fun t ht => hm t (hs t (List.mem_cons_of_mem _ ht)),k.rich,k.fits,k.hd⟩
theorem KidOk.congr {M M' : Nat → Option (Node V)} {h : Nat} {c : Kid V} (k : KidOk M h c) (hm : ∀ t ∈ c.all,M' t = M t) : KidOk M' h c :=
 ⟨(hm _ List.mem_cons_self).trans k.at_,tre_congr h k.tre fun t ht => hm t (List.mem_cons_of_mem _ ht),k.rich,k.fits,k.hd⟩
theorem KidOk.ne {M : Nat → Option (Node V)} {h : Nat} {c : Kid V} (k : KidOk M h c) : ∃ v t,c.es = (c.key,v) :: t := by
 have := k.hd
 cases he : c.es with
 | nil => rw [he] at this; cases this
 | cons x t => rw [he] at this; simp at this; exact ⟨x.2,t,by rw [← this]⟩
theorem tre_most {M : Nat → Option (Node V)} {h : Nat} {n n' : Node V} {es es' : List (Key × V)} {us us' : List Nat} (a : Tre M h n es us) (b : Tre M h n' es' us') : n.most = n'.most := by
 cases h with
 | zero => rw [a.1,b.1]; rfl
 | succ h => obtain ⟨ks,e,_⟩ := a; obtain ⟨ks',e',_⟩ := b; rw [e,e']; rfl
theorem tre_join {M : Nat → Option (Node V)} {h : Nat} {n n' : Node V} {es es' : List (Key × V)} {us us' : List Nat} (a : Tre M h n es us) (b : Tre M h n' es' us') : Tre M h (n.join n') (es ++ es') (us ++ us') ∧ (n.join n').size = n.size + n'.size ∧ (n.join n').most = n.most := by
 cases h with
 | zero =>
  obtain ⟨rfl,rfl⟩ := a
  obtain ⟨rfl,rfl⟩ := b
  exact ⟨⟨rfl,rfl⟩,by simp [Node.join,Node.size],rfl⟩
 | succ h =>
  obtain ⟨ks,rfl,e2,rfl,rfl⟩ := tre_succ.1 a
  obtain ⟨ks',rfl,f2,rfl,rfl⟩ := tre_succ.1 b
  refine ⟨tre_succ.2 ⟨ks ++ ks',by simp [Node.join],fun c hc => ?_,by simp,by simp⟩,by simp [Node.join,Node.size],rfl⟩
  rcases List.mem_append.1 hc with hc | hc
  ·exact e2 c hc
  ·exact f2 c hc
theorem tre_cut {M : Nat → Option (Node V)} {h : Nat} {n : Node V} {es : List (Key × V)} {us : List Nat} (a : Tre M h n es us) (j : Nat) :
  ∃ e1 e2 u1 u2,es = e1 ++ e2 ∧ us = u1 ++ u2 ∧ Tre M h (n.tk j) e1 u1 ∧ Tre M h (n.dp j) e2 u2 := by
 cases h with
 | zero =>
  obtain ⟨rfl,rfl⟩ := a
  exact ⟨es.take j,es.drop j, [], [],by simp,rfl,⟨rfl,rfl⟩,⟨rfl,rfl⟩⟩
 | succ h =>
  obtain ⟨ks,rfl,e2,rfl,rfl⟩ := tre_succ.1 a
  refine ⟨(ks.take j).flatMap Kid.es,(ks.drop j).flatMap Kid.es,(ks.take j).flatMap Kid.all,(ks.drop j).flatMap Kid.all, ?_, ?_,tre_succ.2 ⟨ks.take j, ?_,fun c hc => e2 c (List.mem_of_mem_take hc),rfl,rfl⟩,tre_succ.2 ⟨ks.drop j, ?_,fun c hc => e2 c (List.mem_of_mem_drop hc),rfl,rfl⟩⟩
  ·rw [← List.flatMap_append,List.take_append_drop]
  ·rw [← List.flatMap_append,List.take_append_drop]
  ·simp [Node.tk,List.map_take]
  ·simp [Node.dp,List.map_drop]
theorem tre_head {M : Nat → Option (Node V)} {h : Nat} {n : Node V} {es : List (Key × V)} {us : List Nat} (a : Tre M h n es us) (hs : 0 < n.size) : es.head?.map (·.1) = some n.fk := by
 cases h with
 | zero =>
  obtain ⟨rfl,rfl⟩ := a
  cases es with
  | nil => simp [Node.size] at hs
  | cons x t => simp [Node.fk]
 | succ h =>
  obtain ⟨ks,rfl,e2,rfl,rfl⟩ := tre_succ.1 a
  cases ks with
  | nil => simp [Node.size] at hs
  | cons c t =>
   obtain ⟨v,t',e⟩ := (e2 c List.mem_cons_self).ne
   simp [Node.fk,e]
structure Ok (n : Nat) (U L : Nat → Prop) (s : CS V) : Prop where
 made : ∀ t,(s.made t).isSome = true ↔ L t ∧ ¬ U t
 left : ∀ t,t ∈ s.left ↔ U t ∧ ¬ L t
 free : ∀ t,t ∈ s.free ↔ 1 ≤ t ∧ t < n ∧ ¬ U t ∧ ¬ L t
 fnd : s.free.Nodup
 lnd : s.left.Nodup
 inL : ∀ t,L t → 1 ≤ t ∧ t < n
 inU : ∀ t,U t → 1 ≤ t ∧ t < n
theorem Ok.congr {n : Nat} {U L L' : Nat → Prop} {s : CS V} (h : Ok n U L s) (e : ∀ t,L t ↔ L' t) : Ok n U L' s := by
 have : L = L' := funext fun t => propext (e t)
 rw [← this]; exact h
def cur (D : Nat → Option (Node V)) (s : CS V) (t : Nat) : Option (Node V) := (s.made t).or (D t)
theorem take_ok {n : Nat} {U L : Nat → Prop} {D : Nat → Option (Node V)} {s : CS V} {sec : Nat} {nd : Node V} (h : Ok n U L s) (hl : L sec) (hc : cur D s sec = some nd) :
  ∃ s1,takeF D s sec = .ok (nd,s1) ∧ Ok n U (fun t => L t ∧ t ≠ sec) s1 ∧ (∀ t,t ≠ sec → cur D s1 t = cur D s t) ∧ s1.reads ≤ s.reads + 1 := by
 have h0 : sec ≠ 0 := by have := h.inL sec hl; omega
 unfold takeF
 rw [if_neg h0]
 unfold cur at hc
 cases hm : s.made sec with
 | some m =>
  rw [hm] at hc
  simp only [Option.some_or,Option.some.injEq] at hc
  subst hc
  have hU : ¬ U sec := ((h.made sec).1 (by rw [hm]; rfl)).2
  refine ⟨_,rfl,⟨fun t => ?_,fun t => ?_,fun t => ?_, ?_,h.lnd,fun t ht => h.inL t ht.1,h.inU⟩,fun t ht => by simp [cur,upd2,ht],by simp⟩
  ·by_cases e : t = sec
   ·subst e; simp [upd2]
   ·simp only [upd2,e,if_false,h.made t]; simp [e]
  ·simp only [h.left t]
   by_cases e : t = sec
   ·subst e; simp [hU]
   ·simp [e]
  ·simp only [List.mem_append,List.mem_singleton,h.free t]
   by_cases e : t = sec
   ·subst e; have := h.inL t hl; simp [hU]; omega
   ·simp [e]
  ·refine List.nodup_append.2 ⟨h.fnd,by simp,fun a ha b hb e => ?_⟩
   simp at hb
   subst hb e
   exact ((h.free a).1 ha).2.2.2 hl
 | none =>
  have hU : U sec := Classical.byContradiction fun g => by have := (h.made sec).2 ⟨hl,g⟩; rw [hm] at this; cases this
  rw [hm] at hc
  simp only [Option.none_or] at hc
  rw [hc]
  refine ⟨_,rfl,⟨fun t => ?_,fun t => ?_,fun t => ?_,h.fnd, ?_,fun t ht => h.inL t ht.1,h.inU⟩,fun t ht => rfl,by simp⟩
  ·simp only [h.made t]
   by_cases e : t = sec
   ·subst e; simp [hU]
   ·simp [e]
  ·simp only [List.mem_append,List.mem_singleton,h.left t]
   by_cases e : t = sec
   ·subst e; simp [hU]
   ·simp [e]
  ·simp only [h.free t]
   by_cases e : t = sec
   ·subst e; simp [hU]
   ·simp [e]
  ·refine List.nodup_append.2 ⟨h.lnd,by simp,fun a ha b hb e => ?_⟩
   simp at hb
   subst hb e
   exact ((h.left a).1 ha).2 hl
theorem keep1_ok {n : Nat} {U L : Nat → Prop} (D : Nat → Option (Node V)) {s : CS V} (h : Ok n U L s) (p : Node V) :
  keep1 s p = .space ∨ ∃ sec s1,keep1 s p = .ok ((p.fk,sec),s1) ∧ ¬ L sec ∧ Ok n U (fun t => L t ∨ t = sec) s1 ∧ cur D s1 sec = some p ∧ (∀ t,t ≠ sec → cur D s1 t = cur D s t) ∧ s1.reads = s.reads := by
 unfold keep1
 cases hg : s.free.getLast? with
 | none => exact .inl rfl
 | some sec =>
  have hne : s.free ≠ [] := fun e => by rw [e] at hg; cases hg
  have hd : s.free = s.free.dropLast ++ [sec] := by
   have := List.dropLast_concat_getLast hne
   rw [List.getLast?_eq_some_getLast hne,Option.some.injEq] at hg
   rw [hg] at this
   exact this.symm
  have hf := (h.free sec).1 (by rw [hd]; simp)
  have hnd := h.fnd
  rw [hd] at hnd
  have hnd := List.nodup_append.1 hnd
  refine .inr ⟨sec,_,rfl,hf.2.2.2,⟨fun t => ?_,fun t => ?_,fun t => ?_,hnd.1,h.lnd,fun t ht => ?_,h.inU⟩,by simp [cur,upd2],fun t ht => by simp [cur,upd2,ht],rfl⟩
  ·by_cases e : t = sec
   ·subst e; simp [upd2,hf.2.2.1]
   ·simp only [upd2,e,if_false,h.made t]; simp
  ·simp only [h.left t]
   by_cases e : t = sec
   ·subst e; simp [hf.2.2.1]
   ·simp [e]
  ·have : t ∈ s.free ↔ t ∈ s.free.dropLast ∨ t = sec := by
    constructor
    ·intro g; rw [hd] at g; simpa using g
    ·intro g; rw [hd]; simpa using g
   by_cases e : t = sec
   ·subst e
    constructor
    ·intro g; exact absurd rfl (hnd.2.2 t g t (by simp))
    ·intro g; simp at g
   ·have g := h.free t
    rw [this] at g
    simp only [e,or_false] at g ⊢
    exact g
  ·rcases ht with ht | rfl
   ·exact h.inL t ht
   ·exact ⟨hf.1,hf.2.1⟩
end
end Go.Proofs.YtdgbgmffpcooeaaGreat
end
namespace Go.Proofs.YtdgbgmffpcooeaaGreat
section
section
variable {V : Type}
theorem nodup3 {a b c : List Nat} : (a ++ b ++ c).Nodup ↔ a.Nodup ∧ b.Nodup ∧ c.Nodup ∧ (∀ t ∈ a,t ∉ b) ∧ (∀ t ∈ a,t ∉ c) ∧ (∀ t ∈ b,t ∉ c) := by
 rw [List.nodup_append,List.nodup_append]
 constructor
 ·rintro ⟨⟨h1,h2,h3⟩,h4,h5⟩
  exact ⟨h1,h2,h4,fun t ht hb => h3 t ht t hb rfl,fun t ht hc => h5 t (List.mem_append_left _ ht) t hc rfl,fun t ht hc => h5 t (List.mem_append_right _ ht) t hc rfl⟩
 ·rintro ⟨h1,h2,h3,h4,h5,h6⟩
  refine ⟨⟨h1,h2,fun x hx y hy e => h4 x hx (e ▸ hy)⟩,h3,fun x hx y hy e => ?_⟩
  subst e
  rcases List.mem_append.1 hx with hx | hx
  ·exact h5 x hx hy
  ·exact h6 x hx hy
theorem nodup2 {a b : List Nat} : (a ++ b).Nodup ↔ a.Nodup ∧ b.Nodup ∧ (∀ t ∈ a,t ∉ b) := by
 rw [List.nodup_append]
 constructor
 ·rintro ⟨h1,h2,h3⟩
  exact ⟨h1,h2,fun t ht hb => h3 t ht t hb rfl⟩
 ·rintro ⟨h1,h2,h3⟩
  exact ⟨h1,h2,fun x hx y hy e => h3 x hx (e ▸ hy)⟩
theorem keepL_ok {n : Nat} {U : Nat → Prop} (D : Nat → Option (Node V)) {ht : Nat} : ∀ (qs : List (Kid V)) (L : Nat → Prop) (s : CS V),Ok n U L s →
  (∀ q ∈ qs,Tre (cur D s) ht q.nd q.es q.us ∧ q.nd.poor = false ∧ q.nd.size ≤ q.nd.most ∧ ∀ t ∈ q.us,L t) → (qs.flatMap Kid.us).Nodup →
  keepL (qs.map Kid.nd) s = .space ∨ ∃ (ks : List (Kid V)) (s' : CS V),keepL (qs.map Kid.nd) s = .ok (ks.map Kid.pr,s') ∧ ks.length = qs.length ∧ (∀ c ∈ ks,KidOk (cur D s') ht c) ∧ ks.flatMap Kid.es = qs.flatMap Kid.es ∧
   Ok n U (fun t => L t ∨ t ∈ ks.flatMap Kid.all) s' ∧ (ks.flatMap Kid.all).Nodup ∧ (∀ t ∈ ks.flatMap Kid.all,L t → t ∈ qs.flatMap Kid.us) ∧ (∀ t ∈ qs.flatMap Kid.us,t ∈ ks.flatMap Kid.all) ∧ (∀ t,L t → cur D s' t = cur D s t) ∧ s'.reads = s.reads
 | [],L,s,h,_,_ => .inr ⟨[],s,rfl,rfl,fun c hc => (by cases hc),rfl,h.congr fun t => by simp,by simp,fun t ht => (by simp at ht),fun t ht => (by simp at ht),fun _ _ => rfl,rfl⟩
 | q :: qs,L,s,h,hq,hn => by
  simp only [List.map_cons,keepL]
  rcases keep1_ok D h q.nd with e | ⟨sec,s1,e,hL,h1,hc1,ho1,hr1⟩
  ·left; rw [e]; rfl
  ·rw [e]
   simp only [Res.bind]
   simp only [List.flatMap_cons] at hn
   obtain ⟨n1,n2,n3⟩ := nodup2.1 hn
   obtain ⟨q1,q2,q3,q4⟩ := hq q List.mem_cons_self
   have hqs : ∀ t ∈ qs.flatMap Kid.us,L t := fun t ht => by
    obtain ⟨p,hp,ht⟩ := List.mem_flatMap.1 ht
    exact (hq p (List.mem_cons_of_mem _ hp)).2.2.2 t ht
   have hne : ∀ t,L t → t ≠ sec := fun t ht e => hL (e ▸ ht)
   rcases keepL_ok D qs (fun t => L t ∨ t = sec) s1 h1 (fun p hp => by
    obtain ⟨p1,p2,p3,p4⟩ := hq p (List.mem_cons_of_mem _ hp)
    exact ⟨tre_congr ht p1 fun t ht => ho1 t (hne t (p4 t ht)),p2,p3,fun t ht => .inl (p4 t ht)⟩) n2 with e2 | ⟨ks,s',e2,k0,k1,k2,k3,k4,k5,k8,k6,k7⟩
   ·left; rw [e2]
   ·right
    rw [e2]
    have hsize : 0 < q.nd.size := by
     have := q2
     simp only [Node.poor,decide_eq_false_iff_not] at this
     rcases q.nd.most_cases with e | e <;> omega
    refine ⟨⟨q.nd.fk,sec,q.nd,q.es,q.us⟩ :: ks,s',rfl,by simp [k0],fun c hc => ?_,by simp [k2],k3.congr fun t => ?_, ?_,fun t ht hLt => ?_,fun t ht => ?_,fun t ht => (k6 t (.inl ht)).trans (ho1 t (hne t ht)),by rw [k7,hr1]⟩
    ·rcases List.mem_cons.1 hc with rfl | hc
     ·exact ⟨(k6 sec (.inr rfl)).trans hc1,tre_congr ht q1 fun t ht => (k6 t (.inl (q4 t ht))).trans (ho1 t (hne t (q4 t ht))),q2,q3,tre_head q1 hsize⟩
     ·exact k1 c hc
    ·simp only [List.flatMap_cons,List.mem_append,List.mem_cons]
     constructor
     ·rintro ((a | a) | a)
      ·exact .inl a
      ·exact .inr (.inl (.inl a))
      ·exact .inr (.inr a)
     ·rintro (a | (a | a) | a)
      ·exact .inl (.inl a)
      ·exact .inl (.inr a)
      ·exact .inl (.inl (q4 t a))
      ·exact .inr a
    ·simp only [List.flatMap_cons]
     refine nodup2.2 ⟨List.nodup_cons.2 ⟨fun hm => hL (q4 _ hm),n1⟩,k4,fun t ht hm => ?_⟩
     rcases List.mem_cons.1 ht with rfl | ht
     ·exact hL (hqs _ (k5 _ hm (.inr rfl)))
     ·exact n3 t ht (k5 t hm (.inl (q4 t ht)))
    ·simp only [List.flatMap_cons,List.mem_append,List.mem_cons] at ht ⊢
     rcases ht with (rfl | ht) | ht
     ·exact absurd hLt hL
     ·exact .inl ht
     ·exact .inr (k5 t ht (.inl hLt))
    ·simp only [List.flatMap_cons,List.mem_append,List.mem_cons] at ht ⊢
     rcases ht with ht | ht
     ·exact .inl (.inr ht)
     ·exact .inr (k8 t ht)
theorem keep_ok {n : Nat} {U L : Nat → Prop} (D : Nat → Option (Node V)) {s : CS V} (h : Ok n U L s) {ht : Nat} {nd : Node V} {e : List (Key × V)} {u : List Nat} (tr : Tre (cur D s) ht nd e u) (hu : ∀ t ∈ u,L t) (hn : u.Nodup) (h1 : nd.most / 2 ≤ nd.size) (h2 : nd.size ≤ 2 * nd.most) :
  keepL nd.parts s = .space ∨ ∃ (ks : List (Kid V)) (s' : CS V),keepL nd.parts s = .ok (ks.map Kid.pr,s') ∧ ks.length = (if nd.size ≤ nd.most then 1 else 2) ∧ (∀ c ∈ ks,KidOk (cur D s') ht c) ∧ ks.flatMap Kid.es = e ∧
   Ok n U (fun t => L t ∨ t ∈ ks.flatMap Kid.all) s' ∧ (ks.flatMap Kid.all).Nodup ∧ (∀ t ∈ ks.flatMap Kid.all,L t → t ∈ u) ∧ (∀ t ∈ u,t ∈ ks.flatMap Kid.all) ∧ (∀ t,L t → cur D s' t = cur D s t) ∧ s'.reads = s.reads := by
 have h0 : nd.size ≠ 0 := by rcases nd.most_cases with e | e <;> omega
 by_cases hf : nd.size ≤ nd.most
 ·have hp : nd.parts = [(⟨(0, 0), 0,nd,e,u⟩ : Kid V)].map Kid.nd := by simp [Node.parts,h0,hf]
  rw [hp,if_pos hf]
  rcases keepL_ok D [(⟨(0, 0), 0,nd,e,u⟩ : Kid V)] L s h (fun q hq => by
   rw [List.mem_singleton] at hq
   subst hq
   exact ⟨tr,by simp [Node.poor]; omega,hf,hu⟩) (by simpa using hn) with g | ⟨ks,s',g1,g2,g3,g4,g5,g6,g7,g8,g9,g10⟩
  ·exact .inl g
  ·exact .inr ⟨ks,s',g1,g2,g3,by simpa using g4,g5,g6,by simpa using g7,by simpa using g8,g9,g10⟩
 ·obtain ⟨e1,e2,u1,u2,rfl,rfl,t1,t2⟩ := tre_cut tr (nd.size / 2)
  have hp : nd.parts = [(⟨(0, 0), 0,nd.tk (nd.size / 2),e1,u1⟩ : Kid V),⟨(0, 0), 0,nd.dp (nd.size / 2),e2,u2⟩].map Kid.nd := by simp [Node.parts,h0,hf]
  rw [hp,if_neg hf]
  have hmin : min (nd.size / 2) nd.size = nd.size / 2 := by omega
  rcases keepL_ok D [(⟨(0, 0), 0,nd.tk (nd.size / 2),e1,u1⟩ : Kid V),⟨(0, 0), 0,nd.dp (nd.size / 2),e2,u2⟩] L s h (fun q hq => by
   simp only [List.mem_cons,List.not_mem_nil,or_false] at hq
   rcases hq with rfl | rfl
   ·refine ⟨t1, ?_, ?_,fun t ht => hu t (List.mem_append_left _ ht)⟩
    ·simp only [Node.poor,Node.most_tk,Node.size_tk,hmin,decide_eq_false_iff_not]
     rcases nd.most_cases with e | e <;> omega
    ·simp only [Node.most_tk,Node.size_tk,hmin]
     omega
   ·refine ⟨t2, ?_, ?_,fun t ht => hu t (List.mem_append_right _ ht)⟩
    ·simp only [Node.poor,Node.most_dp,Node.size_dp,decide_eq_false_iff_not]
     rcases nd.most_cases with e | e <;> omega
    ·simp only [Node.most_dp,Node.size_dp]
     rcases nd.most_cases with e | e <;> omega) (by simpa using hn) with g | ⟨ks,s',g1,g2,g3,g4,g5,g6,g7,g8,g9,g10⟩
  ·exact .inl g
  ·exact .inr ⟨ks,s',g1,g2,g3,by simpa using g4,g5,g6,by simpa using g7,by simpa using g8,g9,g10⟩
theorem kids_rising {M : Nat → Option (Node V)} {h : Nat} : ∀ (ks : List (Kid V)),(∀ c ∈ ks,KidOk M h c) → Rising (ks.flatMap Kid.es) → Rising (ks.map Kid.pr)
 | [],_,_ => Rising.nil
 | c :: ks,hk,hr => by
  rw [List.flatMap_cons] at hr
  obtain ⟨r1,r2,r3⟩ := Rising.append.1 hr
  rw [List.map_cons]
  refine Rising.cons.2 ⟨fun y hy => ?_,kids_rising ks (fun c hc => hk c (List.mem_cons_of_mem _ hc)) r2⟩
  obtain ⟨d,hd,rfl⟩ := List.mem_map.1 hy
  obtain ⟨v,t,e⟩ := (hk c List.mem_cons_self).ne
  obtain ⟨v',t',e'⟩ := (hk d (List.mem_cons_of_mem _ hd)).ne
  exact r3 (c.key,v) (by rw [e]; exact List.mem_cons_self) (d.key,v') (List.mem_flatMap.2 ⟨d,hd,by rw [e']; exact List.mem_cons_self⟩)
theorem undr_lt {k : Key} {r : List (Key × Nat)} (hr : Rising r) (hne : r ≠ []) : undr k r < r.length := by
 unfold undr
 have := lbn_le k r
 have hl : 0 < r.length := List.length_pos_iff.2 hne
 split
 ·rename_i f
  obtain ⟨v,e⟩ := lbn_found hr f
  exact (List.getElem?_eq_some_iff.1 e).1
 ·omega
theorem undr_split {M : Nat → Option (Node V)} {h : Nat} (k : Key) (ks : List (Kid V)) (hk : ∀ c ∈ ks,KidOk M h c) (hr : Rising (ks.flatMap Kid.es)) (hne : ks ≠ []) :
  ∃ A c B,ks = A ++ c :: B ∧ A.length = undr k (ks.map Kid.pr) ∧ (∀ x ∈ A.flatMap Kid.es,klt x.1 k) ∧ (∀ x ∈ B.flatMap Kid.es,klt k x.1) := by
 have rr := kids_rising ks hk hr
 have hlt := undr_lt (k := k) rr (by simpa using hne)
 rw [List.length_map] at hlt
 obtain ⟨i,hidx⟩ : ∃ i,undr k (ks.map Kid.pr) = i := ⟨_,rfl⟩
 rw [hidx] at hlt ⊢
 have hsp : ks = ks.take i ++ ks[i] :: ks.drop (i + 1) := by rw [List.getElem_cons_drop,List.take_append_drop]
 refine ⟨ks.take i,ks[i],ks.drop (i + 1),hsp,by simp; omega,fun x hx => ?_,fun x hx => ?_⟩
 ·-- what stands ahead: this node's least key is no more than the key
  have hi0 : 0 < i := by
   rcases Nat.eq_zero_or_pos i with e | e
   ·rw [e] at hx; simp at hx
   ·exact e
  have hle : ¬ klt k (ks[i]).key := by
   unfold undr at hidx
   split at hidx
   ·rename_i f
    obtain ⟨v,e⟩ := lbn_found rr f
    rw [hidx,List.getElem?_map,List.getElem?_eq_getElem hlt] at e
    simp only [Option.map_some,Option.some.injEq,Prod.mk.injEq] at e
    rw [e.1]; exact klt_irrefl k
   ·have hm : (ks[i]).pr ∈ lo k (ks.map Kid.pr) := by
     rw [← take_lbn k rr]
     refine List.mem_iff_getElem?.2 ⟨i, ?_⟩
     rw [List.getElem?_take,if_pos (by omega),List.getElem?_map,List.getElem?_eq_getElem hlt]; rfl
    exact klt_asymm (mem_lo.1 hm).2
  obtain ⟨v,t,e⟩ := (hk _ (List.getElem_mem hlt)).ne
  rw [hsp,List.flatMap_append,List.flatMap_cons] at hr
  obtain ⟨_,_,r3⟩ := Rising.append.1 hr
  exact klt_of_lt_le (r3 x hx ((ks[i]).key,v) (List.mem_append_left _ (by rw [e]; exact List.mem_cons_self))) hle
 ·obtain ⟨d,hd,hx⟩ := List.mem_flatMap.1 hx
  have hgt : klt k d.key := by
   have hm : d.pr ∈ hi k (ks.map Kid.pr) := by
    rw [← drop_lbn k rr, ← List.map_drop]
    refine List.mem_map.2 ⟨d, ?_,rfl⟩
    have : ∀ j,j ≤ i + 1 → d ∈ ks.drop j := fun j hj => by
     obtain ⟨q,hq⟩ : ∃ q,i + 1 = j + q := ⟨i + 1 - j,by omega⟩
     rw [hq, ← List.drop_drop] at hd
     exact List.mem_of_mem_drop hd
    refine this _ ?_
    unfold undr at hidx
    split at hidx <;> rename_i f
    ·rw [if_pos f]; omega
    ·rw [if_neg f]; omega
   exact (mem_hi.1 hm).2
  obtain ⟨v,t,e⟩ := (hk d (List.mem_of_mem_drop hd)).ne
  have hd' : Rising d.es := hr.sub (by
   obtain ⟨a,b,e⟩ := List.append_of_mem (List.mem_of_mem_drop hd)
   rw [e,List.flatMap_append,List.flatMap_cons]
   exact (List.sublist_append_left _ _).trans (List.sublist_append_right _ _))
  rw [e] at hx hd'
  rcases List.mem_cons.1 hx with rfl | hx
  ·exact hgt
  ·exact klt_trans hgt ((Rising.cons.1 hd').1 x hx)
theorem finish {n : Nat} {U L Rest : Nat → Prop} {D : Nat → Option (Node V)} {s : CS V} {h : Nat} (ok : Ok n U L s) {A B : List (Kid V)} {m : Node V} {em : List (Key × V)} {um : List Nat}
  (hL : ∀ t,L t ↔ Rest t ∨ t ∈ A.flatMap Kid.all ++ um ++ B.flatMap Kid.all) (hnd : (A.flatMap Kid.all ++ um ++ B.flatMap Kid.all).Nodup) (hR : ∀ t ∈ A.flatMap Kid.all ++ um ++ B.flatMap Kid.all, ¬ Rest t)
  (hA : ∀ c ∈ A,KidOk (cur D s) h c) (hB : ∀ c ∈ B,KidOk (cur D s) h c) (tr : Tre (cur D s) h m em um) (h1 : m.most / 2 ≤ m.size) (h2 : m.size ≤ 2 * m.most) :
  keepL m.parts s = .space ∨ ∃ q s' us',keepL m.parts s = .ok (q,s') ∧ q.length = (if m.size ≤ m.most then 1 else 2) ∧ Tre (cur D s') (h + 1) (.branch (A.map Kid.pr ++ q ++ B.map Kid.pr)) (A.flatMap Kid.es ++ em ++ B.flatMap Kid.es) us' ∧
   Ok n U (fun t => Rest t ∨ t ∈ us') s' ∧ us'.Nodup ∧ (∀ t ∈ us', ¬ Rest t) ∧ (∀ t,Rest t → cur D s' t = cur D s t) ∧ s'.reads = s.reads := by
 obtain ⟨d1,d2,d3,d4,d5,d6⟩ := nodup3.1 hnd
 have hum : ∀ t ∈ um,L t := fun t ht => (hL t).2 (.inr (by simp only [List.mem_append]; exact .inl (.inr ht)))
 have hAl : ∀ t ∈ A.flatMap Kid.all,L t := fun t ht => (hL t).2 (.inr (by simp only [List.mem_append]; exact .inl (.inl ht)))
 have hBl : ∀ t ∈ B.flatMap Kid.all,L t := fun t ht => (hL t).2 (.inr (by simp only [List.mem_append]; exact .inr ht))
 rcases keep_ok D ok tr hum d2 h1 h2 with e | ⟨ks,s',e,k0,k1,k2,k3,k4,k5,k8,k6,k7⟩
 ·exact .inl e
 ·refine .inr ⟨_,s',(A ++ ks ++ B).flatMap Kid.all,e,by simp [k0],tre_succ.2 ⟨A ++ ks ++ B,by simp,fun c hc => ?_,by simp [k2],rfl⟩,k3.congr fun t => ?_, ?_,fun t ht hr => ?_,fun t ht => k6 t ((hL t).2 (.inl ht)),k7⟩
  ·simp only [List.mem_append] at hc
   rcases hc with (hc | hc) | hc
   ·exact (hA c hc).congr fun t ht => k6 t (hAl t (List.mem_flatMap.2 ⟨c,hc,ht⟩))
   ·exact k1 c hc
   ·exact (hB c hc).congr fun t ht => k6 t (hBl t (List.mem_flatMap.2 ⟨c,hc,ht⟩))
  ·rw [hL t]
   simp only [List.flatMap_append,List.mem_append]
   constructor
   ·rintro ((a | (a | a) | a) | a)
    ·exact .inl a
    ·exact .inr (.inl (.inl a))
    ·exact .inr (.inl (.inr (k8 t a)))
    ·exact .inr (.inr a)
    ·exact .inr (.inl (.inr a))
   ·rintro (a | (a | a) | a)
    ·exact .inl (.inl a)
    ·exact .inl (.inr (.inl (.inl a)))
    ·exact .inr a
    ·exact .inl (.inr (.inr a))
  ·simp only [List.flatMap_append]
   exact nodup3.2 ⟨d1,k4,d3,fun t ht hk => d4 t ht (k5 t hk (hAl t ht)),d5,fun t ht hb => d6 t (k5 t ht (hBl t hb)) hb⟩
  ·simp only [List.flatMap_append,List.mem_append] at ht
   rcases ht with (ht | ht) | ht
   ·exact hR t (by simp only [List.mem_append]; exact .inl (.inl ht)) hr
   ·exact hR t (by simp only [List.mem_append]; exact .inl (.inr (k5 t ht ((hL t).2 (.inl hr))))) hr
   ·exact hR t (by simp only [List.mem_append]; exact .inr ht) hr
end
end
section
section
variable {V : Type}
structure OpOk (k : Key) (op : List (Key × V) → List (Key × V)) : Prop where
 loc : Local k op
 ris : ∀ r,Rising r → Rising (op r)
 up : ∀ r,Rising r → (op r).length ≤ r.length + 1
 dn : ∀ r,Rising r → r.length ≤ (op r).length + 1
theorem opOk_ins (k : Key) (v : V) : OpOk k (ins k v) := ⟨local_ins k v,fun _ h => rising_ins h,fun r h => by rw [length_ins h]; split <;> omega,fun r h => by rw [length_ins h]; split <;> omega⟩
theorem opOk_del (k : Key) : OpOk (V := V) k (del k) := ⟨local_del k,fun _ h => rising_del h,fun r h => by rw [length_del h]; split <;> omega,fun r h => by rw [length_del h]; split <;> omega⟩
theorem edit_ok {n : Nat} {U : Nat → Prop} {D : Nat → Option (Node V)} {k : Key} {op : List (Key × V) → List (Key × V)} (ho : OpOk k op) : ∀ (h : Nat) (L : Nat → Prop) (s : CS V) (sec : Nat) (nd : Node V) (es : List (Key × V)) (us : List Nat),
  Ok n U L s → cur D s sec = some nd → Tre (cur D s) h nd es us → (∀ t ∈ sec :: us,L t) → (sec :: us).Nodup → Rising es → (h = 0 ∨ 2 ≤ nd.size) →
  editF D k op (h + 1) s sec = .space ∨ ∃ (nd' : Node V) (s' : CS V) (us' : List Nat),editF D k op (h + 1) s sec = .ok (nd',s') ∧ Ok n U (fun t => (L t ∧ t ∉ sec :: us) ∨ t ∈ us') s' ∧
   Tre (cur D s') h nd' (op es) us' ∧ us'.Nodup ∧ (∀ t ∈ us', ¬ (L t ∧ t ∉ sec :: us)) ∧ (∀ t,L t ∧ t ∉ sec :: us → cur D s' t = cur D s t) ∧ nd'.size ≤ nd.size + 1 ∧ nd.size ≤ nd'.size + 1 ∧ s'.reads ≤ s.reads + 2 * (h + 1)
 | 0,L,s,sec,nd,es,us,ok,hc,tr,hL,hnd,hr,_ => by
  obtain ⟨s1,e1,ok1,o1,r1⟩ := take_ok ok (hL sec List.mem_cons_self) hc
  obtain ⟨rfl,rfl⟩ := tr
  right
  refine ⟨.leaf (op es),s1, [], ?_,ok1.congr fun t => by simp,⟨rfl,rfl⟩,by simp,fun t ht => (by cases ht),fun t ht => o1 t (fun e => ht.2 (by rw [e]; exact List.mem_cons_self)),ho.up es hr,ho.dn es hr,by omega⟩
  simp only [editF,e1,Res.bind,if_pos hr]
 | h + 1,L,s,sec,nd,es,us,ok,hc,tr,hL,hnd,hr,h2 => by
  obtain ⟨s1,e1,ok1,o1,r1⟩ := take_ok ok (hL sec List.mem_cons_self) hc
  obtain ⟨ks,rfl,hk,rfl,rfl⟩ := tre_succ.1 tr
  obtain ⟨hsec,hnd⟩ := List.nodup_cons.1 hnd
  have hks2 : 2 ≤ ks.length := h2.elim (fun h => by cases h) (fun h => by simpa [Node.size] using h)
  have hk1 : ∀ c ∈ ks,KidOk (cur D s1) h c := fun c hc => (hk c hc).congr fun t ht => o1 t fun e => hsec (by rw [← e]; exact List.mem_flatMap.2 ⟨c,hc,ht⟩)
  have rr := kids_rising ks hk hr
  obtain ⟨A,c,B,rfl,hi,hAk,hBk⟩ := undr_split k ks hk hr (by intro e; rw [e] at hks2; simp at hks2)
  have hget : ((A ++ c :: B).map Kid.pr)[undr k ((A ++ c :: B).map Kid.pr)]? = some c.pr := by rw [← hi]; simp
  obtain ⟨r,hrow⟩ : ∃ r,(A ++ c :: B).map Kid.pr = r := ⟨_,rfl⟩
  rw [hrow] at hi hget rr
  simp only [List.flatMap_append,List.flatMap_cons] at hnd hr hsec hL
  have hcOk := hk1 c (by simp)
  have hnd3 : (A.flatMap Kid.all ++ c.all ++ B.flatMap Kid.all).Nodup := by rw [List.append_assoc]; exact hnd
  obtain ⟨d1,d2,d3,d4,d5,d6⟩ := nodup3.1 hnd3
  have hris : Rising (A.flatMap Kid.es ++ c.es ++ B.flatMap Kid.es) := by rw [List.append_assoc]; exact hr
  have hcr : Rising c.es := hris.sub ((List.sublist_append_right _ _).trans (List.sublist_append_left _ _))
  have hin : ∀ t,t ∈ A.flatMap Kid.all ++ c.all ++ B.flatMap Kid.all → L t ∧ t ≠ sec := fun t ht => by
   rw [List.append_assoc] at ht
   exact ⟨hL t (List.mem_cons_of_mem _ ht),fun e => hsec (e ▸ ht)⟩
  have hcin : ∀ t ∈ c.all,L t ∧ t ≠ sec := fun t ht => hin t (by simp only [List.mem_append]; exact .inl (.inr ht))
  have hcs : h = 0 ∨ 2 ≤ c.nd.size := by
   have := hcOk.rich
   simp only [Node.poor,decide_eq_false_iff_not] at this
   rcases c.nd.most_cases with e | e <;> omega
  have hunf : ∀ y,editF D k op (h + 1) s1 c.sec = y → editF D k op (h + 1 + 1) s sec = y.bind fun y =>
     if y.1.poor = true then
      if 0 < undr k r then
       match r[undr k r - 1]? with
       | none => .bad
       | some a => (takeF D y.2 a.2).bind fun z => if z.1.most = y.1.most then (keepL (z.1.join y.1).parts z.2).bind fun q => .ok (.branch (r.take (undr k r - 1) ++ q.1 ++ r.drop (undr k r + 1)),q.2) else .bad
      else
       match r[undr k r + 1]? with
       | none => .bad
       | some b => (takeF D y.2 b.2).bind fun z => if z.1.most = y.1.most then (keepL (y.1.join z.1).parts z.2).bind fun q => .ok (.branch (r.take (undr k r) ++ q.1 ++ r.drop (undr k r + 2)),q.2) else .bad
     else (keepL y.1.parts y.2).bind fun q => .ok (.branch (r.take (undr k r) ++ q.1 ++ r.drop (undr k r + 1)),q.2) := fun y hy => by
   rw [editF,e1,Res.ok_bind]
   simp only
   rw [hrow,if_pos rr,hget]
   simp only
   rw [hy] <;> rfl
  have hop : op ((A ++ c :: B).flatMap Kid.es) = A.flatMap Kid.es ++ op c.es ++ B.flatMap Kid.es := by
   have := ho.loc (A.flatMap Kid.es) c.es (B.flatMap Kid.es) hAk hBk
   rw [← this]; simp
  rcases edit_ok ho h (fun t => L t ∧ t ≠ sec) s1 c.sec c.nd c.es c.us ok1 hcOk.at_ hcOk.tre hcin d2 hcr hcs with e2 | ⟨nd',s2,us2,e2,ok2,t2,n2,x2,o2,z1,z2,r2⟩
  ·left; rw [hunf _ e2]; rfl
  ·have hU := hunf _ e2
   rw [Res.ok_bind] at hU
   simp only at hU
   rw [hU]
   clear hU hunf
   have hmost : nd'.most = c.nd.most := by
    cases h with
    | zero => rw [t2.1,hcOk.tre.1]; rfl
    | succ h => obtain ⟨ka,ea,_⟩ := t2; obtain ⟨kb,eb,_⟩ := hcOk.tre; rw [ea,eb]; rfl
   have hrich := hcOk.rich
   simp only [Node.poor,decide_eq_false_iff_not] at hrich
   have hfits := hcOk.fits
   have hmc := c.nd.most_cases
   -- the rest of the tree
   have hAin : ∀ t ∈ A.flatMap Kid.all,L t ∧ t ≠ sec := fun t ht => hin t (by simp only [List.mem_append]; exact .inl (.inl ht))
   have hBin : ∀ t ∈ B.flatMap Kid.all,L t ∧ t ≠ sec := fun t ht => hin t (by simp only [List.mem_append]; exact .inr ht)
   have hA2 : ∀ d ∈ A,KidOk (cur D s2) h d := fun d hd => (hk1 d (by simp [hd])).congr fun t ht => by
    have := List.mem_flatMap.2 ⟨d,hd,ht⟩
    exact o2 t ⟨hAin t this,d4 t this⟩
   have hB2 : ∀ d ∈ B,KidOk (cur D s2) h d := fun d hd => (hk1 d (by simp [hd])).congr fun t ht => by
    have := List.mem_flatMap.2 ⟨d,hd,ht⟩
    exact o2 t ⟨hBin t this,fun g => d6 t g this⟩
   obtain ⟨Rest,hRest⟩ : ∃ Rest : Nat → Prop,Rest = fun t => L t ∧ t ∉ sec :: (A ++ c :: B).flatMap Kid.all := ⟨_,rfl⟩
   have hRi : ∀ t,Rest t ↔ L t ∧ t ≠ sec ∧ t ∉ A.flatMap Kid.all ∧ t ∉ c.all ∧ t ∉ B.flatMap Kid.all := fun t => by
    rw [hRest]
    simp only [List.flatMap_append,List.flatMap_cons,List.mem_cons,List.mem_append,not_or]
   have hRc : ∀ t,Rest t → cur D s2 t = cur D s t := fun t ht => by
    have g := (hRi t).1 ht
    exact (o2 t ⟨⟨g.1,g.2.1⟩,g.2.2.2.1⟩).trans (o1 t g.2.1)
   have hL2 : ∀ t,((L t ∧ t ≠ sec) ∧ t ∉ c.all ∨ t ∈ us2) ↔ Rest t ∨ t ∈ A.flatMap Kid.all ++ us2 ++ B.flatMap Kid.all := fun t => by
    rw [hRi t]
    simp only [List.mem_append]
    constructor
    ·rintro (⟨⟨a1,a2⟩,a3⟩ | a)
     ·by_cases gA : t ∈ A.flatMap Kid.all
      ·exact .inr (.inl (.inl gA))
      ·by_cases gB : t ∈ B.flatMap Kid.all
       ·exact .inr (.inr gB)
       ·exact .inl ⟨a1,a2,gA,a3,gB⟩
     ·exact .inr (.inl (.inr a))
    ·rintro (⟨a1,a2,a3,a4,a5⟩ | (a | a) | a)
     ·exact .inl ⟨⟨a1,a2⟩,a4⟩
     ·exact .inl ⟨hAin t a,d4 t a⟩
     ·exact .inr a
     ·exact .inl ⟨hBin t a,fun g => d6 t g a⟩
   have hx2 : ∀ t ∈ us2,t ∉ A.flatMap Kid.all ∧ t ∉ B.flatMap Kid.all ∧ ¬ Rest t := fun t ht => by
    have g := x2 t ht
    refine ⟨fun a => g ⟨hAin t a,d4 t a⟩,fun a => g ⟨hBin t a,fun q => d6 t q a⟩,fun a => ?_⟩
    have q := (hRi t).1 a
    exact g ⟨⟨q.1,q.2.1⟩,q.2.2.2.1⟩
   have hRA : ∀ t ∈ A.flatMap Kid.all, ¬ Rest t := fun t ht g => ((hRi t).1 g).2.2.1 ht
   have hRB : ∀ t ∈ B.flatMap Kid.all, ¬ Rest t := fun t ht g => ((hRi t).1 g).2.2.2.2 ht
   have hlen : (A ++ c :: B).length = A.length + 1 + B.length := by simp; omega
   by_cases hp : nd'.poor = true
   ·rw [if_pos hp]
    simp only [Node.poor,decide_eq_true_eq] at hp
    by_cases h0 : 0 < undr k r
    ·rw [if_pos h0]
     -- with the node ahead
     obtain ⟨A0,a,rfl⟩ : ∃ A0 a,A = A0 ++ [a] := by
      rcases List.eq_nil_or_concat A with e | ⟨A0,a,e⟩
      ·rw [e] at hi; simp at hi; omega
      ·exact ⟨A0,a,by simpa using e⟩
     have hi1 : undr k r - 1 = A0.length := by rw [← hi]; simp
     have hi2 : undr k r + 1 = A0.length + 2 := by rw [← hi]; simp
     have hg2 : r[undr k r - 1]? = some a.pr := by rw [hi1, ← hrow]; simp
     rw [hg2]
     simp only
     have ht1 : r.take (undr k r - 1) = A0.map Kid.pr := by rw [hi1, ← hrow]; simp
     have ht2 : r.drop (undr k r + 1) = B.map Kid.pr := by
      rw [hi2, ← hrow,show (A0 ++ [a] ++ c :: B).map Kid.pr = (A0.map Kid.pr ++ [a.pr,c.pr]) ++ B.map Kid.pr by simp]
      exact List.drop_left' (by simp)
     rw [ht1,ht2]
     have haOk := hA2 a (by simp)
     have haL : (L a.sec ∧ a.sec ≠ sec) ∧ a.sec ∉ c.all ∨ a.sec ∈ us2 := (hL2 a.sec).2 (.inr (by simp))
     obtain ⟨s3,e3,ok3,o3,r3⟩ := take_ok ok2 haL haOk.at_
     rw [e3,Res.ok_bind]
     simp only
     rw [if_pos (tre_most haOk.tre t2)]
     simp only [List.flatMap_append,List.flatMap_cons,List.flatMap_nil,List.append_nil] at d1 d4 d5 hx2 hRA hL2 hAin
     obtain ⟨f1,f2,f3⟩ := nodup2.1 d1
     obtain ⟨g1,g2⟩ := List.nodup_cons.1 f2
     have hne : ∀ d ∈ A0 ++ B, ∀ t ∈ d.all,t ≠ a.sec := fun d hd t ht e => by
      rcases List.mem_append.1 hd with hd | hd
      ·exact f3 t (List.mem_flatMap.2 ⟨d,hd,ht⟩) (by rw [e]; exact List.mem_cons_self)
      ·exact d5 t (by rw [e]; exact List.mem_append_right _ List.mem_cons_self) (List.mem_flatMap.2 ⟨d,hd,ht⟩)
     have husA : ∀ t ∈ us2,t ≠ a.sec := fun t ht e => (hx2 t ht).1 (by rw [e]; exact List.mem_append_right _ List.mem_cons_self)
     obtain ⟨tj,sj,mj⟩ := tre_join (tre_congr h haOk.tre fun t ht => o3 t fun e => g1 (e ▸ ht)) (tre_congr h t2 fun t ht => o3 t (husA t ht))
     have ham := tre_most haOk.tre t2
     have harich := haOk.rich
     simp only [Node.poor,decide_eq_false_iff_not] at harich
     have hafits := haOk.fits
     have hL3 : ∀ t,(((L t ∧ t ≠ sec) ∧ t ∉ c.all ∨ t ∈ us2) ∧ t ≠ a.sec) ↔ Rest t ∨ t ∈ A0.flatMap Kid.all ++ (a.us ++ us2) ++ B.flatMap Kid.all := fun t => by
      rw [hL2 t]
      simp only [List.mem_append,List.mem_cons]
      by_cases e : t = a.sec
      ·subst e
       have hA0 : a.sec ∉ A0.flatMap Kid.all := fun g => f3 _ g List.mem_cons_self
       have hB0 : a.sec ∉ B.flatMap Kid.all := fun g => d5 _ (List.mem_append_right _ List.mem_cons_self) g
       have hu0 : a.sec ∉ us2 := fun g => husA _ g rfl
       have hr0 : ¬ Rest a.sec := hRA _ (List.mem_append_right _ List.mem_cons_self)
       simp [hA0,hB0,hu0,hr0,g1]
      ·simp only [e,false_or,ne_eq,not_false_eq_true,and_true]
       constructor
       ·rintro (a1 | ((a1 | a1) | a1) | a1)
        ·exact .inl a1
        ·exact .inr (.inl (.inl a1))
        ·exact .inr (.inl (.inr (.inl a1)))
        ·exact .inr (.inl (.inr (.inr a1)))
        ·exact .inr (.inr a1)
       ·rintro (a1 | (a1 | a1 | a1) | a1)
        ·exact .inl a1
        ·exact .inr (.inl (.inl (.inl a1)))
        ·exact .inr (.inl (.inl (.inr a1)))
        ·exact .inr (.inl (.inr a1))
        ·exact .inr (.inr a1)
     have hN3 : (A0.flatMap Kid.all ++ (a.us ++ us2) ++ B.flatMap Kid.all).Nodup := by
      refine nodup3.2 ⟨f1,nodup2.2 ⟨g2,n2,fun t ht g => (hx2 t g).1 (List.mem_append_right _ (List.mem_cons_of_mem _ ht))⟩,d3,fun t ht g => ?_,fun t ht => d5 t (List.mem_append_left _ ht),fun t ht g => ?_⟩
      ·rcases List.mem_append.1 g with g | g
       ·exact f3 t ht (List.mem_cons_of_mem _ g)
       ·exact (hx2 t g).1 (List.mem_append_left _ ht)
      ·rcases List.mem_append.1 ht with ht | ht
       ·exact d5 t (List.mem_append_right _ (List.mem_cons_of_mem _ ht)) g
       ·exact (hx2 t ht).2.1 g
     have hR3 : ∀ t ∈ A0.flatMap Kid.all ++ (a.us ++ us2) ++ B.flatMap Kid.all, ¬ Rest t := by
      intro t ht
      simp only [List.mem_append] at ht
      rcases ht with (ht | ht | ht) | ht
      ·exact hRA t (List.mem_append_left _ ht)
      ·exact hRA t (List.mem_append_right _ (List.mem_cons_of_mem _ ht))
      ·exact (hx2 t ht).2.2
      ·exact hRB t ht
     rcases finish (Rest := Rest) (D := D) (s := s3) (h := h) (A := A0) (B := B) ok3 (um := a.us ++ us2) hL3 hN3 hR3 (fun d hd => (hA2 d (by simp [hd])).congr fun t ht => o3 t (hne d (by simp [hd]) t ht)) (fun d hd => (hB2 d hd).congr fun t ht => o3 t (hne d (by simp [hd]) t ht)) tj (by omega) (by omega) with e4 | ⟨q,s4,us4,e4,l4,t4,ok4,n4,x4,o4,r4⟩
     ·left; rw [e4]; rfl
     ·right
      rw [e4,Res.ok_bind]
      have l5 : 1 ≤ q.length ∧ q.length ≤ 2 := by rw [l4]; split <;> omega
      refine ⟨_,s4,us4,rfl, ?_, ?_,n4, ?_, ?_, ?_, ?_,by omega⟩
      ·rw [hRest] at ok4; exact ok4
      ·rw [hop]
       have : (A0 ++ [a]).flatMap Kid.es ++ op c.es ++ B.flatMap Kid.es = A0.flatMap Kid.es ++ (a.es ++ op c.es) ++ B.flatMap Kid.es := by simp
       rw [this]; exact t4
      ·rw [hRest] at x4; exact x4
      ·intro t ht
       have ht' : Rest t := by rw [hRest]; exact ht
       have : t ≠ a.sec := fun e => hRA t (by rw [e]; exact List.mem_append_right _ List.mem_cons_self) ht'
       exact (o4 t ht').trans ((o3 t this).trans (hRc t ht'))
      ·simp only [Node.size,List.length_append,List.length_map,List.length_cons,List.length_nil]; omega
      ·simp only [Node.size,List.length_append,List.length_map,List.length_cons,List.length_nil]; omega
    ·rw [if_neg h0]
     -- with the node behind
     have hA0 : A = [] := by 
      rcases A with _ | ⟨x,A⟩
      ·rfl
      ·simp at hi; omega
     subst hA0
     obtain ⟨b,B0,rfl⟩ : ∃ b B0,B = b :: B0 := by
      rcases B with _ | ⟨b,B0⟩
      ·simp at hks2
      ·exact ⟨b,B0,rfl⟩
     have hi1 : undr k r = 0 := by rw [← hi]; rfl
     have hg2 : r[undr k r + 1]? = some b.pr := by rw [hi1, ← hrow]; simp
     rw [hg2]
     simp only
     have ht1 : r.take (undr k r) = [] := by rw [hi1]; simp
     have ht2 : r.drop (undr k r + 2) = B0.map Kid.pr := by rw [hi1, ← hrow]; simp
     rw [ht1,ht2]
     have hbOk := hB2 b (by simp)
     have hbL : (L b.sec ∧ b.sec ≠ sec) ∧ b.sec ∉ c.all ∨ b.sec ∈ us2 := (hL2 b.sec).2 (.inr (by simp))
     obtain ⟨s3,e3,ok3,o3,r3⟩ := take_ok ok2 hbL hbOk.at_
     rw [e3,Res.ok_bind]
     simp only
     rw [if_pos (tre_most hbOk.tre t2)]
     simp only [List.flatMap_cons,List.flatMap_nil,List.nil_append] at d3 d6 hx2 hRB hL2 hBin
     obtain ⟨f1,f2,f3⟩ := nodup2.1 d3
     obtain ⟨g1,g2⟩ := List.nodup_cons.1 f1
     have hne : ∀ d ∈ B0, ∀ t ∈ d.all,t ≠ b.sec := fun d hd t ht e => f3 t (by rw [e]; exact List.mem_cons_self) (List.mem_flatMap.2 ⟨d,hd,ht⟩)
     have husB : ∀ t ∈ us2,t ≠ b.sec := fun t ht e => (hx2 t ht).2.1 (by rw [e]; exact List.mem_append_left _ List.mem_cons_self)
     obtain ⟨tj,sj,mj⟩ := tre_join (tre_congr h t2 fun t ht => o3 t (husB t ht)) (tre_congr h hbOk.tre fun t ht => o3 t fun e => g1 (e ▸ ht))
     have ham := tre_most hbOk.tre t2
     have hbrich := hbOk.rich
     simp only [Node.poor,decide_eq_false_iff_not] at hbrich
     have hbfits := hbOk.fits
     have hL3 : ∀ t,(((L t ∧ t ≠ sec) ∧ t ∉ c.all ∨ t ∈ us2) ∧ t ≠ b.sec) ↔ Rest t ∨ t ∈ ([] : List (Kid V)).flatMap Kid.all ++ (us2 ++ b.us) ++ B0.flatMap Kid.all := fun t => by
      rw [hL2 t]
      simp only [List.mem_append,List.mem_cons,List.flatMap_nil,List.not_mem_nil,false_or]
      by_cases e : t = b.sec
      ·subst e
       have hB0 : b.sec ∉ B0.flatMap Kid.all := fun g => f3 _ List.mem_cons_self g
       have hu0 : b.sec ∉ us2 := fun g => husB _ g rfl
       have hr0 : ¬ Rest b.sec := hRB _ (List.mem_append_left _ List.mem_cons_self)
       simp [hB0,hu0,hr0,g1]
      ·simp only [e,false_or,ne_eq,not_false_eq_true,and_true]
       constructor
       ·rintro (a1 | a1 | a1 | a1)
        ·exact .inl a1
        ·exact .inr (.inl (.inl a1))
        ·exact .inr (.inl (.inr a1))
        ·exact .inr (.inr a1)
       ·rintro (a1 | (a1 | a1) | a1)
        ·exact .inl a1
        ·exact .inr (.inl a1)
        ·exact .inr (.inr (.inl a1))
        ·exact .inr (.inr (.inr a1))
     have hN3 : (([] : List (Kid V)).flatMap Kid.all ++ (us2 ++ b.us) ++ B0.flatMap Kid.all).Nodup := by
      simp only [List.flatMap_nil]
      refine nodup3.2 ⟨List.nodup_nil,nodup2.2 ⟨n2,g2,fun t ht g => (hx2 t ht).2.1 (List.mem_append_left _ (List.mem_cons_of_mem _ g))⟩,f2,fun t ht => (by cases ht),fun t ht => (by cases ht),fun t ht g => ?_⟩
      rcases List.mem_append.1 ht with ht | ht
      ·exact (hx2 t ht).2.1 (List.mem_append_right _ g)
      ·exact f3 t (List.mem_cons_of_mem _ ht) g
     have hR3 : ∀ t ∈ ([] : List (Kid V)).flatMap Kid.all ++ (us2 ++ b.us) ++ B0.flatMap Kid.all, ¬ Rest t := by
      intro t ht
      simp only [List.flatMap_nil,List.nil_append,List.mem_append] at ht
      rcases ht with (ht | ht) | ht
      ·exact (hx2 t ht).2.2
      ·exact hRB t (List.mem_append_left _ (List.mem_cons_of_mem _ ht))
      ·exact hRB t (List.mem_append_right _ ht)
     rcases finish (Rest := Rest) (D := D) (s := s3) (h := h) (A := []) (B := B0) ok3 (um := us2 ++ b.us) hL3 hN3 hR3 (fun d hd => by cases hd) (fun d hd => (hB2 d (by simp [hd])).congr fun t ht => o3 t (hne d hd t ht)) tj (by omega) (by omega) with e4 | ⟨q,s4,us4,e4,l4,t4,ok4,n4,x4,o4,r4⟩
     ·left; rw [e4]; rfl
     ·right
      rw [e4,Res.ok_bind]
      have l5 : 1 ≤ q.length ∧ q.length ≤ 2 := by rw [l4]; split <;> omega
      refine ⟨_,s4,us4,rfl, ?_, ?_,n4, ?_, ?_, ?_, ?_,by omega⟩
      ·rw [hRest] at ok4; exact ok4
      ·rw [hop]
       have : [].flatMap Kid.es ++ op c.es ++ (b :: B0).flatMap Kid.es = [].flatMap Kid.es ++ (op c.es ++ b.es) ++ B0.flatMap Kid.es := by simp
       rw [this]; exact t4
      ·rw [hRest] at x4; exact x4
      ·intro t ht
       have ht' : Rest t := by rw [hRest]; exact ht
       have : t ≠ b.sec := fun e => hRB t (by rw [e]; exact List.mem_append_left _ List.mem_cons_self) ht'
       exact (o4 t ht').trans ((o3 t this).trans (hRc t ht'))
      ·simp only [Node.size,List.length_append,List.length_map,List.length_cons,List.length_nil]; omega
      ·simp only [Node.size,List.length_append,List.length_map,List.length_cons,List.length_nil]; omega
   ·rw [if_neg hp]
    simp only [Node.poor,decide_eq_true_eq] at hp
    have hi2 : undr k r + 1 = A.length + 1 := by rw [← hi]
    have ht1 : r.take (undr k r) = A.map Kid.pr := by rw [← hi, ← hrow]; simp
    have ht2 : r.drop (undr k r + 1) = B.map Kid.pr := by
     rw [hi2, ← hrow,show (A ++ c :: B).map Kid.pr = (A.map Kid.pr ++ [c.pr]) ++ B.map Kid.pr by simp]
     exact List.drop_left' (by simp)
    rw [ht1,ht2]
    have hN3 : (A.flatMap Kid.all ++ us2 ++ B.flatMap Kid.all).Nodup := by
     exact nodup3.2 ⟨d1,n2,d3,fun t ht g => (hx2 t g).1 ht,d5,fun t ht => (hx2 t ht).2.1⟩
    have hR3 : ∀ t ∈ A.flatMap Kid.all ++ us2 ++ B.flatMap Kid.all, ¬ Rest t := by
     intro t ht
     simp only [List.mem_append] at ht
     rcases ht with (ht | ht) | ht
     ·exact hRA t ht
     ·exact (hx2 t ht).2.2
     ·exact hRB t ht
    rcases finish (Rest := Rest) (D := D) (s := s2) (h := h) (A := A) (B := B) ok2 (um := us2) hL2 hN3 hR3 hA2 hB2 t2 (by omega) (by omega) with e4 | ⟨q,s4,us4,e4,l4,t4,ok4,n4,x4,o4,r4⟩
    ·left; rw [e4]; rfl
    ·right
     rw [e4,Res.ok_bind]
     have l5 : 1 ≤ q.length ∧ q.length ≤ 2 := by rw [l4]; split <;> omega
     refine ⟨_,s4,us4,rfl, ?_, ?_,n4, ?_, ?_, ?_, ?_,by omega⟩
     ·rw [hRest] at ok4; exact ok4
     ·rw [hop]; exact t4
     ·rw [hRest] at x4; exact x4
     ·intro t ht
      have ht' : Rest t := by rw [hRest]; exact ht
      exact (o4 t ht').trans (hRc t ht')
     ·simp only [Node.size,List.length_append,List.length_map,List.length_cons]; omega
     ·simp only [Node.size,List.length_append,List.length_map,List.length_cons]; omega
end
end
section
section
variable {V : Type}
def WT (M : Nat → Option (Node V)) (root : Nat) (es : List (Key × V)) (us : List Nat) : Prop :=
 (root = 0 ∧ es = [] ∧ us = []) ∨ (root ≠ 0 ∧ ∃ h nd u,M root = some nd ∧ Tre M h nd es u ∧ us = root :: u ∧ nd.size ≤ nd.most ∧ 1 ≤ nd.size ∧ (h = 0 ∨ 2 ≤ nd.size))
theorem WT.congr {M M' : Nat → Option (Node V)} {root : Nat} {es : List (Key × V)} {us : List Nat} (h : WT M root es us) (e : ∀ t ∈ us,M' t = M t) : WT M' root es us := by
 rcases h with h | ⟨h0,h,nd,u,a,b,rfl,c⟩
 ·exact .inl h
 ·exact .inr ⟨h0,h,nd,u,(e _ List.mem_cons_self).trans a,tre_congr h b fun t ht => e t (List.mem_cons_of_mem _ ht),rfl,c⟩
theorem rich_size {nd : Node V} (h : nd.poor = false) : 5 ≤ nd.size := by
 simp only [Node.poor,decide_eq_false_iff_not] at h
 rcases nd.most_cases with e | e <;> omega
theorem plant_one {n : Nat} {U L : Nat → Prop} {D : Nat → Option (Node V)} {s : CS V} {h : Nat} {nd : Node V} {es : List (Key × V)} {us : List Nat} (f : Nat) (ok : Ok n U L s) (hL : ∀ t,L t ↔ t ∈ us) (tr : Tre (cur D s) h nd es us) (hn : us.Nodup) (h1 : nd.size ≤ nd.most) (h2 : 1 ≤ nd.size) (h3 : h = 0 ∨ 2 ≤ nd.size) :
  plantF (f + 1) s nd = .space ∨ ∃ root s' us',plantF (f + 1) s nd = .ok (root,s') ∧ Ok n U (fun t => t ∈ us') s' ∧ WT (cur D s') root es us' ∧ us'.Nodup ∧ s'.reads = s.reads := by
 have hp : nd.parts = [nd] := by simp only [Node.parts]; rw [if_neg (by omega),if_pos h1]
 have hpl : plantF (f + 1) s nd = (keepL [nd] s).bind (rowRoot (plantF f)) := by
  rw [plant_unf,hp]
  intro c hc
  subst hc
  rcases h3 with h3 | h3
  ·subst h3; cases tr.1
  ·simp [Node.size] at h3
 rw [hpl]
 simp only [keepL]
 rcases keep1_ok D ok nd with e | ⟨sec,s1,e,k1,k2,k3,k4,k5⟩
 ·left; rw [e]; rfl
 ·right
  rw [e]
  have hne : ∀ t ∈ us,t ≠ sec := fun t ht e => k1 ((hL sec).2 (e ▸ ht))
  refine ⟨sec,s1,sec :: us,rfl,k2.congr fun t => ?_, .inr ⟨?_,h,nd,us,k3,tre_congr h tr fun t ht => k4 t (hne t ht),rfl,h1,h2,h3⟩,List.nodup_cons.2 ⟨fun g => hne sec g rfl,hn⟩,k5⟩
  ·rw [hL t,List.mem_cons]; exact ⟨fun g => g.elim .inr .inl,fun g => g.elim .inr .inl⟩
  ·have := k2.inL sec (.inr rfl); omega
theorem plant_ok {n : Nat} {U L : Nat → Prop} {D : Nat → Option (Node V)} {s : CS V} {h : Nat} {nd : Node V} {es : List (Key × V)} {us : List Nat} (ok : Ok n U L s) (hL : ∀ t,L t ↔ t ∈ us) (tr : Tre (cur D s) h nd es us) (hn : us.Nodup) (h1 : nd.size ≤ nd.most + 1) (h2 : h = 0 ∨ 1 ≤ nd.size) :
  plantF 2 s nd = .space ∨ ∃ root s' us',plantF 2 s nd = .ok (root,s') ∧ Ok n U (fun t => t ∈ us') s' ∧ WT (cur D s') root es us' ∧ us'.Nodup ∧ s'.reads = s.reads := by
 by_cases hsz : nd.size = 0
 ·-- nothing is left
  have h0 : h = 0 := by rcases h2 with h2 | h2 <;> omega
  subst h0
  obtain ⟨rfl,rfl⟩ := tr
  have he : es = [] := List.length_eq_zero_iff.1 hsz
  subst he
  right
  exact ⟨0,s, [],rfl,ok.congr fun t => by rw [hL t], .inl ⟨rfl,rfl,rfl⟩,by simp,rfl⟩
 ·by_cases hone : h ≠ 0 ∧ nd.size = 1
  ·obtain ⟨hh,hs⟩ := hone
   obtain ⟨h,rfl⟩ : ∃ g,h = g + 1 := ⟨h - 1,by omega⟩
   obtain ⟨ks,rfl,hk,rfl,rfl⟩ := tre_succ.1 tr
   simp only [Node.size,List.length_map] at hs
   obtain ⟨c,rfl⟩ := List.length_eq_one_iff.1 hs
   have kc := hk c (by simp)
   have hz := rich_size kc.rich
   have hin := ok.inL c.sec ((hL _).2 (by simp))
   right
   refine ⟨c.sec,s,c.all,rfl,ok.congr fun t => by rw [hL t]; simp, .inr ⟨by omega,h,c.nd,c.us,kc.at_, ?_,rfl,kc.fits,by omega, .inr (by omega)⟩,by simpa using hn,rfl⟩
   simpa using kc.tre
  ·have h3 : h = 0 ∨ 2 ≤ nd.size := by
    by_cases e : h = 0
    ·exact .inl e
    ·right
     have : ¬ nd.size = 1 := fun g => hone ⟨e,g⟩
     omega
   by_cases hf : nd.size ≤ nd.most
   ·exact plant_one 1 ok hL tr hn hf (by omega) h3
   ·-- two parts,and a new root above them
    have hpl : plantF 2 s nd = (keepL nd.parts s).bind (rowRoot (plantF 1)) := plant_unf 1 s nd fun c hc => by
     subst hc
     simp [Node.size,Node.most] at hf
    have hmc := nd.most_cases
    rcases keep_ok D ok tr (fun t ht => (hL t).2 ht) hn (by omega) (by omega) with e | ⟨ks,s1,e,k0,k1,k2,k3,k4,k5,k8,k6,k7⟩
    ·left; rw [hpl,e]; rfl
    ·rw [if_neg hf] at k0
     have hq : plantF 2 s nd = plantF 1 s1 (.branch (ks.map Kid.pr)) := by
      rw [hpl,e,Res.ok_bind]
      match ks,k0 with
      | [a,b],_ => rfl
     rw [hq]
     have t1 : Tre (cur D s1) (h + 1) (.branch (ks.map Kid.pr)) es (ks.flatMap Kid.all) := tre_succ.2 ⟨ks,rfl,k1,k2.symm,rfl⟩
     have hL1 : ∀ t,(L t ∨ t ∈ ks.flatMap Kid.all) ↔ t ∈ ks.flatMap Kid.all := fun t => by rw [hL t]; exact ⟨fun g => g.elim (k8 t) id, .inr⟩
     rcases plant_one 0 k3 hL1 t1 k4 (by simp [Node.size,Node.most]; omega) (by simp [Node.size]; omega) (.inr (by simp [Node.size]; omega)) with g | ⟨root,s',us',g1,g2,g3,g4,g5⟩
     ·exact .inl g
     ·exact .inr ⟨root,s',us',g1,g2,g3,g4,by rw [g5,k7]⟩
theorem sum_kids {a : Nat} {M : Nat → Option (Node V)} {h : Nat} : ∀ (ks : List (Kid V)),(∀ c ∈ ks,a ≤ c.es.length) → a * ks.length ≤ (ks.flatMap Kid.es).length
 | [],_ => by simp
 | c :: ks,hk => by
  have := sum_kids (a := a) (M := M) (h := h) ks fun d hd => hk d (List.mem_cons_of_mem _ hd)
  have := hk c List.mem_cons_self
  simp only [List.flatMap_cons,List.length_append,List.length_cons]
  rw [Nat.mul_add]; omega
theorem tre_many {M : Nat → Option (Node V)} : ∀ (h : Nat) {nd : Node V} {es : List (Key × V)} {us : List Nat},Tre M h nd es us → nd.poor = false → 5 * 7 ^ h ≤ es.length
 | 0,nd,es,us,tr,hp => by
  obtain ⟨rfl,_⟩ := tr
  have := rich_size hp
  simp only [Node.size] at this
  omega
 | h + 1,nd,es,us,tr,hp => by
  obtain ⟨ks,rfl,hk,rfl,rfl⟩ := tre_succ.1 tr
  simp only [Node.poor,Node.size,Node.most,decide_eq_false_iff_not,List.length_map,Nat.not_lt] at hp
  have := sum_kids (a := 5 * 7 ^ h) (M := M) (h := h) ks fun c hc => tre_many h (hk c hc).tre (hk c hc).rich
  have h2 : 5 * 7 ^ h * 7 ≤ 5 * 7 ^ h * ks.length := Nat.mul_le_mul_left _ hp
  rw [Nat.pow_succ]
  omega
theorem tre_high {M : Nat → Option (Node V)} {h : Nat} {nd : Node V} {es : List (Key × V)} {us : List Nat} (tr : Tre M (h + 1) nd es us) (h2 : 2 ≤ nd.size) : 10 * 7 ^ h ≤ es.length := by
 obtain ⟨ks,rfl,hk,rfl,rfl⟩ := tre_succ.1 tr
 simp only [Node.size,List.length_map] at h2
 have := sum_kids (a := 5 * 7 ^ h) (M := M) (h := h) ks fun c hc => tre_many h (hk c hc).tre (hk c hc).rich
 have h2 : 5 * 7 ^ h * 2 ≤ 5 * 7 ^ h * ks.length := Nat.mul_le_mul_left _ h2
 omega
theorem kids_secs : ∀ (ks : List (Kid V)),(∀ c ∈ ks, 4 * (c.us.length + 1) + 1 ≤ c.es.length) → 4 * (ks.flatMap Kid.all).length + ks.length ≤ (ks.flatMap Kid.es).length
 | [],_ => by simp
 | c :: ks,hk => by
  have := kids_secs ks fun d hd => hk d (List.mem_cons_of_mem _ hd)
  have := hk c List.mem_cons_self
  simp only [List.flatMap_cons,List.length_append,List.length_cons]
  omega
theorem tre_secs {M : Nat → Option (Node V)} : ∀ (h : Nat) {nd : Node V} {es : List (Key × V)} {us : List Nat},Tre M h nd es us → 4 * us.length ≤ es.length ∧ (nd.poor = false → 4 * (us.length + 1) + 1 ≤ es.length)
 | 0,nd,es,us,tr => by
  obtain ⟨rfl,rfl⟩ := tr
  refine ⟨by simp,fun hp => ?_⟩
  have := rich_size hp
  simp only [Node.size] at this
  simp only [List.length_nil]
  omega
 | h + 1,nd,es,us,tr => by
  obtain ⟨ks,rfl,hk,rfl,rfl⟩ := tre_succ.1 tr
  have := kids_secs ks fun c hc => (tre_secs h (hk c hc).tre).2 (hk c hc).rich
  simp only [Node.poor,Node.size,Node.most,decide_eq_false_iff_not,List.length_map]
  omega
theorem WT.secs {M : Nat → Option (Node V)} {root : Nat} {es : List (Key × V)} {us : List Nat} (h : WT M root es us) : 4 * us.length ≤ es.length + 4 := by
 rcases h with ⟨_,rfl,rfl⟩ | ⟨_,h,nd,u,_,tr,rfl,_⟩
 ·simp
 ·have := (tre_secs h tr).1
  simp; omega
noncomputable def changeF (D : Nat → Option (Node V)) (k : Key) (op : List (Key × V) → List (Key × V)) (f : Nat) (s : CS V) (root : Nat) : Res (Nat × CS V) := (editF D k op f s root).bind fun x => plantF 2 x.2 x.1
theorem change_ok {n : Nat} {U : Nat → Prop} {D : Nat → Option (Node V)} {k : Key} {op : List (Key × V) → List (Key × V)} (ho : OpOk k op) {s : CS V} {root : Nat} {es : List (Key × V)} {us : List Nat}
  (ok : Ok n U (fun t => t ∈ us) s) (wt : WT (cur D s) root es us) (hn : us.Nodup) (hr : Rising es) :
  ∃ f,(f = 1 ∨ ∃ g,f = g + 2 ∧ 10 * 7 ^ g ≤ es.length) ∧ (changeF D k op f s root = .space ∨ ∃ root' s' us',changeF D k op f s root = .ok (root',s') ∧ Ok n U (fun t => t ∈ us') s' ∧ WT (cur D s') root' (op es) us' ∧ us'.Nodup ∧ s'.reads ≤ s.reads + 2 * f) := by
 rcases wt with ⟨rfl,rfl,rfl⟩ | ⟨h0,h,nd,u,hc,tr,rfl,w1,w2,w3⟩
 ·refine ⟨1, .inl rfl, ?_⟩
  have he : editF D k op 1 s 0 = .ok (.leaf (op []),s) := by
   simp only [editF,takeF,if_pos,Res.ok_bind,if_pos Rising.nil]
  rw [changeF,he,Res.ok_bind]
  have hl := ho.up [] Rising.nil
  rcases plant_ok (D := D) ok (fun t => Iff.rfl) (h := 0) (nd := .leaf (op [])) (es := op []) ⟨rfl,rfl⟩ hn (by simp [Node.size,Node.most] at hl ⊢; omega) (.inl rfl) with g | ⟨root,s',us',g1,g2,g3,g4,g5⟩
  ·exact .inl g
  ·exact .inr ⟨root,s',us',g1,g2,g3,g4,by omega⟩
 ·refine ⟨h + 1, ?_, ?_⟩
  ·cases h with
   | zero => exact .inl rfl
   | succ h => exact .inr ⟨h,rfl,tre_high tr (w3.resolve_left (by omega))⟩
  ·rw [changeF]
   rcases edit_ok ho h _ s root nd es u ok hc tr (fun t ht => ht) hn hr w3 with e | ⟨nd',s',us',e,k1,k2,k3,k4,k5,k6,k7,k8⟩
   ·left; rw [e]; rfl
   ·rw [e,Res.ok_bind]
    have hm : nd'.most = nd.most := by
     cases h with
     | zero => rw [k2.1,tr.1]; rfl
     | succ h => obtain ⟨ka,ea,_⟩ := k2; obtain ⟨kb,eb,_⟩ := tr; rw [ea,eb]; rfl
    have w4 : h = 0 ∨ 1 ≤ nd'.size := by
     rcases w3 with w3 | w3
     ·exact .inl w3
     ·right; omega
    rcases plant_ok k1 (fun t => ⟨fun g => g.elim (fun a => absurd a.1 a.2) id, .inr⟩) k2 k3 (by omega) w4 with g | ⟨root',s2,us2,g1,g2,g3,g4,g5⟩
    ·exact .inl g
    ·exact .inr ⟨root',s2,us2,g1,g2,g3,g4,by omega⟩
theorem takeF_free {D : Nat → Option (Node V)} {s : CS V} {sec : Nat} {x : Node V × CS V} (h : takeF D s sec = .ok x) : s.free.length ≤ x.2.free.length ∧ x.2.puts = s.puts := by
 unfold takeF at h
 split at h
 ·cases h; exact ⟨Nat.le_refl _,rfl⟩
 ·split at h
  ·cases h; exact ⟨by simp,rfl⟩
  ·split at h
   ·cases h; exact ⟨Nat.le_refl _,rfl⟩
   ·cases h
theorem takeF_space {D : Nat → Option (Node V)} {s : CS V} {sec : Nat} : takeF D s sec ≠ .space := by
 unfold takeF
 split
 ·intro h; cases h
 ·split
  ·intro h; cases h
  ·split
   ·intro h; cases h
   ·intro h; cases h
theorem keepL_free : ∀ (ps : List (Node V)) (s : CS V),(keepL ps s = .space → s.free.length < ps.length) ∧ ∀ x,keepL ps s = .ok x → x.2.free.length + ps.length = s.free.length ∧ x.2.puts = s.puts + ps.length
 | [],s => ⟨fun h => (by cases h),fun x h => (by cases h; exact ⟨rfl,rfl⟩)⟩
 | p :: ps,s => by
  simp only [keepL,keep1]
  cases hg : s.free.getLast? with
  | none =>
   have : s.free = [] := List.getLast?_eq_none_iff.1 hg
   refine ⟨fun _ => (by rw [this]; simp),fun x h => (by cases h)⟩
  | some sec =>
   have hne : s.free ≠ [] := fun e => by rw [e] at hg; cases hg
   have hl := List.length_pos_iff.2 hne
   simp only [Res.ok_bind]
   obtain ⟨i1,i2⟩ := keepL_free ps { s with free := s.free.dropLast,made := upd2 s.made sec (some p),puts := s.puts + 1 }
   simp only [List.length_dropLast] at i1 i2
   cases hk : keepL ps { s with free := s.free.dropLast,made := upd2 s.made sec (some p),puts := s.puts + 1 } with
   | ok y =>
    rw [Res.ok_bind]
    have := i2 y hk
    refine ⟨fun h => (by cases h),fun x h => (by cases h; simp only [List.length_cons]; omega)⟩
   | space => exact ⟨fun _ => (by have := i1 hk; simp only [List.length_cons]; omega),fun x h => (by cases h)⟩
   | bad => exact ⟨fun h => (by cases h),fun x h => (by cases h)⟩
theorem parts_length (n : Node V) : n.parts.length ≤ 2 := by
 unfold Node.parts
 split
 ·simp
 ·split <;> simp
theorem editF_free {D : Nat → Option (Node V)} {k : Key} {op : List (Key × V) → List (Key × V)} : ∀ (f : Nat) (s : CS V) (sec : Nat),(editF D k op (f + 1) s sec = .space → s.free.length < 2 * f) ∧ ∀ x,editF D k op (f + 1) s sec = .ok x → s.free.length ≤ x.2.free.length + 2 * f ∧ x.2.puts ≤ s.puts + 2 * f := by
 have keep : ∀ (nd : Node V) (s : CS V) (g : List (Key × Nat) → Node V),((keepL nd.parts s).bind (fun q => Res.ok (g q.1,q.2)) = .space → s.free.length < 2) ∧ ∀ x,(keepL nd.parts s).bind (fun q => Res.ok (g q.1,q.2)) = .ok x → s.free.length ≤ x.2.free.length + 2 ∧ x.2.puts ≤ s.puts + 2 := fun nd s g => by
  have hp := parts_length nd
  obtain ⟨i1,i2⟩ := keepL_free nd.parts s
  cases hk : keepL nd.parts s with
  | ok y =>
   have := i2 y hk
   exact ⟨fun h => (by cases h),fun x h => (by cases h; simp only; omega)⟩
  | space => exact ⟨fun _ => (by have := i1 hk; omega),fun x h => (by cases h)⟩
  | bad => exact ⟨fun h => (by cases h),fun x h => (by cases h)⟩
 intro f
 induction f with
 | zero =>
  intro s sec
  simp only [editF]
  cases ht : takeF D s sec with
  | space => exact absurd ht takeF_space
  | bad => exact ⟨fun h => (by cases h),fun x h => (by cases h)⟩
  | ok y =>
   have := takeF_free ht
   rw [Res.ok_bind]
   split
   ·split
    ·exact ⟨fun h => (by cases h),fun x h => (by cases h; simp only; omega)⟩
    ·exact ⟨fun h => (by cases h),fun x h => (by cases h)⟩
   ·split
    ·split
     ·exact ⟨fun h => (by cases h),fun x h => (by cases h)⟩
     ·exact ⟨fun h => (by cases h),fun x h => (by cases h)⟩
    ·exact ⟨fun h => (by cases h),fun x h => (by cases h)⟩
 | succ f ih =>
  intro s sec
  rw [editF]
  cases ht : takeF D s sec with
  | space => exact absurd ht takeF_space
  | bad => exact ⟨fun h => (by cases h),fun x h => (by cases h)⟩
  | ok y =>
   have h1 := takeF_free ht
   rw [Res.ok_bind]
   split
   ·split
    ·exact ⟨fun h => (by cases h),fun x h => (by cases h; simp only; omega)⟩
    ·exact ⟨fun h => (by cases h),fun x h => (by cases h)⟩
   ·split
    ·split
     ·exact ⟨fun h => (by cases h),fun x h => (by cases h)⟩
     ·rename_i c _
      obtain ⟨i1,i2⟩ := ih y.2 c.2
      cases he : editF D k op (f + 1) y.2 c.2 with
      | space => exact ⟨fun _ => (by have := i1 he; omega),fun x h => (by cases h)⟩
      | bad => exact ⟨fun h => (by cases h),fun x h => (by cases h)⟩
      | ok z =>
       have h2 := i2 z he
       rw [Res.ok_bind]
       split
       ·split
        ·split
         ·exact ⟨fun h => (by cases h),fun x h => (by cases h)⟩
         ·rename_i a _
          cases ht2 : takeF D z.2 a.2 with
          | space => exact absurd ht2 takeF_space
          | bad => exact ⟨fun h => (by cases h),fun x h => (by cases h)⟩
          | ok v =>
           have h3 := takeF_free ht2
           rw [Res.ok_bind]
           split
           ·obtain ⟨k1,k2⟩ := keep (v.1.join z.1) v.2 (fun q => .branch (List.take _ _ ++ q ++ List.drop _ _))
            exact ⟨fun h => (by have := k1 h; omega),fun x h => (by have := k2 x h; omega)⟩
           ·exact ⟨fun h => (by cases h),fun x h => (by cases h)⟩
        ·split
         ·exact ⟨fun h => (by cases h),fun x h => (by cases h)⟩
         ·rename_i a _
          cases ht2 : takeF D z.2 a.2 with
          | space => exact absurd ht2 takeF_space
          | bad => exact ⟨fun h => (by cases h),fun x h => (by cases h)⟩
          | ok v =>
           have h3 := takeF_free ht2
           rw [Res.ok_bind]
           split
           ·obtain ⟨k1,k2⟩ := keep (z.1.join v.1) v.2 (fun q => .branch (List.take _ _ ++ q ++ List.drop _ _))
            exact ⟨fun h => (by have := k1 h; omega),fun x h => (by have := k2 x h; omega)⟩
           ·exact ⟨fun h => (by cases h),fun x h => (by cases h)⟩
       ·obtain ⟨k1,k2⟩ := keep z.1 z.2 (fun q => .branch (List.take _ _ ++ q ++ List.drop _ _))
        exact ⟨fun h => (by have := k1 h; omega),fun x h => (by have := k2 x h; omega)⟩
    ·exact ⟨fun h => (by cases h),fun x h => (by cases h)⟩
theorem plantF_free : ∀ (f : Nat) (s : CS V) (nd : Node V),(plantF f s nd = .space → s.free.length < 2 * f) ∧ ∀ x,plantF f s nd = .ok x → s.free.length ≤ x.2.free.length + 2 * f ∧ x.2.puts ≤ s.puts + 2 * f
 | 0,s,nd => ⟨fun h => (by cases h),fun x h => (by cases h)⟩
 | f + 1,s,nd => by
  by_cases hc : ∃ c,nd = .branch [c]
  ·obtain ⟨c,rfl⟩ := hc
   exact ⟨fun h => (by cases h),fun x h => (by cases h; simp only; omega)⟩
  ·rw [plant_unf f s nd fun c e => hc ⟨c,e⟩]
   have hp := parts_length nd
   obtain ⟨i1,i2⟩ := keepL_free nd.parts s
   cases hk : keepL nd.parts s with
   | space => exact ⟨fun _ => (by have := i1 hk; omega),fun x h => (by cases h)⟩
   | bad => exact ⟨fun h => (by cases h),fun x h => (by cases h)⟩
   | ok q =>
    have h1 := i2 q hk
    rw [Res.ok_bind]
    unfold rowRoot
    split
    ·exact ⟨fun h => (by cases h),fun x h => (by cases h; simp only; omega)⟩
    ·exact ⟨fun h => (by cases h),fun x h => (by cases h; simp only; omega)⟩
    ·obtain ⟨j1,j2⟩ := plantF_free f q.2 (.branch q.1)
     exact ⟨fun h => (by have := j1 h; omega),fun x h => (by have := j2 x h; omega)⟩
theorem changeF_free {D : Nat → Option (Node V)} {k : Key} {op : List (Key × V) → List (Key × V)} (f : Nat) (s : CS V) (root : Nat) : (changeF D k op (f + 1) s root = .space → s.free.length < 2 * f + 4) ∧ ∀ x,changeF D k op (f + 1) s root = .ok x → s.free.length ≤ x.2.free.length + 2 * f + 4 ∧ x.2.puts ≤ s.puts + 2 * f + 4 := by
 rw [changeF]
 obtain ⟨i1,i2⟩ := editF_free (D := D) (k := k) (op := op) f s root
 cases he : editF D k op (f + 1) s root with
 | space => exact ⟨fun _ => (by have := i1 he; omega),fun x h => (by cases h)⟩
 | bad => exact ⟨fun h => (by cases h),fun x h => (by cases h)⟩
 | ok y =>
  have h1 := i2 y he
  rw [Res.ok_bind]
  obtain ⟨j1,j2⟩ := plantF_free 2 y.2 y.1
  exact ⟨fun h => (by have := j1 h; omega),fun x h => (by have := j2 x h; omega)⟩
end
end
section
section
variable {V : Type}
theorem mem_ins {k : Key} {v : V} {r : List (Key × V)} {x : Key × V} : x ∈ ins k v r ↔ (x ∈ r ∧ x.1 ≠ k) ∨ x = (k,v) := by
 unfold ins
 simp only [List.mem_append,List.mem_cons,mem_lo,mem_hi]
 constructor
 ·rintro (⟨a,b⟩ | a | ⟨a,b⟩)
  ·exact .inl ⟨a,fun e => klt_irrefl k (e ▸ b)⟩
  ·exact .inr a
  ·exact .inl ⟨a,fun e => klt_irrefl k (e ▸ b)⟩
 ·rintro (⟨a,b⟩ | a)
  ·rcases klt_tri x.1 k with g | g | g
   ·exact .inl ⟨a,g⟩
   ·exact absurd g b
   ·exact .inr (.inr ⟨a,g⟩)
  ·exact .inr (.inl a)
theorem mem_del {k : Key} {r : List (Key × V)} {x : Key × V} : x ∈ del k r ↔ x ∈ r ∧ x.1 ≠ k := by
 unfold del
 simp only [List.mem_append,mem_lo,mem_hi]
 constructor
 ·rintro (⟨a,b⟩ | ⟨a,b⟩)
  ·exact ⟨a,fun e => klt_irrefl k (e ▸ b)⟩
  ·exact ⟨a,fun e => klt_irrefl k (e ▸ b)⟩
 ·rintro ⟨a,b⟩
  rcases klt_tri x.1 k with g | g | g
  ·exact .inl ⟨a,g⟩
  ·exact absurd g b
  ·exact .inr ⟨a,g⟩
theorem rising_ext : ∀ {a b : List (Key × V)},Rising a → Rising b → (∀ x,x ∈ a ↔ x ∈ b) → a = b
 | [], [],_,_,_ => rfl
 | [],y :: b,_,_,h => by have := (h y).2 List.mem_cons_self; cases this
 | x :: a, [],_,_,h => by have := (h x).1 List.mem_cons_self; cases this
 | x :: a,y :: b,ha,hb,h => by
  obtain ⟨ha1,ha2⟩ := Rising.cons.1 ha
  obtain ⟨hb1,hb2⟩ := Rising.cons.1 hb
  have e : x = y := by
   have h1 := (h x).1 List.mem_cons_self
   have h2 := (h y).2 List.mem_cons_self
   rcases List.mem_cons.1 h1 with g1 | g1
   ·exact g1
   ·rcases List.mem_cons.1 h2 with g2 | g2
    ·exact g2.symm
    ·exact absurd (hb1 x g1) (klt_asymm (ha1 y g2))
  subst e
  rw [rising_ext ha2 hb2 fun z => ?_]
  have hz := h z
  simp only [List.mem_cons] at hz
  constructor
  ·intro g
   rcases hz.1 (.inr g) with e | g2
   ·subst e; exact absurd (ha1 z g) (klt_irrefl _)
   ·exact g2
  ·intro g
   rcases hz.2 (.inr g) with e | g2
   ·subst e; exact absurd (hb1 z g) (klt_irrefl _)
   ·exact g2
def insAll (l : List (Key × V)) (r : List (Key × V)) : List (Key × V) := l.foldl (fun r e => ins e.1 e.2 r) r
def delAll (l : List (Key × V)) (r : List (Key × V)) : List (Key × V) := l.foldl (fun r e => del e.1 r) r
theorem rising_insAll : ∀ (l : List (Key × V)) {r : List (Key × V)},Rising r → Rising (insAll l r)
 | [],_,h => h
 | _ :: l,_,h => rising_insAll l (rising_ins h)
theorem rising_delAll : ∀ (l : List (Key × V)) {r : List (Key × V)},Rising r → Rising (delAll l r)
 | [],_,h => h
 | _ :: l,_,h => rising_delAll l (rising_del h)
theorem mem_delAll : ∀ (l : List (Key × V)) {r : List (Key × V)} {x : Key × V},x ∈ delAll l r ↔ x ∈ r ∧ ∀ e ∈ l,x.1 ≠ e.1
 | [],_,_ => by simp [delAll]
 | e :: l,r,x => by
  show x ∈ delAll l (del e.1 r) ↔ _
  rw [mem_delAll l,mem_del]
  simp only [List.mem_cons,forall_eq_or_imp]
  constructor
  ·rintro ⟨⟨a,b⟩,c⟩; exact ⟨a,b,c⟩
  ·rintro ⟨a,b,c⟩; exact ⟨⟨a,b⟩,c⟩
theorem mem_insAll : ∀ (l : List (Key × V)) {r : List (Key × V)} {x : Key × V},(l.Pairwise fun a b => a.1 ≠ b.1) → (x ∈ insAll l r ↔ (x ∈ r ∧ ∀ e ∈ l,x.1 ≠ e.1) ∨ x ∈ l)
 | [],_,_,_ => by simp [insAll]
 | e :: l,r,x,hp => by
  obtain ⟨h1,h2⟩ := List.pairwise_cons.1 hp
  show x ∈ insAll l (ins e.1 e.2 r) ↔ _
  rw [mem_insAll l h2,mem_ins]
  simp only [List.mem_cons,forall_eq_or_imp]
  constructor
  ·rintro (⟨⟨a,b⟩ | a,c⟩ | a)
   ·exact .inl ⟨a,b,c⟩
   ·exact .inr (.inl a)
   ·exact .inr (.inr a)
  ·rintro (⟨a,b,c⟩ | a | a)
   ·exact .inl ⟨.inl ⟨a,b⟩,c⟩
   ·subst a; exact .inl ⟨.inr rfl,fun y hy => h1 y hy⟩
   ·exact .inr a
abbrev NUM : Int := 73014444032
def ents (pl : V → List Nat) (id : Int) (v : V) : List (Key × V) := ((NUM,id),v) :: (pl v).map fun p : Nat => (((p : Int),id),v)
structure PlOk (pl : V → List Nat) (v : V) : Prop where
 nd : (pl v).Nodup
 lt : ∀ p ∈ pl v,p < 73014444032
 few : (pl v).length ≤ 4
 one : 1 ≤ (pl v).length
theorem mem_ents {pl : V → List Nat} {id : Int} {v : V} {x : Key × V} : x ∈ ents pl id v ↔ x = ((NUM,id),v) ∨ ∃ p ∈ pl v,x = (((p : Int),id),v) := by
 simp only [ents,List.mem_cons,List.mem_map]
 constructor
 ·rintro (a | ⟨p,h,rfl⟩)
  ·exact .inl a
  ·exact .inr ⟨p,h,rfl⟩
 ·rintro (a | ⟨p,h,rfl⟩)
  ·exact .inl a
  ·exact .inr ⟨p,h,rfl⟩
theorem ents_id {pl : V → List Nat} {id : Int} {v : V} {x : Key × V} (h : x ∈ ents pl id v) : x.1.2 = id ∧ x.2 = v := by
 rcases mem_ents.1 h with rfl | ⟨p,_,rfl⟩ <;> exact ⟨rfl,rfl⟩
theorem ents_apart {pl : V → List Nat} {id : Int} {v : V} (h : PlOk pl v) : (ents pl id v).Pairwise fun a b => a.1 ≠ b.1 := by
 refine List.pairwise_cons.2 ⟨fun y hy => ?_, ?_⟩
 ·obtain ⟨p,hp,rfl⟩ := List.mem_map.1 hy
  have := h.lt p hp
  simp only [ne_eq,Prod.mk.injEq,and_true,NUM]
  omega
 ·rw [List.pairwise_map]
  exact h.nd.imp fun hab e => hab (by simp only [Prod.mk.injEq,and_true] at e; omega)
structure Idx (pl : V → List Nat) (tb : List (Int × V)) (es : List (Key × V)) : Prop where
 ris : Rising es
 mem : ∀ x,x ∈ es ↔ ∃ t ∈ tb,x ∈ ents pl t.1 t.2
 up : tb.Pairwise fun a b => a.1 < b.1
 id : ∀ t ∈ tb, 0 ≤ t.1 ∧ t.1 ≤ 4611686018427387904
 pl : ∀ t ∈ tb,PlOk pl t.2
def tget (id : Int) (tb : List (Int × V)) : Option V := (tb.find? fun t => t.1 == id).map (·.2)
def tdel (id : Int) (tb : List (Int × V)) : List (Int × V) := tb.filter fun t => t.1 != id
def tput (id : Int) (v : V) (tb : List (Int × V)) : List (Int × V) := (tb.filter fun t => decide (t.1 < id)) ++ (id,v) :: tb.filter fun t => decide (id < t.1)
theorem mem_tdel {id : Int} {tb : List (Int × V)} {t : Int × V} : t ∈ tdel id tb ↔ t ∈ tb ∧ t.1 ≠ id := by simp [tdel]
theorem mem_tput {id : Int} {v : V} {tb : List (Int × V)} {t : Int × V} : t ∈ tput id v tb ↔ (t ∈ tb ∧ t.1 ≠ id) ∨ t = (id,v) := by
 simp only [tput,List.mem_append,List.mem_cons,List.mem_filter,decide_eq_true_eq]
 constructor
 ·rintro (⟨a,b⟩ | a | ⟨a,b⟩)
  ·exact .inl ⟨a,by omega⟩
  ·exact .inr a
  ·exact .inl ⟨a,by omega⟩
 ·rintro (⟨a,b⟩ | a)
  ·rcases Int.lt_or_gt_of_ne b with g | g
   ·exact .inl ⟨a,g⟩
   ·exact .inr (.inr ⟨a,g⟩)
  ·exact .inr (.inl a)
theorem up_tdel {id : Int} {tb : List (Int × V)} (h : tb.Pairwise fun a b => a.1 < b.1) : (tdel id tb).Pairwise fun a b => a.1 < b.1 := h.filter _
theorem up_tput {id : Int} {v : V} {tb : List (Int × V)} (h : tb.Pairwise fun a b => a.1 < b.1) : (tput id v tb).Pairwise fun a b => a.1 < b.1 := by
 refine List.pairwise_append.2 ⟨h.filter _,List.pairwise_cons.2 ⟨fun y hy => ?_,h.filter _⟩,fun x hx y hy => ?_⟩
 ·exact of_decide_eq_true (List.mem_filter.1 hy).2
 ·have hx := of_decide_eq_true (List.mem_filter.1 hx).2
  rcases List.mem_cons.1 hy with rfl | hy
  ·exact hx
  ·exact Int.lt_trans hx (of_decide_eq_true (List.mem_filter.1 hy).2)
theorem up_uniq {tb : List (Int × V)} (h : tb.Pairwise fun a b => a.1 < b.1) {x y : Int × V} (hx : x ∈ tb) (hy : y ∈ tb) (e : x.1 = y.1) : x = y := by
 induction tb with
 | nil => cases hx
 | cons z r ih =>
  obtain ⟨h1,h2⟩ := List.pairwise_cons.1 h
  rcases List.mem_cons.1 hx with e1 | gx
  ·rcases List.mem_cons.1 hy with e2 | gy
   ·rw [e1,e2]
   ·have := h1 y gy; rw [← e1] at this; omega
  ·rcases List.mem_cons.1 hy with e2 | gy
   ·have := h1 x gx; rw [← e2] at this; omega
   ·exact ih h2 gx gy
theorem tget_some {id : Int} {tb : List (Int × V)} (h : tb.Pairwise fun a b => a.1 < b.1) {v : V} : tget id tb = some v ↔ (id,v) ∈ tb := by
 unfold tget
 constructor
 ·intro g
  obtain ⟨t,ht,rfl⟩ := Option.map_eq_some_iff.1 g
  have h1 := List.mem_of_find?_eq_some ht
  have h2 := List.find?_some ht
  have : t.1 = id := eq_of_beq h2
  rw [← this]; exact h1
 ·intro g
  cases hf : tb.find? fun t => t.1 == id with
  | none => have := List.find?_eq_none.1 hf _ g; simp at this
  | some t =>
   have h1 := List.mem_of_find?_eq_some hf
   have h2 : t.1 = id := eq_of_beq (List.find?_some (p := fun t : Int × V => t.1 == id) hf)
   have := up_uniq h h1 g h2
   rw [this]; rfl
theorem tget_none {id : Int} {tb : List (Int × V)} : tget id tb = none ↔ ∀ t ∈ tb,t.1 ≠ id := by
 unfold tget
 rw [Option.map_eq_none_iff,List.find?_eq_none]
 simp
theorem Idx.of_mem {pl : V → List Nat} {tb : List (Int × V)} {es : List (Key × V)} (h : Idx pl tb es) {x : Key × V} (hx : x ∈ es) : (x.1.2,x.2) ∈ tb ∧ x ∈ ents pl x.1.2 x.2 := by
 obtain ⟨t,ht,hm⟩ := (h.mem x).1 hx
 obtain ⟨e1,e2⟩ := ents_id hm
 have : (x.1.2,x.2) = t := by rw [e1,e2]
 rw [this,e1,e2]; exact ⟨ht,hm⟩
theorem Idx.del {pl : V → List Nat} {tb : List (Int × V)} {es : List (Key × V)} (h : Idx pl tb es) {id : Int} {v : V} (hv : (id,v) ∈ tb) : Idx pl (tdel id tb) (delAll (ents pl id v) es) := by
 refine ⟨rising_delAll _ h.ris,fun x => ?_,up_tdel h.up,fun t ht => h.id t (mem_tdel.1 ht).1,fun t ht => h.pl t (mem_tdel.1 ht).1⟩
 rw [mem_delAll]
 constructor
 ·rintro ⟨hx,hn⟩
  obtain ⟨t,ht,hm⟩ := (h.mem x).1 hx
  refine ⟨t,mem_tdel.2 ⟨ht,fun e => ?_⟩,hm⟩
  have := up_uniq h.up ht hv e
  subst this
  exact hn x hm rfl
 ·rintro ⟨t,ht,hm⟩
  obtain ⟨ht,hne⟩ := mem_tdel.1 ht
  refine ⟨(h.mem x).2 ⟨t,ht,hm⟩,fun e he g => hne ?_⟩
  rw [← (ents_id hm).1, ← (ents_id he).1,g]
theorem Idx.put {pl : V → List Nat} {tb : List (Int × V)} {es : List (Key × V)} (h : Idx pl tb es) {id : Int} {v : V} (hn : ∀ t ∈ tb,t.1 ≠ id) (hi : 0 ≤ id ∧ id ≤ 4611686018427387904) (hp : PlOk pl v) : Idx pl (tput id v tb) (insAll (ents pl id v) es) := by
 refine ⟨rising_insAll _ h.ris,fun x => ?_,up_tput h.up,fun t ht => ?_,fun t ht => ?_⟩
 ·rw [mem_insAll _ (ents_apart hp)]
  constructor
  ·rintro (⟨hx,_⟩ | hx)
   ·obtain ⟨t,ht,hm⟩ := (h.mem x).1 hx
    exact ⟨t,mem_tput.2 (.inl ⟨ht,hn t ht⟩),hm⟩
   ·exact ⟨(id,v),mem_tput.2 (.inr rfl),hx⟩
  ·rintro ⟨t,ht,hm⟩
   rcases mem_tput.1 ht with ⟨ht,hne⟩ | rfl
   ·refine .inl ⟨(h.mem x).2 ⟨t,ht,hm⟩,fun e he g => hne ?_⟩
    rw [← (ents_id hm).1, ← (ents_id he).1,g]
   ·exact .inr hm
 ·rcases mem_tput.1 ht with ⟨ht,_⟩ | rfl
  ·exact h.id t ht
  ·exact hi
 ·rcases mem_tput.1 ht with ⟨ht,_⟩ | rfl
  ·exact h.pl t ht
  ·exact hp
theorem tput_tdel {id : Int} {v : V} {tb : List (Int × V)} : tput id v (tdel id tb) = tput id v tb := by
 unfold tput tdel
 rw [List.filter_filter,List.filter_filter]
 congr 1
 ·exact List.filter_congr fun t _ => by by_cases g : t.1 < id <;> simp [g]; omega
 ·congr 1
  exact List.filter_congr fun t _ => by by_cases g : id < t.1 <;> simp [g]; omega
theorem Idx.empty (pl : V → List Nat) : Idx pl [] [] := ⟨Rising.nil,fun x => by simp,List.Pairwise.nil,fun t ht => (by cases ht),fun t ht => (by cases ht)⟩
end
end
section
section
variable {V : Type}
def frm (k : Key) (r : List (Key × V)) : List (Key × V) := r.filter fun p => decide (¬ klt p.1 k)
theorem mem_frm {k : Key} {r : List (Key × V)} {x : Key × V} : x ∈ frm k r ↔ x ∈ r ∧ ¬ klt x.1 k := by simp [frm]
theorem rising_frm {k : Key} {r : List (Key × V)} (h : Rising r) : Rising (frm k r) := h.sub List.filter_sublist
theorem frm_append (k : Key) (a b : List (Key × V)) : frm k (a ++ b) = frm k a ++ frm k b := List.filter_append ..
theorem frm_all {k : Key} {a : List (Key × V)} (h : ∀ x ∈ a, ¬ klt x.1 k) : frm k a = a := List.filter_eq_self.2 fun x hx => decide_eq_true (h x hx)
theorem frm_none {k : Key} {a : List (Key × V)} (h : ∀ x ∈ a,klt x.1 k) : frm k a = [] := List.filter_eq_nil_iff.2 fun x hx => by simp [h x hx]
theorem lo_frm (k : Key) {r : List (Key × V)} (h : Rising r) : lo k r ++ frm k r = r := by
 obtain ⟨m,e,hm⟩ := rising_split k h
 have h1 : frm k (lo k r) = [] := frm_none fun x hx => (mem_lo.1 hx).2
 have h2 : frm k (hi k r) = hi k r := frm_all fun x hx => klt_asymm (mem_hi.1 hx).2
 have h3 : frm k m = m := by
  rcases hm with ⟨_,rfl⟩ | ⟨_,v,rfl⟩
  ·rfl
  ·exact frm_all fun x hx => by simp at hx; subst hx; exact klt_irrefl k
 have h4 : frm k r = m ++ hi k r := by
  have : frm k (lo k r ++ m ++ hi k r) = m ++ hi k r := by rw [frm_append,frm_append,h1,h2,h3]; rfl
  rwa [← e] at this
 rw [h4, ← List.append_assoc, ← e]
theorem drop_lbn_frm (k : Key) {r : List (Key × V)} (h : Rising r) : r.drop (lbn k r) = frm k r := by
 have e := lo_frm k h
 have : (lo k r ++ frm k r).drop (lbn k r) = frm k r := List.drop_left' rfl
 rwa [e] at this
theorem frm_kids {M : Nat → Option (Node V)} {h : Nat} {k : Key} {ks : List (Kid V)} (hk : ∀ c ∈ ks,KidOk M h c) (hr : Rising (ks.flatMap Kid.es)) :
  ((ks.drop (undr k (ks.map Kid.pr))).flatMap fun c => frm k c.es) = frm k (ks.flatMap Kid.es) := by
 by_cases hne : ks = []
 ·subst hne; simp [frm]
 obtain ⟨A,c,B,rfl,hi,hA,hB⟩ := undr_split k ks hk hr hne
 rw [← hi]
 have e1 : (A ++ c :: B).drop A.length = c :: B := List.drop_left' rfl
 rw [e1]
 have e2 : frm k ((A ++ c :: B).flatMap Kid.es) = (c :: B).flatMap fun c => frm k c.es := by
  rw [List.flatMap_append,frm_append,frm_none,List.nil_append]
  ·generalize c :: B = D
   induction D with
   | nil => rfl
   | cons x D ih => rw [List.flatMap_cons,frm_append,ih,List.flatMap_cons]
  ·exact fun x hx => hA x hx
 rw [e2]
def nums (tb : List (Int × V)) : List (Key × V) := tb.map fun t => ((NUM,t.1),t.2)
theorem rising_nums {tb : List (Int × V)} (h : tb.Pairwise fun a b => a.1 < b.1) : Rising (nums tb) := by
 unfold Rising nums
 rw [List.pairwise_map]
 exact h.imp fun hab => .inr ⟨rfl,hab⟩
theorem Idx.from_num {pl : V → List Nat} {tb : List (Int × V)} {es : List (Key × V)} (h : Idx pl tb es) (id : Int) : frm (NUM,id) es = nums (tb.filter fun t => decide (id ≤ t.1)) := by
 refine rising_ext (rising_frm h.ris) (rising_nums (h.up.filter _)) fun x => ?_
 rw [mem_frm]
 simp only [nums,List.mem_map,List.mem_filter,decide_eq_true_eq]
 constructor
 ·rintro ⟨hx,hk⟩
  obtain ⟨t,ht,hm⟩ := (h.mem x).1 hx
  rcases mem_ents.1 hm with rfl | ⟨p,hp,rfl⟩
  ·refine ⟨t,⟨ht, ?_⟩,rfl⟩
   simp only [klt,true_and] at hk
   omega
  ·have := (h.pl t ht).lt p hp
   simp only [klt,NUM] at hk
   omega
 ·rintro ⟨t,⟨ht,hi⟩,rfl⟩
  refine ⟨(h.mem _).2 ⟨t,ht,mem_ents.2 (.inl rfl)⟩, ?_⟩
  simp only [klt]
  omega
theorem Idx.count {pl : V → List Nat} {tb : List (Int × V)} {es : List (Key × V)} (h : Idx pl tb es) : frm (NUM, 0) es = nums tb := by
 rw [h.from_num 0,List.filter_eq_self.2 fun t ht => decide_eq_true (h.id t ht).1]
theorem Idx.find {pl : V → List Nat} {tb : List (Int × V)} {es : List (Key × V)} (h : Idx pl tb es) (id : Int) :
  (tget id tb = none ∧ (frm (NUM,id) es = [] ∨ ∃ x l,frm (NUM,id) es = x :: l ∧ x.1 ≠ (NUM,id))) ∨ ∃ v l,tget id tb = some v ∧ frm (NUM,id) es = ((NUM,id),v) :: l := by
 have hf := h.from_num id
 cases hc : tb.filter fun t => decide (id ≤ t.1) with
 | nil =>
  left
  rw [hc] at hf
  refine ⟨tget_none.2 fun t ht e => ?_, .inl hf⟩
  have := List.filter_eq_nil_iff.1 hc t ht
  simp [e] at this
 | cons t l =>
  rw [hc] at hf
  have hmem : t ∈ tb ∧ id ≤ t.1 := by
   have : t ∈ tb.filter fun t => decide (id ≤ t.1) := by rw [hc]; exact List.mem_cons_self
   simpa using this
  by_cases e : t.1 = id
  ·right
   refine ⟨t.2,nums l,(tget_some h.up).2 (by rw [← e]; exact hmem.1), ?_⟩
   rw [hf, ← e]; rfl
  ·left
   refine ⟨tget_none.2 fun t' ht' e' => ?_, .inr ⟨_,_,hf,fun g => e (by simpa using g)⟩⟩
   have h1 : t' ∈ tb.filter fun t => decide (id ≤ t.1) := by simp [ht',e']
   rw [hc] at h1
   have hp := h.up.filter fun t => decide (id ≤ t.1)
   rw [hc] at hp
   obtain ⟨hp1,_⟩ := List.pairwise_cons.1 hp
   rcases List.mem_cons.1 h1 with rfl | h1
   ·exact e e'
   ·have := hp1 t' h1; omega
section
variable (mc : Nat → Prop) (mv : V → Prop)
def Todo (es : List (Key × V)) (acc : List Int) (l : List (Key × V)) : Prop := ∀ e ∈ es, ∀ p : Nat,e.1.1 = (p : Int) → p < 73014444032 → mc p → mv e.2 → e.1.2 ∈ acc ∨ e ∈ l
def Sound (tb : List (Int × V)) (acc : List Int) : Prop := ∀ x ∈ acc, ∃ v,(x,v) ∈ tb ∧ mv v
variable {mc mv}
theorem todo_start {es : List (Key × V)} {p : Nat} (acc : List Int) (h : ∀ e ∈ es, ∀ q : Nat,e.1.1 = (q : Int) → q < 73014444032 → mc q → p ≤ q) (hi : ∀ e ∈ es, 0 ≤ e.1.2) : Todo mc mv es acc (frm ((p : Int), 0) es) := fun e he q e1 e2 e3 _ => by
 right
 refine mem_frm.2 ⟨he, ?_⟩
 have h1 := h e he q e1 e2 e3
 have h2 := hi e he
 simp only [klt]
 omega
theorem todo_leap {es l : List (Key × V)} {acc : List Int} {x : Key × V} {p : Nat} (ht : Todo mc mv es acc (x :: l)) (hr : Rising (x :: l))
  (h : ∀ e ∈ x :: l, ∀ q : Nat,e.1.1 = (q : Int) → q < 73014444032 → x.1.1 ≤ (q : Int) → mc q → p ≤ q) (hi : ∀ e ∈ es, 0 ≤ e.1.2) : Todo mc mv es acc (frm ((p : Int), 0) es) := fun e he q e1 e2 e3 e4 => by
 rcases ht e he q e1 e2 e3 e4 with g | g
 ·exact .inl g
 ·right
  refine mem_frm.2 ⟨he, ?_⟩
  have hx : x.1.1 ≤ (q : Int) := by
   rcases List.mem_cons.1 g with rfl | g2
   ·omega
   ·have := (Rising.cons.1 hr).1 e g2
    simp only [klt] at this
    omega
  have h1 := h e g q e1 e2 hx e3
  have h2 := hi e he
  simp only [klt]
  omega
theorem todo_none {es l : List (Key × V)} {acc : List Int} {x : Key × V} (ht : Todo mc mv es acc (x :: l)) (hr : Rising (x :: l))
  (h : ∀ e ∈ x :: l, ∀ q : Nat,e.1.1 = (q : Int) → q < 73014444032 → x.1.1 ≤ (q : Int) → ¬ mc q) : Todo mc mv es acc [] := fun e he q e1 e2 e3 e4 => by
 rcases ht e he q e1 e2 e3 e4 with g | g
 ·exact .inl g
 ·exfalso
  have hx : x.1.1 ≤ (q : Int) := by
   rcases List.mem_cons.1 g with rfl | g2
   ·omega
   ·have := (Rising.cons.1 hr).1 e g2
    simp only [klt] at this
    omega
  exact h e g q e1 e2 hx e3
theorem todo_num {es l : List (Key × V)} {acc : List Int} {x : Key × V} (ht : Todo mc mv es acc (x :: l)) (hr : Rising (x :: l)) (hx : x.1.1 = NUM) : Todo mc mv es acc [] :=
 todo_none ht hr fun e _ q _ e2 e3 => by rw [hx] at e3; simp only [NUM] at e3; omega
theorem todo_yes {es l : List (Key × V)} {acc : List Int} {x : Key × V} (ht : Todo mc mv es acc (x :: l)) : Todo mc mv es (acc ++ [x.1.2]) l := fun e he q e1 e2 e3 e4 => by
 rcases ht e he q e1 e2 e3 e4 with g | g
 ·exact .inl (List.mem_append_left _ g)
 ·rcases List.mem_cons.1 g with rfl | g
  ·exact .inl (by simp)
  ·exact .inr g
theorem todo_no {es l : List (Key × V)} {acc : List Int} {x : Key × V} (ht : Todo mc mv es acc (x :: l)) (hx : ¬ mv x.2) : Todo mc mv es acc l := fun e he q e1 e2 e3 e4 => by
 rcases ht e he q e1 e2 e3 e4 with g | g
 ·exact .inl g
 ·rcases List.mem_cons.1 g with rfl | g
  ·exact absurd e4 hx
  ·exact .inr g
theorem Sound.nil (tb : List (Int × V)) : Sound mv tb [] := fun x hx => (by cases hx)
theorem Sound.more {pl : V → List Nat} {tb : List (Int × V)} {es : List (Key × V)} (h : Idx pl tb es) {acc : List Int} (hs : Sound mv tb acc) {x : Key × V} (hx : x ∈ es) (hm : mv x.2) : Sound mv tb (acc ++ [x.1.2]) := fun y hy => by
 rcases List.mem_append.1 hy with hy | hy
 ·exact hs y hy
 ·simp at hy; subst hy; exact ⟨x.2,(h.of_mem hx).1,hm⟩
theorem todo_done {pl : V → List Nat} {tb : List (Int × V)} {es : List (Key × V)} (h : Idx pl tb es) {acc : List Int} (ht : Todo mc mv es acc []) (hs : Sound mv tb acc) (hc : ∀ t ∈ tb,mv t.2 → ∃ p ∈ pl t.2,mc p) (x : Int) : x ∈ acc ↔ ∃ v,(x,v) ∈ tb ∧ mv v := by
 refine ⟨hs x, ?_⟩
 rintro ⟨v,hv,hm⟩
 obtain ⟨p,hp,hmc⟩ := hc _ hv hm
 have he : (((p : Int),x),v) ∈ es := (h.mem _).2 ⟨(x,v),hv,mem_ents.2 (.inr ⟨p,hp,rfl⟩)⟩
 rcases ht _ he p rfl ((h.pl _ hv).lt p hp) hmc hm with g | g
 ·exact g
 ·cases g
end
end
end
section
def byteB (n : Int) : UInt8 := UInt8.ofNat (n % 256).toNat
theorem byteB_toNat (n : Int) : ((byteB n).toNat : Int) = n % 256 := by
 have h1 := Int.emod_nonneg n (show (256 : Int) ≠ 0 by decide)
 have h2 := Int.emod_lt_of_pos n (show (0 : Int) < 256 by decide)
 have : (n % 256).toNat < 256 := by omega
 unfold byteB
 rw [UInt8.toNat_ofNat',Nat.mod_eq_of_lt (by simpa using this)]
 omega
def numB : Nat → Int → List UInt8
 | 0,_ => []
 | s + 1,n => byteB n :: numB s (n / 256)
theorem numB_length : ∀ (s : Nat) (n : Int),(numB s n).length = s
 | 0,_ => rfl
 | s + 1,n => by simp [numB,numB_length s]
def rdN : List UInt8 → Nat
 | [] => 0
 | b :: bs => b.toNat + 256 * rdN bs
theorem rdN_lt : ∀ bs : List UInt8,rdN bs < 256 ^ bs.length
 | [] => by simp [rdN]
 | b :: bs => by
  have := rdN_lt bs
  have hb := b.toNat_lt
  simp only [rdN,List.length_cons,Nat.pow_succ]
  omega
theorem rdN_snoc : ∀ (bs : List UInt8) (b : UInt8),rdN (bs ++ [b]) = rdN bs + b.toNat * 256 ^ bs.length
 | [],b => by simp [rdN]
 | x :: bs,b => by
  simp only [List.cons_append,rdN,rdN_snoc bs b,List.length_cons,Nat.pow_succ]
  rw [Nat.mul_add, ← Nat.add_assoc,Nat.mul_comm (256 ^ _) 256, ← Nat.mul_assoc, ← Nat.mul_assoc,Nat.mul_comm 256 b.toNat]
theorem rdN_numB : ∀ (s : Nat) (n : Int),(rdN (numB s n) : Int) = n % 256 ^ s
 | 0,n => by simp [numB,rdN]
 | s + 1,n => by
  have ih := rdN_numB s (n / 256)
  have hb := byteB_toNat n
  simp only [numB,rdN,Int.natCast_add,Int.natCast_mul,ih,hb]
  rw [Int.pow_succ,Int.mul_comm (256 ^ s) 256]
  have hp : (0 : Int) < 256 ^ s := Int.pow_pos (by decide)
  have e1 := Int.emod_add_mul_ediv n 256
  have e2 := Int.emod_add_mul_ediv (n / 256) (256 ^ s)
  have h1 := Int.emod_nonneg n (show (256 : Int) ≠ 0 by decide)
  have h2 := Int.emod_lt_of_pos n (show (0 : Int) < 256 by decide)
  have h3 := Int.emod_nonneg (n / 256) (show (256 ^ s : Int) ≠ 0 by omega)
  have h4 := Int.emod_lt_of_pos (n / 256) hp
  have key : n = (n % 256 + 256 * (n / 256 % 256 ^ s)) + (256 * 256 ^ s) * (n / 256 / 256 ^ s) := by
   rw [Int.mul_assoc,Int.add_assoc, ← Int.mul_add,e2]; omega
  have hlo : 0 ≤ n % 256 + 256 * (n / 256 % 256 ^ s) := by omega
  have hhi : n % 256 + 256 * (n / 256 % 256 ^ s) < 256 * 256 ^ s := by omega
  have : n % (256 * 256 ^ s) = n % 256 + 256 * (n / 256 % 256 ^ s) := by
   conv => lhs; rw [key]
   rw [Int.add_mul_emod_self_left]
   exact Int.emod_eq_of_lt hlo hhi
  rw [this]; rfl
def I64 (n : Int) : Prop := -9223372036854775808 ≤ n ∧ n < 9223372036854775808
def w64 (n : Int) : Int := (n + 9223372036854775808) % 18446744073709551616 - 9223372036854775808
theorem w64_i64 (n : Int) : I64 (w64 n) := by unfold I64 w64; omega
theorem pow8 : (256 : Int) ^ 8 = 18446744073709551616 := by decide
theorem rd8 {n : Int} (h : I64 n) : w64 (rdN (numB 8 n)) = n := by
 rw [rdN_numB,pow8]; unfold w64; unfold I64 at h; omega
theorem rd2 {n : Nat} (h : n < 65536) : rdN (numB 2 n) = n := by
 have h1 := rdN_numB 2 n
 have : (256 : Int) ^ 2 = 65536 := by decide
 rw [this] at h1
 omega
def keyB (k : Key) : List UInt8 := numB 8 k.1 ++ numB 8 k.2
def rectB (r : Box) : List UInt8 := numB 2 r.a ++ numB 2 r.b ++ numB 2 r.c ++ numB 2 r.d
def secB (s : Nat) : List UInt8 := numB 2 s
def KeyOk (k : Key) : Prop := I64 k.1 ∧ I64 k.2
def RectOk (r : Box) : Prop := r.a < 65536 ∧ r.b < 65536 ∧ r.c < 65536 ∧ r.d < 65536
def SecOk (s : Nat) : Prop := s < 65536
theorem keyB_length (k : Key) : (keyB k).length = 16 := by simp [keyB,numB_length]
theorem rectB_length (r : Box) : (rectB r).length = 8 := by simp [rectB,numB_length]
theorem secB_length (s : Nat) : (secB s).length = 2 := by simp [secB,numB_length]
def keyR (bs : List UInt8) : Key := (w64 (rdN (bs.take 8)),w64 (rdN ((bs.drop 8).take 8)))
def rectR (bs : List UInt8) : Box := ⟨rdN (bs.take 2),rdN ((bs.drop 2).take 2),rdN ((bs.drop 4).take 2),rdN ((bs.drop 6).take 2)⟩
def sctR (bs : List UInt8) : Nat := rdN (bs.take 2)
theorem keyR_ok (bs : List UInt8) : KeyOk (keyR bs) := ⟨w64_i64 _,w64_i64 _⟩
theorem rd_take2 (bs : List UInt8) : rdN (bs.take 2) < 65536 := by
 have := rdN_lt (bs.take 2)
 have h2 : (bs.take 2).length ≤ 2 := by simp; omega
 have h3 : 256 ^ (bs.take 2).length ≤ 256 ^ 2 := Nat.pow_le_pow_right (by decide) h2
 have e : (256 : Nat) ^ 2 = 65536 := by decide
 omega
theorem rectR_ok (bs : List UInt8) : RectOk (rectR bs) := ⟨rd_take2 _,rd_take2 _,rd_take2 _,rd_take2 _⟩
theorem sctR_ok (bs : List UInt8) : SecOk (sctR bs) := rd_take2 _
theorem keyR_B {k : Key} (h : KeyOk k) (t : List UInt8) : keyR (keyB k ++ t) = k := by
 have e1 : (keyB k ++ t).take 8 = numB 8 k.1 := by rw [keyB,List.append_assoc]; exact List.take_left' (numB_length ..)
 have e2 : ((keyB k ++ t).drop 8).take 8 = numB 8 k.2 := by rw [keyB,List.append_assoc,List.drop_left' (numB_length ..)]; exact List.take_left' (numB_length ..)
 unfold keyR
 rw [e1,e2,rd8 h.1,rd8 h.2]
theorem rectR_B {r : Box} (h : RectOk r) (t : List UInt8) : rectR (rectB r ++ t) = r := by
 have e0 : rectB r ++ t = numB 2 r.a ++ (numB 2 r.b ++ (numB 2 r.c ++ (numB 2 r.d ++ t))) := by simp [rectB]
 have e1 : (rectB r ++ t).take 2 = numB 2 r.a := by rw [e0]; exact List.take_left' (numB_length ..)
 have d1 : (rectB r ++ t).drop 2 = numB 2 r.b ++ (numB 2 r.c ++ (numB 2 r.d ++ t)) := by rw [e0]; exact List.drop_left' (numB_length ..)
 have d2 : (rectB r ++ t).drop 4 = numB 2 r.c ++ (numB 2 r.d ++ t) := by rw [show 4 = 2 + 2 from rfl, ← List.drop_drop,d1]; exact List.drop_left' (numB_length ..)
 have d3 : (rectB r ++ t).drop 6 = numB 2 r.d ++ t := by rw [show 6 = 4 + 2 from rfl, ← List.drop_drop,d2]; exact List.drop_left' (numB_length ..)
 unfold rectR
 rw [e1,d1,d2,d3,List.take_left' (numB_length ..),List.take_left' (numB_length ..),List.take_left' (numB_length ..),rd2 h.1,rd2 h.2.1,rd2 h.2.2.1,rd2 h.2.2.2]
theorem sctR_B {s : Nat} (h : SecOk s) (t : List UInt8) : sctR (secB s ++ t) = s := by
 unfold sctR
 rw [show (secB s ++ t).take 2 = numB 2 s from List.take_left' (numB_length ..),rd2 h]
structure Codec (V : Type) where
 len : Nat
 B : V → List UInt8
 R : List UInt8 → V
 ok : V → Prop
 lenB : ∀ v,(B v).length = len
 okR : ∀ bs,ok (R bs)
 back : ∀ v,ok v → ∀ t,R (B v ++ t) = v
def rectC : Codec Box := ⟨8,rectB,rectR,RectOk,rectB_length,rectR_ok,fun _ h t => rectR_B h t⟩
def secC : Codec Nat := ⟨2,secB,sctR,SecOk,secB_length,sctR_ok,fun _ h t => sctR_B h t⟩
section
variable {V : Type} (C : Codec V)
def pairB (p : Key × V) : List UInt8 := keyB p.1 ++ C.B p.2
def pairsB (r : List (Key × V)) : List UInt8 := r.flatMap (pairB C)
def pairsR : Nat → List UInt8 → List (Key × V)
 | 0,_ => []
 | n + 1,bs => (keyR bs,C.R (bs.drop 16)) :: pairsR n (bs.drop (16 + C.len))
def PairOk (p : Key × V) : Prop := KeyOk p.1 ∧ C.ok p.2
theorem pairB_length (p : Key × V) : (pairB C p).length = 16 + C.len := by simp [pairB,keyB_length,C.lenB]
theorem pairsB_length : ∀ r : List (Key × V),(pairsB C r).length = r.length * (16 + C.len)
 | [] => by simp [pairsB]
 | p :: r => by
  have := pairsB_length r
  simp only [pairsB] at this
  simp only [pairsB,List.flatMap_cons,List.length_append,pairB_length,this,List.length_cons,Nat.add_mul,Nat.one_mul]
  omega
theorem pairsR_length : ∀ (n : Nat) (bs : List UInt8),(pairsR C n bs).length = n
 | 0,_ => rfl
 | n + 1,bs => by simp [pairsR,pairsR_length n]
theorem pairsR_ok : ∀ (n : Nat) (bs : List UInt8), ∀ p ∈ pairsR C n bs,PairOk C p
 | 0,_,p,h => by simp [pairsR] at h
 | n + 1,bs,p,h => by
  rcases List.mem_cons.1 h with rfl | h
  ·exact ⟨keyR_ok _,C.okR _⟩
  ·exact pairsR_ok n _ p h
theorem pairsR_B : ∀ (r : List (Key × V)) (t : List UInt8),(∀ p ∈ r,PairOk C p) → pairsR C r.length (pairsB C r ++ t) = r
 | [],_,_ => rfl
 | p :: r,t,h => by
  have hp := h p List.mem_cons_self
  have e : pairsB C (p :: r) ++ t = keyB p.1 ++ (C.B p.2 ++ (pairsB C r ++ t)) := by simp [pairsB,pairB]
  have d1 : (pairsB C (p :: r) ++ t).drop 16 = C.B p.2 ++ (pairsB C r ++ t) := by rw [e]; exact List.drop_left' (keyB_length _)
  have d2 : (pairsB C (p :: r) ++ t).drop (16 + C.len) = pairsB C r ++ t := by rw [← List.drop_drop,d1]; exact List.drop_left' (C.lenB _)
  show (keyR _,C.R _) :: pairsR C r.length _ = p :: r
  rw [d2,pairsR_B r t (fun q hq => h q (List.mem_cons_of_mem _ hq)),d1,C.back _ hp.2,e,keyR_B hp.1]
theorem pairsR_snoc : ∀ (n : Nat) (bs : List UInt8),pairsR C (n + 1) bs = pairsR C n bs ++ [(keyR (bs.drop (n * (16 + C.len))),C.R (bs.drop (n * (16 + C.len) + 16)))]
 | 0,bs => by simp [pairsR]
 | n + 1,bs => by
  have e1 : 16 + C.len + n * (16 + C.len) = (n + 1) * (16 + C.len) := by rw [Nat.add_mul,Nat.one_mul]; omega
  rw [pairsR,pairsR_snoc n,List.drop_drop,List.drop_drop,e1,show 16 + C.len + (n * (16 + C.len) + 16) = (n + 1) * (16 + C.len) + 16 by omega]
  rfl
end
def padB (bs : List UInt8) : List UInt8 := bs ++ List.replicate (256 - bs.length) 0
def rowB {V : Type} (C : Codec V) (kind : Nat) (r : List (Key × V)) : List UInt8 := padB (numB 1 kind ++ numB 1 r.length ++ pairsB C r)
def nodeB : Node Box → List UInt8
 | .leaf r => rowB rectC 1 r
 | .branch r => rowB secC 2 r
def headB (root : Nat) : List UInt8 := padB (numB 1 0 ++ numB 2 root)
def Stands : Node Box → Prop
 | .leaf r => 1 ≤ r.length ∧ r.length ≤ 10 ∧ Rising r ∧ ∀ p ∈ r,PairOk rectC p
 | .branch r => 2 ≤ r.length ∧ r.length ≤ 14 ∧ Rising r ∧ ∀ p ∈ r,PairOk secC p
theorem padB_length {bs : List UInt8} (h : bs.length ≤ 256) : (padB bs).length = 256 := by simp [padB]; omega
theorem num1 (n : Nat) (h : n < 256) : numB 1 n = [UInt8.ofNat n] := by
 have : ((n : Int) % 256).toNat = n := by omega
 simp [numB,byteB,this]
theorem rowB_length {V : Type} (C : Codec V) (kind : Nat) (r : List (Key × V)) (h : 2 + r.length * (16 + C.len) ≤ 256) : (rowB C kind r).length = 256 := by
 refine padB_length ?_
 simp only [List.length_append,numB_length,pairsB_length]; omega
theorem rowB_head {V : Type} (C : Codec V) (kind : Nat) (r : List (Key × V)) (hk : kind < 256) (hr : r.length < 256) : ∃ t,rowB C kind r = UInt8.ofNat kind :: UInt8.ofNat r.length :: (pairsB C r ++ t) := by
 refine ⟨List.replicate (256 - (numB 1 kind ++ numB 1 r.length ++ pairsB C r).length) 0, ?_⟩
 unfold rowB padB
 rw [num1 _ hk,num1 _ hr]
 simp
theorem rowB_read {V : Type} (C : Codec V) {kind : Nat} {r : List (Key × V)} (hk : kind < 256) (hr : r.length < 256) (h : ∀ p ∈ r,PairOk C p) : pairsR C r.length ((rowB C kind r).drop 2) = r ∧ (rowB C kind r)[0]? = some (UInt8.ofNat kind) ∧ (rowB C kind r)[1]? = some (UInt8.ofNat r.length) := by
 obtain ⟨t,e⟩ := rowB_head C kind r hk hr
 rw [e]
 exact ⟨pairsR_B C r t h,rfl,rfl⟩
theorem ofNat_inj {a b : Nat} (ha : a < 256) (hb : b < 256) (h : UInt8.ofNat a = UInt8.ofNat b) : a = b := by
 have := congrArg UInt8.toNat h
 simpa [Nat.mod_eq_of_lt ha,Nat.mod_eq_of_lt hb] using this
theorem rowB_inj {V : Type} (C : Codec V) {kind : Nat} {r r' : List (Key × V)} (hk : kind < 256) (hr : r.length < 256) (hr' : r'.length < 256) (h : ∀ p ∈ r,PairOk C p) (h' : ∀ p ∈ r',PairOk C p) (e : rowB C kind r = rowB C kind r') : r = r' := by
 obtain ⟨a1,a2,a3⟩ := rowB_read C (kind := kind) hk hr h
 obtain ⟨b1,b2,b3⟩ := rowB_read C (kind := kind) hk hr' h'
 rw [← e] at b1 b3
 have : r.length = r'.length := ofNat_inj hr hr' (Option.some.inj (a3.symm.trans b3))
 rw [← this] at b1
 exact a1.symm.trans b1
theorem nodeB_length {n : Node Box} (h : Stands n) : (nodeB n).length = 256 := by
 cases n with
 | leaf r => exact rowB_length rectC 1 r (by have := h.2.1; show 2 + r.length * 24 ≤ 256; omega)
 | branch r => exact rowB_length secC 2 r (by have := h.2.1; show 2 + r.length * 18 ≤ 256; omega)
theorem nodeB_inj {n n' : Node Box} (h : Stands n) (h' : Stands n') (e : nodeB n = nodeB n') : n = n' := by
 cases n with
 | leaf r =>
  cases n' with
  | leaf r' => rw [rowB_inj rectC (kind := 1) (by decide) (by have := h.2.1; omega) (by have := h'.2.1; omega) h.2.2.2 h'.2.2.2 e]
  | branch r' =>
   have a := (rowB_read rectC (kind := 1) (by decide) (by have := h.2.1; omega) h.2.2.2).2.1
   have b := (rowB_read secC (kind := 2) (by decide) (by have := h'.2.1; omega) h'.2.2.2).2.1
   simp only [nodeB] at e
   rw [e,b] at a; simp at a
 | branch r =>
  cases n' with
  | leaf r' =>
   have a := (rowB_read secC (kind := 2) (by decide) (by have := h.2.1; omega) h.2.2.2).2.1
   have b := (rowB_read rectC (kind := 1) (by decide) (by have := h'.2.1; omega) h'.2.2.2).2.1
   simp only [nodeB] at e
   rw [e,b] at a; simp at a
  | branch r' => rw [rowB_inj secC (kind := 2) (by decide) (by have := h.2.1; omega) (by have := h'.2.1; omega) h.2.2.2 h'.2.2.2 e]
theorem headB_length (root : Nat) : (headB root).length = 256 := padB_length (by simp only [List.length_append,numB_length]; decide)
theorem headB_root {root : Nat} (h : root < 65536) : rdN (((headB root).drop 1).take 2) = root := by
 have e : headB root = numB 1 0 ++ (numB 2 root ++ List.replicate (256 - (numB 1 0 ++ numB 2 root).length) 0) := by unfold headB padB; rw [List.append_assoc]
 rw [e,List.drop_left' (numB_length ..),List.take_left' (numB_length ..),rd2 h]
theorem headB_zero : headB 0 = List.replicate 256 0 := by
 have e : numB 1 0 ++ numB 2 ((0 : Nat) : Int) = List.replicate 3 0 := by decide
 unfold headB padB
 rw [e,List.length_replicate,List.replicate_append_replicate]
open Classical in
noncomputable def nodeOf (bs : List UInt8) : Option (Node Box) := if h : ∃ n,Stands n ∧ nodeB n = bs then some h.choose else none
theorem nodeOf_B {n : Node Box} (h : Stands n) : nodeOf (nodeB n) = some n := by
 have hx : ∃ m,Stands m ∧ nodeB m = nodeB n := ⟨n,h,rfl⟩
 unfold nodeOf
 rw [dif_pos hx,nodeB_inj hx.choose_spec.1 h hx.choose_spec.2]
theorem nodeOf_some {bs : List UInt8} {n : Node Box} (h : nodeOf bs = some n) : Stands n ∧ nodeB n = bs := by
 unfold nodeOf at h
 split at h
 ·rename_i g; cases h; exact g.choose_spec
 ·cases h
theorem nodeOf_none {bs : List UInt8} (h : ∀ n,Stands n → nodeB n ≠ bs) : nodeOf bs = none := by
 unfold nodeOf
 rw [dif_neg]
 rintro ⟨n,h1,h2⟩
 exact h n h1 h2
theorem nodeOf_leaf_yes {bs : List UInt8} {c : Nat} (hc : c ≤ 10) (h1 : 1 ≤ c) (h2 : Rising (pairsR rectC c (bs.drop 2))) (h3 : nodeB (.leaf (pairsR rectC c (bs.drop 2))) = bs) : nodeOf bs = some (.leaf (pairsR rectC c (bs.drop 2))) := by
 have hs : Stands (.leaf (pairsR rectC c (bs.drop 2))) := ⟨by rw [pairsR_length]; exact h1,by rw [pairsR_length]; exact hc,h2,pairsR_ok rectC c _⟩
 have := nodeOf_B hs
 rwa [h3] at this
theorem nodeOf_branch_yes {bs : List UInt8} {c : Nat} (hc : c ≤ 14) (h1 : 2 ≤ c) (h2 : Rising (pairsR secC c (bs.drop 2))) (h3 : nodeB (.branch (pairsR secC c (bs.drop 2))) = bs) : nodeOf bs = some (.branch (pairsR secC c (bs.drop 2))) := by
 have hs : Stands (.branch (pairsR secC c (bs.drop 2))) := ⟨by rw [pairsR_length]; exact h1,by rw [pairsR_length]; exact hc,h2,pairsR_ok secC c _⟩
 have := nodeOf_B hs
 rwa [h3] at this
theorem nodeB_says {bs : List UInt8} {n : Node Box} (h : Stands n) (e : nodeB n = bs) :
  (∃ r,n = .leaf r ∧ bs[0]? = some 1 ∧ bs[1]? = some (UInt8.ofNat r.length) ∧ r.length ≤ 10 ∧ 1 ≤ r.length ∧ pairsR rectC r.length (bs.drop 2) = r) ∨
  (∃ r,n = .branch r ∧ bs[0]? = some 2 ∧ bs[1]? = some (UInt8.ofNat r.length) ∧ r.length ≤ 14 ∧ 2 ≤ r.length ∧ pairsR secC r.length (bs.drop 2) = r) := by
 subst e
 cases n with
 | leaf r =>
  obtain ⟨a1,a2,a3⟩ := rowB_read rectC (kind := 1) (by decide) (by have := h.2.1; omega) h.2.2.2
  exact .inl ⟨r,rfl,a2,a3,h.2.1,h.1,a1⟩
 | branch r =>
  obtain ⟨a1,a2,a3⟩ := rowB_read secC (kind := 2) (by decide) (by have := h.2.1; omega) h.2.2.2
  exact .inr ⟨r,rfl,a2,a3,h.2.1,h.1,a1⟩
end
section
structure CellOk (c : Nat × Nat) : Prop where
 size : c.2 ≤ 16
 mul : 4 ^ c.2 ∣ c.1
 top : c.1 < 4 ^ 16
def place (c : Nat × Nat) : Nat := c.1 * 17 + 16 - c.2
def cend (c : Nat × Nat) : Nat := c.1 + 4 ^ c.2
def cellAt (p : Nat) : Nat × Nat := (p / 17, 16 - p % 17)
theorem cellAt_place {c : Nat × Nat} (h : c.2 ≤ 16) : cellAt (place c) = c := by
 obtain ⟨a,k⟩ := c
 simp only [cellAt,place,Prod.mk.injEq] at *
 omega
theorem place_lt {c : Nat × Nat} (h : CellOk c) : place c < 4 ^ 16 * 17 := by
 have := h.top
 have := h.size
 unfold place
 omega
theorem pow_pos4 (k : Nat) : 0 < 4 ^ k := Nat.pow_pos (by decide)
theorem place_order {c d : Nat × Nat} (hc : CellOk c) (hd : CellOk d) (h : place c ≤ place d) : (c.1 ≤ d.1 ∧ cend d ≤ cend c) ∨ cend c ≤ d.1 := by
 have s1 := hc.size
 have s2 := hd.size
 have hle : c.1 < d.1 ∨ (c.1 = d.1 ∧ d.2 ≤ c.2) := by unfold place at h; omega
 unfold cend
 rcases hle with hlt | ⟨e,hk⟩
 ·rcases Nat.lt_or_ge d.1 (c.1 + 4 ^ c.2) with g | g
  ·left
   obtain ⟨x,hx⟩ := hc.mul
   obtain ⟨y,hy⟩ := hd.mul
   rcases Nat.lt_or_ge c.2 d.2 with k | k
   ·exfalso
    obtain ⟨j,hj⟩ : ∃ j,d.2 = c.2 + j := ⟨d.2 - c.2,by omega⟩
    rw [hj,Nat.pow_add,Nat.mul_assoc] at hy
    have h1 : 4 ^ c.2 * x < 4 ^ c.2 * (4 ^ j * y) := by rw [← hx, ← hy]; exact hlt
    have h2 := Nat.lt_of_mul_lt_mul_left h1
    have h3 := Nat.mul_le_mul_left (4 ^ c.2) (show x + 1 ≤ 4 ^ j * y from h2)
    rw [← hy,Nat.mul_succ, ← hx] at h3
    omega
   ·obtain ⟨j,hj⟩ : ∃ j,c.2 = d.2 + j := ⟨c.2 - d.2,by omega⟩
    refine ⟨by omega, ?_⟩
    rw [hj,Nat.pow_add,Nat.mul_assoc] at hx
    rw [hj,Nat.pow_add]
    rw [hj,Nat.pow_add] at g
    have h1 : 4 ^ d.2 * y < 4 ^ d.2 * (4 ^ j * x + 4 ^ j) := by rw [← hy,Nat.mul_add, ← hx]; exact g
    have h2 := Nat.lt_of_mul_lt_mul_left h1
    have h3 := Nat.mul_le_mul_left (4 ^ d.2) (show y + 1 ≤ 4 ^ j * x + 4 ^ j from h2)
    rw [Nat.mul_add,Nat.mul_add, ← hy, ← hx,Nat.mul_one] at h3
    omega
  ·right; exact g
 ·left
  have := Nat.pow_le_pow_right (show 0 < 4 by decide) hk
  omega
def around (c k : Nat) : Nat × Nat := (c / 4 ^ k * 4 ^ k,k)
theorem around_le (c k : Nat) : (around c k).1 ≤ c := Nat.div_mul_le_self ..
theorem around_ok {c k : Nat} (hk : k ≤ 16) (hc : c < 4 ^ 16) : CellOk (around c k) := ⟨hk,Nat.dvd_mul_left ..,Nat.lt_of_le_of_lt (around_le c k) hc⟩
theorem around_anti (c : Nat) {j k : Nat} (h : j ≤ k) : (around c k).1 ≤ (around c j).1 := by
 obtain ⟨i,rfl⟩ : ∃ i,k = j + i := ⟨k - j,by omega⟩
 show c / 4 ^ (j + i) * 4 ^ (j + i) ≤ c / 4 ^ j * 4 ^ j
 rw [Nat.pow_add, ← Nat.div_div_eq_div_mul,Nat.mul_comm (4 ^ j), ← Nat.mul_assoc]
 exact Nat.mul_le_mul_right _ (Nat.div_mul_le_self ..)
theorem around_eq {d : Nat × Nat} (hd : CellOk d) {c : Nat} (h1 : d.1 ≤ c) (h2 : c < cend d) : d = around c d.2 := by
 obtain ⟨a,k⟩ := d
 obtain ⟨x,hx⟩ := hd.mul
 simp only [cend] at *
 have hq : c / 4 ^ k = x := by
  rw [Nat.div_eq_iff (pow_pos4 k)]
  rw [Nat.mul_comm] at hx
  omega
 unfold around
 simp only [Prod.mk.injEq,and_true]
 rw [hq,hx,Nat.mul_comm]
section
variable (inW : Nat → Prop)
def Meets (c : Nat × Nat) : Prop := ∃ t,c.1 ≤ t ∧ t < cend c ∧ inW t
def NextIs (code f : Nat) : Prop := code ≤ f ∧ inW f ∧ ∀ t,code ≤ t → inW t → f ≤ t
def IsWide (code f k : Nat) : Prop := k ≤ 16 ∧ code ≤ (around f k).1 ∧ (k = 16 ∨ (around f (k + 1)).1 < code)
variable {inW}
theorem next_first {code f k : Nat} (hn : NextIs inW code f) (hk : IsWide code f k) {d : Nat × Nat} (hd : CellOk d) (h1 : code ≤ d.1) (h2 : Meets inW d) : place (around f k) ≤ place d := by
 obtain ⟨t,t1,t2,t3⟩ := h2
 have ht := hn.2.2 t (by omega) t3
 have hs := hd.size
 rcases Nat.lt_or_ge f d.1 with g | g
 ·have := around_le f k
  have : (around f k).2 ≤ 16 := hk.1
  unfold place
  omega
 ·have e := around_eq hd g (by omega)
  have hle : d.2 ≤ k := Classical.byContradiction fun g2 => by
   rcases hk.2.2 with g3 | g3
   ·omega
   ·have g4 := around_anti f (show k + 1 ≤ d.2 by omega)
    rw [e] at h1
    omega
  have := around_anti f hle
  rw [← e] at this
  have hk1 := hk.1
  show (around f k).1 * 17 + 16 - k ≤ d.1 * 17 + 16 - d.2
  omega
theorem behind_end {c d : Nat × Nat} (hc : CellOk c) (hd : CellOk d) (h : place c ≤ place d) (h1 : ¬ Meets inW c) (h2 : Meets inW d) : cend c ≤ d.1 := by
 rcases place_order hc hd h with ⟨g1,g2⟩ | g
 ·obtain ⟨t,t1,t2,t3⟩ := h2
  exact absurd ⟨t,by omega,by omega,t3⟩ h1
 ·exact g
end
end
section
section
variable {V : Type}
structure SS where
 seen : Nat → Bool
 last : Key
def lastK {V : Type} (r : List (Key × V)) : Key := (r.getLast?.map (·.1)).getD (0, 0)
def underF (g : SS → Nat → Option (Node V × Nat × SS)) : List (Key × Nat) → Option Nat → SS → Option (Nat × SS)
 | [],ho,s => some (ho.getD 0,s)
 | c :: r,ho,s => (g s c.2).bind fun x => if x.1.poor = true ∨ x.1.fk ≠ c.1 ∨ (∃ h,ho = some h ∧ x.2.1 ≠ h) then none else underF g r (some x.2.1) x.2.2
def lookF (M : Nat → Option (Node V)) (N : Nat) : Nat → SS → Nat → Option (Node V × Nat × SS)
 | 0,_,_ => none
 | f + 1,s,sec => if N ≤ sec ∨ s.seen sec = true then none else
  match M sec with
  | none => none
  | some (.leaf r) => if klt s.last (Node.leaf r).fk then some (.leaf r, 1,⟨upd2 s.seen sec true,lastK r⟩) else none
  | some (.branch r) => (underF (lookF M N f) r none ⟨upd2 s.seen sec true,s.last⟩).bind fun x => some (.branch r,x.1 + 1,x.2)
structure Up (a : Key) (es : List (Key × V)) (b : Key) : Prop where
 rise : Rising es
 from_ : ∀ x ∈ es,klt a x.1
 to_ : ∀ x ∈ es, ¬ klt b x.1
 le : ¬ klt b a
theorem Up.nil (a : Key) : Up (V := V) a [] a := ⟨Rising.nil,fun _ h => (by cases h),fun _ h => (by cases h),klt_irrefl a⟩
theorem Up.append {a b c : Key} {es fs : List (Key × V)} (h : Up a es b) (k : Up b fs c) : Up a (es ++ fs) c := by
 refine ⟨Rising.append.2 ⟨h.rise,k.rise,fun x hx y hy => klt_of_le_lt (h.to_ x hx) (k.from_ y hy)⟩,fun x hx => ?_,fun x hx => ?_,fun g => ?_⟩
 ·rcases List.mem_append.1 hx with hx | hx
  ·exact h.from_ x hx
  ·exact klt_of_le_lt h.le (k.from_ x hx)
 ·rcases List.mem_append.1 hx with hx | hx
  ·exact fun g => k.le (klt_of_lt_le g (h.to_ x hx))
  ·exact k.to_ x hx
 ·exact k.le (klt_of_lt_le g h.le)
theorem lastK_up {a : Key} {r : List (Key × V)} (hr : Rising r) (hne : r ≠ []) (h : klt a (Node.leaf r).fk) : Up a r (lastK r) := by
 have hl : ∀ x ∈ r, ¬ klt (lastK r) x.1 := fun x hx => by
  obtain ⟨i,e⟩ : ∃ i,r = i ++ [r.getLast hne] := ⟨r.dropLast,(List.dropLast_concat_getLast hne).symm⟩
  have hk : lastK r = (r.getLast hne).1 := by unfold lastK; rw [List.getLast?_eq_some_getLast hne]; rfl
  rw [hk]
  rw [e] at hr hx
  rcases List.mem_append.1 hx with hx | hx
  ·exact klt_asymm ((Rising.append.1 hr).2.2 x hx _ (by simp))
  ·simp only [List.mem_singleton] at hx
   rw [hx]; exact klt_irrefl _
 cases r with
 | nil => exact absurd rfl hne
 | cons y t =>
  have hy : (Node.leaf (V := V) (y :: t)).fk = y.1 := by simp [Node.fk]
  rw [hy] at h
  have hf : ∀ x ∈ y :: t,klt a x.1 := fun x hx => by
   rcases List.mem_cons.1 hx with rfl | hx
   ·exact h
   ·exact klt_trans h ((Rising.cons.1 hr).1 x hx)
  exact ⟨hr,hf,hl,fun g => hl y List.mem_cons_self (klt_trans g h)⟩
structure Seen (M : Nat → Option (Node V)) (N : Nat) (s : SS) (sec : Nat) (n : Node V) (h : Nat) (s' : SS) (es : List (Key × V)) (us : List Nat) : Prop where
 at_ : M sec = some n
 tre : Tre M h n es us
 nd : (sec :: us).Nodup
 new : ∀ t ∈ sec :: us,s.seen t = false ∧ t < N
 seen : ∀ t,s'.seen t = (s.seen t || decide (t ∈ sec :: us))
 up : Up s.last es s'.last
 ne : es ≠ []
structure Kids (M : Nat → Option (Node V)) (N h : Nat) (s s' : SS) (ks : List (Kid V)) : Prop where
 ok : ∀ c ∈ ks,KidOk M h c
 nd : (ks.flatMap Kid.all).Nodup
 new : ∀ t ∈ ks.flatMap Kid.all,s.seen t = false ∧ t < N
 seen : ∀ t,s'.seen t = (s.seen t || decide (t ∈ ks.flatMap Kid.all))
 up : Up s.last (ks.flatMap Kid.es) s'.last
structure Stout (M : Nat → Option (Node V)) : Prop where
 leaf : ∀ t r,M t = some (.leaf r) → 1 ≤ r.length ∧ r.length ≤ 10 ∧ Rising r
 branch : ∀ t r,M t = some (.branch r) → 2 ≤ r.length ∧ r.length ≤ 14 ∧ Rising r
theorem Stout.size {M : Nat → Option (Node V)} (h : Stout M) {t : Nat} {n : Node V} (e : M t = some n) : n.size ≤ n.most ∧ 1 ≤ n.size := by
 cases n with
 | leaf r => exact ⟨(h.leaf t r e).2.1,(h.leaf t r e).1⟩
 | branch r => exact ⟨(h.branch t r e).2.1,by have := (h.branch t r e).1; show 1 ≤ r.length; omega⟩
theorem under_sound {M : Nat → Option (Node V)} (hM : Stout M) {N f : Nat} (ih : ∀ s sec n h s',lookF M N f s sec = some (n,h,s') → ∃ k es us,h = k + 1 ∧ Seen M N s sec n k s' es us) :
  ∀ (r : List (Key × Nat)) (ho : Option Nat) (s : SS) (h : Nat) (s' : SS),underF (lookF M N f) r ho s = some (h,s') → r ≠ [] →
   ∃ (k : Nat) (ks : List (Kid V)),h = k + 1 ∧ (∀ j,ho = some j → j = h) ∧ ks.map Kid.pr = r ∧ Kids M N k s s' ks
 | [],_,_,_,_,_,hne => absurd rfl hne
 | c :: r,ho,s,h,s',e,_ => by
  unfold underF at e
  cases hl : lookF M N f s c.2 with
  | none => rw [hl] at e; simp at e
  | some x =>
   obtain ⟨n,h1,s1⟩ := x
   rw [hl] at e
   simp only [Option.bind_some] at e
   split at e
   ·cases e
   ·rename_i hc
    obtain ⟨hp,hk,hh⟩ : n.poor = false ∧ n.fk = c.1 ∧ ∀ j,ho = some j → h1 = j := by
     refine ⟨?_, ?_,fun j hj => ?_⟩
     ·cases hq : n.poor with
      | false => rfl
      | true => exact absurd (.inl hq) hc
     ·exact Classical.byContradiction fun g => hc (.inr (.inl g))
     ·exact Classical.byContradiction fun g => hc (.inr (.inr ⟨j,hj,g⟩))
    obtain ⟨k,es,us,rfl,hs⟩ := ih s c.2 n h1 s1 hl
    have hsz := hM.size hs.at_
    have hkid : KidOk M k ⟨c.1,c.2,n,es,us⟩ := ⟨hs.at_,hs.tre,hp,hsz.1,by have := tre_head hs.tre (by omega); rw [this,hk]⟩
    cases r with
    | nil =>
     unfold underF at e
     cases e
     refine ⟨k, [⟨c.1,c.2,n,es,us⟩],rfl,fun j hj => (hh j hj).symm,rfl,⟨fun q hq => ?_, ?_, ?_, ?_, ?_⟩⟩
     ·rw [List.mem_singleton.1 hq]; exact hkid
     ·simpa using hs.nd
     ·simpa using hs.new
     ·simpa using hs.seen
     ·simpa using hs.up
    | cons d r =>
     obtain ⟨k2,ks,rfl,h2,h3,h4⟩ := under_sound hM ih (d :: r) (some (k + 1)) s1 h s' e (by simp)
     have hkk : k2 = k := by have := h2 (k + 1) rfl; omega
     subst hkk
     have hap : ∀ t ∈ (c.2 :: us),t ∉ ks.flatMap Kid.all := fun t ht g => by
      have g1 := (h4.new t g).1
      have g2 := hs.seen t
      rw [g1,decide_eq_true ht,Bool.or_true] at g2
      cases g2
     refine ⟨k2,⟨c.1,c.2,n,es,us⟩ :: ks,rfl,fun j hj => (hh j hj).symm,by rw [List.map_cons,h3],⟨fun q hq => ?_, ?_,fun t ht => ?_,fun t => ?_, ?_⟩⟩
     ·rcases List.mem_cons.1 hq with rfl | hq
      ·exact hkid
      ·exact h4.ok q hq
     ·rw [List.flatMap_cons]
      exact nodup2.2 ⟨hs.nd,h4.nd,hap⟩
     ·rw [List.flatMap_cons,List.mem_append] at ht
      rcases ht with ht | ht
      ·exact hs.new t ht
      ·obtain ⟨g1,g2⟩ := h4.new t ht
       have g3 := hs.seen t
       rw [g1] at g3
       refine ⟨?_,g2⟩
       cases hq : s.seen t with
       | false => rfl
       | true => rw [hq] at g3; simp at g3
     ·rw [h4.seen t,hs.seen t,List.flatMap_cons]
      simp only [Kid.all,List.mem_append,Bool.decide_or,Bool.or_assoc]
     ·rw [List.flatMap_cons]; exact hs.up.append h4.up
theorem look_sound {M : Nat → Option (Node V)} (hM : Stout M) {N : Nat} : ∀ (f : Nat) (s : SS) (sec : Nat) (n : Node V) (h : Nat) (s' : SS),lookF M N f s sec = some (n,h,s') → ∃ k es us,h = k + 1 ∧ Seen M N s sec n k s' es us
 | 0,_,_,_,_,_,e => by cases e
 | f + 1,s,sec,n,h,s',e => by
  unfold lookF at e
  split at e
  ·cases e
  ·rename_i hc
   have hc1 : sec < N := by omega
   have hc2 : s.seen sec = false := by cases hq : s.seen sec with
    | false => rfl
    | true => exact absurd (.inr hq) hc
   cases hm : M sec with
   | none => rw [hm] at e; cases e
   | some nd =>
    rw [hm] at e
    cases nd with
    | leaf r =>
     simp only at e
     split at e
     ·rename_i hk
      cases e
      obtain ⟨r1,r2,r3⟩ := hM.leaf sec r hm
      have hne : r ≠ [] := fun g => by rw [g] at r1; simp at r1
      refine ⟨0,r, [],rfl,⟨hm,⟨rfl,rfl⟩,by simp,fun t ht => ?_,fun t => ?_,lastK_up r3 hne hk,hne⟩⟩
      ·rw [List.mem_singleton.1 ht]; exact ⟨hc2,hc1⟩
      ·by_cases ht : t = sec
       ·subst ht; simp [upd2]
       ·simp [upd2,ht]
     ·cases e
    | branch r =>
     simp only at e
     cases hu : underF (lookF M N f) r none ⟨upd2 s.seen sec true,s.last⟩ with
     | none => rw [hu] at e; simp at e
     | some x =>
      obtain ⟨h1,s1⟩ := x
      rw [hu] at e
      simp only [Option.bind_some,Option.some.injEq,Prod.mk.injEq] at e
      obtain ⟨rfl,rfl,rfl⟩ := e
      obtain ⟨r1,r2,r3⟩ := hM.branch sec r hm
      have hne : r ≠ [] := fun g => by rw [g] at r1; simp at r1
      obtain ⟨k,ks,rfl,_,h3,h4⟩ := under_sound hM (look_sound hM f) r none _ h1 s1 hu hne
      have hns : sec ∉ ks.flatMap Kid.all := fun g => by
       have := (h4.new sec g).1
       simp [upd2] at this
      refine ⟨k + 1,ks.flatMap Kid.es,ks.flatMap Kid.all,rfl,⟨hm,tre_succ.2 ⟨ks,by rw [h3],h4.ok,rfl,rfl⟩,List.nodup_cons.2 ⟨hns,h4.nd⟩,fun t ht => ?_,fun t => ?_,h4.up, ?_⟩⟩
      ·rcases List.mem_cons.1 ht with rfl | ht
       ·exact ⟨hc2,hc1⟩
       ·have := h4.new t ht
        have hts : t ≠ sec := fun g => hns (g ▸ ht)
        simp only [upd2,hts,if_false] at this
        exact this
      ·rw [h4.seen t]
       by_cases ht : t = sec
       ·subst ht; simp [upd2]
       ·simp only [upd2,ht,if_false,List.mem_cons,false_or]
      ·cases hks : ks with
       | nil => rw [hks] at h3; exact absurd h3.symm hne
       | cons q t =>
        obtain ⟨v,t',e⟩ := (h4.ok q (by rw [hks]; simp)).ne
        simp [e]
theorem under_full {M : Nat → Option (Node V)} {N f k : Nat} (ih : ∀ (s : SS) (sec : Nat) (n : Node V) (es : List (Key × V)) (us : List Nat) (b : Key),M sec = some n → Tre M k n es us → (sec :: us).Nodup → (∀ t ∈ sec :: us,s.seen t = false ∧ t < N) → Up s.last es b → es ≠ [] →
   ∃ s',lookF M N f s sec = some (n,k + 1,s') ∧ (∀ t,s'.seen t = (s.seen t || decide (t ∈ sec :: us))) ∧ s'.last = lastK es) :
  ∀ (ks : List (Kid V)) (ho : Option Nat) (s : SS) (b : Key),(∀ c ∈ ks,KidOk M k c) → (ks.flatMap Kid.all).Nodup → (∀ t ∈ ks.flatMap Kid.all,s.seen t = false ∧ t < N) → Up s.last (ks.flatMap Kid.es) b → (∀ j,ho = some j → j = k + 1) → ks ≠ [] →
   ∃ s',underF (lookF M N f) (ks.map Kid.pr) ho s = some (k + 1,s') ∧ (∀ t,s'.seen t = (s.seen t || decide (t ∈ ks.flatMap Kid.all))) ∧ s'.last = lastK (ks.flatMap Kid.es)
 | [],_,_,_,_,_,_,_,_,hne => absurd rfl hne
 | c :: ks,ho,s,b,hk,hnd,hnew,hup,hh,_ => by
  have hc := hk c List.mem_cons_self
  obtain ⟨v,tl,hes⟩ := hc.ne
  rw [List.flatMap_cons] at hnd hnew hup
  obtain ⟨n1,n2,n3⟩ := nodup2.1 hnd
  have hr := Rising.append.1 hup.rise
  have hup1 : Up s.last c.es (lastK c.es) := by
   have hf : (Node.leaf c.es : Node V).fk = c.key := by simp [Node.fk,hes]
   exact lastK_up hr.1 (by rw [hes]; simp) (by rw [hf]; exact hup.from_ (c.key,v) (by rw [hes]; simp))
  obtain ⟨s1,e1,e2,e3⟩ := ih s c.sec c.nd c.es c.us (lastK c.es) hc.at_ hc.tre n1 (fun t ht => hnew t (List.mem_append_left _ ht)) hup1 (by rw [hes]; simp)
  have hfk : c.nd.fk = c.key := by
   have hs : 0 < c.nd.size := by have := rich_size hc.rich; omega
   have := tre_head hc.tre hs
   rw [hes] at this
   simp at this
   exact this.symm
  have hstep : underF (lookF M N f) ((c :: ks).map Kid.pr) ho s = underF (lookF M N f) (ks.map Kid.pr) (some (k + 1)) s1 := by
   rw [List.map_cons,underF,e1]
   simp only [Option.bind_some]
   rw [if_neg]
   rintro (g | g | ⟨j,g1,g2⟩)
   ·rw [hc.rich] at g; cases g
   ·exact g hfk
   ·exact g2 (hh j g1).symm
  rw [hstep]
  cases ks with
  | nil => exact ⟨s1,by simp [underF],by simpa using e2,by simpa using e3⟩
  | cons d ks =>
   have hup2 : Up s1.last ((d :: ks).flatMap Kid.es) b := by
    refine ⟨hr.2.1,fun x hx => ?_,fun x hx => hup.to_ x (List.mem_append_right _ hx), ?_⟩
    ·rw [e3]
     have hne : c.es ≠ [] := by rw [hes]; simp
     have hl : lastK c.es = (c.es.getLast hne).1 := by unfold lastK; rw [List.getLast?_eq_some_getLast hne]; rfl
     rw [hl]
     exact hr.2.2 _ (List.getLast_mem hne) x hx
    ·rw [e3]
     have hne : c.es ≠ [] := by rw [hes]; simp
     have hl : lastK c.es = (c.es.getLast hne).1 := by unfold lastK; rw [List.getLast?_eq_some_getLast hne]; rfl
     rw [hl]
     exact hup.to_ _ (List.mem_append_left _ (List.getLast_mem hne))
   obtain ⟨s2,f1,f2,f3⟩ := under_full ih (d :: ks) (some (k + 1)) s1 b (fun q hq => hk q (List.mem_cons_of_mem _ hq)) n2 (fun t ht => by
    obtain ⟨g1,g2⟩ := hnew t (List.mem_append_right _ ht)
    refine ⟨?_,g2⟩
    rw [e2 t,g1]
    have : t ∉ c.sec :: c.us := fun g => n3 t g ht
    simp only [Bool.false_or,decide_eq_false_iff_not]
    exact this) hup2 (fun j hj => (by cases hj; rfl)) (by simp)
   refine ⟨s2,f1,fun t => ?_, ?_⟩
   ·rw [f2 t,e2 t,List.flatMap_cons (x := c)]
    simp only [Kid.all,List.mem_append,Bool.decide_or,Bool.or_assoc]
   ·rw [f3]
    have hne : (d :: ks).flatMap Kid.es ≠ [] := by
     obtain ⟨v',t',e⟩ := (hk d (by simp)).ne
     simp [e]
    unfold lastK
    rw [List.flatMap_cons (x := c),List.getLast?_append,List.getLast?_eq_some_getLast hne]; rfl
theorem look_full {M : Nat → Option (Node V)} {N : Nat} : ∀ (k f : Nat) (s : SS) (sec : Nat) (n : Node V) (es : List (Key × V)) (us : List Nat) (b : Key),k < f → M sec = some n → Tre M k n es us → (sec :: us).Nodup → (∀ t ∈ sec :: us,s.seen t = false ∧ t < N) → Up s.last es b → es ≠ [] →
   ∃ s',lookF M N f s sec = some (n,k + 1,s') ∧ (∀ t,s'.seen t = (s.seen t || decide (t ∈ sec :: us))) ∧ s'.last = lastK es
 | _, 0,_,_,_,_,_,_,hf,_,_,_,_,_,_ => absurd hf (by omega)
 | 0,f + 1,s,sec,n,es,us,b,_,hm,ht,hnd,hnew,hup,hne => by
  obtain ⟨rfl,rfl⟩ := ht
  have h0 := hnew sec (by simp)
  unfold lookF
  rw [if_neg (by rintro (g | g); omega; rw [h0.1] at g; cases g),hm]
  simp only
  have hk : klt s.last (Node.leaf es : Node V).fk := by
   cases es with
   | nil => exact absurd rfl hne
   | cons x t => simp only [Node.fk,List.head?_cons,Option.map_some,Option.getD_some]; exact hup.from_ x (by simp)
  rw [if_pos hk]
  refine ⟨_,rfl,fun t => ?_,rfl⟩
  by_cases ht : t = sec
  ·subst ht; simp [upd2]
  ·simp [upd2,ht]
 | k + 1,f + 1,s,sec,n,es,us,b,hf,hm,ht,hnd,hnew,hup,hne => by
  obtain ⟨ks,rfl,hk,rfl,rfl⟩ := tre_succ.1 ht
  have h0 := hnew sec (by simp)
  obtain ⟨hns,hnd2⟩ := List.nodup_cons.1 hnd
  have hks : ks ≠ [] := fun g => by rw [g] at hne; simp at hne
  obtain ⟨s',e1,e2,e3⟩ := under_full (fun s sec n es us b h1 h2 h3 h4 h5 h6 => look_full k f s sec n es us b (by omega) h1 h2 h3 h4 h5 h6) ks none ⟨upd2 s.seen sec true,s.last⟩ b hk hnd2 (fun t ht => by
   have hts : t ≠ sec := fun g => hns (g ▸ ht)
   have := hnew t (List.mem_cons_of_mem _ ht)
   simp only [upd2,hts,if_false]
   exact this) hup (fun j hj => by cases hj) hks
  unfold lookF
  rw [if_neg (by rintro (g | g); omega; rw [h0.1] at g; cases g),hm]
  simp only
  rw [e1]
  refine ⟨s',rfl,fun t => ?_,e3⟩
  rw [e2 t]
  by_cases ht : t = sec
  ·subst ht; simp [upd2]
  ·simp only [upd2,ht,if_false,List.mem_cons,false_or]
end
end
section
section
variable {V : Type} (pl : V → List Nat)
def byNum (es : List (Key × V)) : List (Key × V) := es.filter fun e => decide (¬ e.1.1 < NUM)
def wanted (es : List (Key × V)) : List (Key × V) := (byNum es).flatMap fun e => ents pl e.1.2 e.2
theorem byNum_append (a b : List (Key × V)) : byNum (a ++ b) = byNum a ++ byNum b := List.filter_append ..
theorem wanted_lo {pre : List (Key × V)} {e : Key × V} (h : e.1.1 < NUM) : wanted pl (pre ++ [e]) = wanted pl pre := by
 have : byNum [e] = [] := List.filter_eq_nil_iff.2 fun x hx => by rw [List.mem_singleton.1 hx]; simpa using h
 rw [wanted,byNum_append,this,List.append_nil]; rfl
theorem wanted_hi {pre : List (Key × V)} {e : Key × V} (h : ¬ e.1.1 < NUM) : wanted pl (pre ++ [e]) = wanted pl pre ++ ents pl e.1.2 e.2 := by
 have : byNum [e] = [e] := List.filter_eq_self.2 fun x hx => by rw [List.mem_singleton.1 hx]; exact decide_eq_true h
 rw [wanted,byNum_append,this,List.flatMap_append]; simp [wanted]
theorem check_sound {es : List (Key × V)} (hr : Rising es) (hok : ∀ e ∈ es, ¬ e.1.1 < NUM → (0 ≤ e.1.2 ∧ e.1.2 ≤ 4611686018427387904) ∧ PlOk pl e.2) (hm : ∀ x,x ∈ es ↔ x ∈ wanted pl es) : ∃ tb,Idx pl tb es ∧ ∀ t ∈ tb, ∃ e ∈ es, ¬ e.1.1 < NUM ∧ t = (e.1.2,e.2) := by
 have hnum : ∀ e ∈ es, ¬ e.1.1 < NUM → e.1.1 = NUM := fun e he hge => by
  obtain ⟨f,_,hf⟩ := List.mem_flatMap.1 ((hm e).1 he)
  rcases mem_ents.1 hf with h | ⟨p,hp,h⟩
  ·rw [h]
  ·have hf2 := (List.mem_filter.1 (by assumption : f ∈ byNum es))
   have := (hok f hf2.1 (by simpa using hf2.2)).2.lt p hp
   rw [h] at hge
   simp only [NUM] at hge
   omega
 refine ⟨(byNum es).map fun e => (e.1.2,e.2),⟨hr,fun x => ?_, ?_,fun t ht => ?_,fun t ht => ?_⟩,fun t ht => ?_⟩
 ·rw [hm x]
  simp only [wanted,List.mem_flatMap,List.mem_map]
  constructor
  ·rintro ⟨e,he,hx⟩; exact ⟨_,⟨e,he,rfl⟩,hx⟩
  ·rintro ⟨t,⟨e,he,rfl⟩,hx⟩; exact ⟨e,he,hx⟩
 ·refine List.pairwise_map.2 ?_
  have hp : (byNum es).Pairwise fun a b => klt a.1 b.1 := List.Pairwise.filter _ hr
  refine List.Pairwise.imp_of_mem ?_ hp
  intro a b ha hb hab
  obtain ⟨a1,a2⟩ := List.mem_filter.1 ha
  obtain ⟨b1,b2⟩ := List.mem_filter.1 hb
  have e1 := hnum a a1 (by simpa using a2)
  have e2 := hnum b b1 (by simpa using b2)
  unfold klt at hab
  show a.1.2 < b.1.2
  omega
 ·obtain ⟨e,he,rfl⟩ := List.mem_map.1 ht
  obtain ⟨a1,a2⟩ := List.mem_filter.1 he
  exact (hok e a1 (by simpa using a2)).1
 ·obtain ⟨e,he,rfl⟩ := List.mem_map.1 ht
  obtain ⟨a1,a2⟩ := List.mem_filter.1 he
  exact (hok e a1 (by simpa using a2)).2
 ·obtain ⟨e,he,rfl⟩ := List.mem_map.1 ht
  obtain ⟨a1,a2⟩ := List.mem_filter.1 he
  exact ⟨e,a1,by simpa using a2,rfl⟩
theorem Idx.num {pl : V → List Nat} {tb : List (Int × V)} {es : List (Key × V)} (h : Idx pl tb es) {e : Key × V} (he : e ∈ es) (hge : ¬ e.1.1 < NUM) : e.1.1 = NUM ∧ (e.1.2,e.2) ∈ tb := by
 obtain ⟨t,ht,hm⟩ := (h.mem e).1 he
 rcases mem_ents.1 hm with g | ⟨p,hp,g⟩
 ·rw [g]; exact ⟨rfl,ht⟩
 ·have := (h.pl t ht).lt p hp
  rw [g] at hge
  simp only [NUM] at hge
  omega
theorem check_full {pl : V → List Nat} {tb : List (Int × V)} {es : List (Key × V)} (h : Idx pl tb es) (x : Key × V) : x ∈ es ↔ x ∈ wanted pl es := by
 simp only [wanted,List.mem_flatMap]
 constructor
 ·intro hx
  obtain ⟨t,ht,hm⟩ := (h.mem x).1 hx
  have hn : ((NUM,t.1),t.2) ∈ es := (h.mem _).2 ⟨t,ht,mem_ents.2 (.inl rfl)⟩
  exact ⟨_,List.mem_filter.2 ⟨hn,by simp⟩,hm⟩
 ·rintro ⟨e,he,hx⟩
  obtain ⟨a1,a2⟩ := List.mem_filter.1 he
  obtain ⟨_,g⟩ := h.num a1 (by simpa using a2)
  exact (h.mem x).2 ⟨_,g,hx⟩
theorem wanted_keys {pl : V → List Nat} {tb : List (Int × V)} {es : List (Key × V)} (h : Idx pl tb es) : (wanted pl es).Pairwise fun a b => a.1 ≠ b.1 := by
 unfold wanted
 rw [List.pairwise_flatMap]
 constructor
 ·intro e he
  obtain ⟨a1,a2⟩ := List.mem_filter.1 he
  obtain ⟨_,g⟩ := h.num a1 (by simpa using a2)
  exact ents_apart (h.pl _ g)
 ·have hp : (byNum es).Pairwise fun a b => klt a.1 b.1 := List.Pairwise.filter _ h.ris
  refine List.Pairwise.imp_of_mem ?_ hp
  intro a b ha hb hab x hx y hy e
  obtain ⟨a1,a2⟩ := List.mem_filter.1 ha
  obtain ⟨b1,b2⟩ := List.mem_filter.1 hb
  have e1 := (h.num a1 (by simpa using a2)).1
  have e2 := (h.num b1 (by simpa using b2)).1
  have x1 := (ents_id hx).1
  have y1 := (ents_id hy).1
  unfold klt at hab
  have : x.1.2 = y.1.2 := by rw [e]
  omega
theorem sorted_is {a b : List (Key × V)} (ha : Rising a) (hp : ∀ x,x ∈ a ↔ x ∈ b) (hb : b.Pairwise fun x y => ¬ klt y.1 x.1) (hk : b.Pairwise fun x y => x.1 ≠ y.1) : b = a := by
 refine (rising_ext ha ?_ hp).symm
 refine List.Pairwise.imp ?_ (hb.and hk)
 rintro x y ⟨h1,h2⟩
 exact klt_of_not h1 (Ne.symm h2)
end
end
end Go.Proofs.YtdgbgmffpcooeaaGreat
