/- Se1 CovF Gr1 En1 -/
import Derived.Test.YtdgbgmffpcooeaaGreatU28
namespace Go.Proofs.YtdgbgmffpcooeaaGreat
open Go.RowKit Go.Shelf Go.Lib Go.Sort
section
abbrev intsV (l : List Int) : List Value := l.map (Value.int .i64)
theorem ownI {W' : World} {base g cap k : Nat} {cur : Array Value} {arr : List Int} (hbase : base ≤ g) (hW' : W'.heap[g]? = some (.cells (putCells (Value.int .i64) 0 arr.toArray cur) 3 (0, 0))) (h1 : k ≤ arr.length) (h2 : arr.length ≤ cap) (h3 : cap ≤ maxLen) (h4 : cur.size = cap * 1) :
  W'.ownsRow base 3 1 (.slice (some ⟨g, 0,none⟩) k cap) k (intsV (arr.take k)) := by
 refine ⟨by simp; omega, .inr ⟨g,cap,_,rfl,hbase,hW',by omega,h3,by simp [putCells,h4], ?_⟩⟩
 apply List.ext_getElem?
 intro j
 by_cases hj : j < k
 ·rw [List.getElem?_take_of_lt (by omega),Array.getElem?_toList]
  have h5 : j < cur.size := by omega
  have h6 : j < arr.length := by omega
  simp only [putCells]
  simp [h5,hj,h6]
 ·rw [List.getElem?_take_eq_none (by omega),List.getElem?_eq_none (by simp; omega)]
theorem holdsI {w : World} {g : Nat} {cur : Array Value} {e : TypeId} {l : List Int} (hb : w.heap[g]? = some (.cells cur e (0, 0))) (ht : cur.toList.take (l.length * 1) = intsV l) : Holds (Value.int .i64) w g 0 l.toArray := by
 intro j hj
 have hj' : j < l.length := by simpa using hj
 refine ⟨?_,by simp [World.frozen?,hb]⟩
 have h1 : (cur.toList.take (l.length * 1))[j]? = (intsV l)[j]? := by rw [ht]
 rw [List.getElem?_take_of_lt (by omega)] at h1
 simp only [World.cell?,hb,Nat.zero_add]
 simp only [Option.isSome_none,Bool.false_eq_true,if_false]
 rw [← Array.getElem?_toList,h1]
 simp [hj']
theorem heap_put {w : World} {g n : Nat} {cur : Array Value} {e : TypeId} {arr : Array Int} {os : Array Obj} (hb : w.heap[g]? = some (.cells cur e (0, 0))) :
  (grow (putRow (Value.int .i64) (Sort.ahead w n) g 0 arr) os).heap[g]? = some (.cells (putCells (Value.int .i64) 0 arr cur) e (0, 0)) ∧ Off (fun k => k = g) w (grow (putRow (Value.int .i64) (Sort.ahead w n) g 0 arr) os) := by
 have hg : g < w.heap.size := (Array.getElem?_eq_some_iff.1 hb).1
 constructor
 ·rw [heap_grow_old _ _ (by simpa using hg)]
  simp [putRow,mapBlock,Sort.ahead,Array.getElem?_modify,hb,onCells]
 ·refine ⟨rfl,rfl,rfl,by simp,fun k hk hne => ?_⟩
  rw [heap_grow_old _ _ (by simp; omega)]
  have : g ≠ k := fun e => hne e.symm
  simp [putRow,mapBlock,Sort.ahead,Array.getElem?_modify,this]
theorem sortI_any (w : World) (base : Nat) (v : Value) (l : List Int) (h : w.ownsRow base 3 1 v l.length (intsV l)) (hl : l.length < 4611686018427387904) :
  Calls Tryz.prog 93 #[v] w fun e w' => e = .returned (.tuple #[]) ∧ w'.ownsRow base 3 1 v l.length (intsV (l.mergeSort fun x y => decide (x ≤ y))) ∧ Off (fun k => v.ownBlock = some k) w w' := by
 obtain ⟨h0,⟨rfl,hn⟩ | ⟨g,cap,cur,rfl,hb,hg,h1,h2,h3,h4⟩⟩ := h
 ·have : l = [] := List.length_eq_zero_iff.1 hn
  subst this
  refine (AnyM.slices_Sort_int_none Tryz.sortI none 0 w).mono ?_
  rintro e w' ⟨rfl,rfl⟩
  exact ⟨rfl,⟨by simp, .inl ⟨rfl,rfl⟩⟩,Off.refl _ _⟩
 ·have hgl : g < w.heap.size := (Array.getElem?_eq_some_iff.1 hg).1
  refine (AnyM.slices_Sort_int Tryz.sortI g 0 cap l w (holdsI hg h4) hgl hl).mono ?_
  rintro e w' ⟨rfl,n,os,rfl⟩
  obtain ⟨q1,q2⟩ := heap_put (n := n) (arr := (l.mergeSort fun x y => decide (x ≤ y)).toArray) (os := os) hg
  have hsl : (l.mergeSort fun x y => decide (x ≤ y)).length = l.length := List.length_mergeSort l
  have ho := ownI (k := l.length) hb q1 (by omega) (by omega) h2 h3
  rw [← hsl,List.take_length,hsl] at ho
  exact ⟨rfl,ho,q2.mono (fun k _ e => by rw [e]; rfl)⟩
theorem compact_len (l : List Int) : (Lib.compact l).length ≤ l.length := by
 unfold Lib.compact Lib.compactUpTo
 rw [List.length_map]
 exact Nat.le_trans (List.length_filter_le _ _) (by simp)
theorem compactUpTo_spec (d : Array Int) (n : Nat) (hs : ∀ i j,i ≤ j → j < n → d[i]! ≤ d[j]!) : ∀ m,m ≤ n → (∀ x,x ∈ Lib.compactUpTo d m ↔ ∃ j,j < m ∧ d[j]! = x) ∧ (Lib.compactUpTo d m).Pairwise (· < ·)
 | 0,_ => ⟨fun x => by simp [Lib.compactUpTo],by simp [Lib.compactUpTo]⟩
 | m + 1,hm => by
  obtain ⟨h1,h2⟩ := compactUpTo_spec d n hs m (by omega)
  rw [Lib.compactUpTo_succ]
  by_cases hk : Lib.keeps d m = true
  ·rw [if_pos hk]
   constructor
   ·intro x
    rw [List.mem_append,h1,List.mem_singleton]
    constructor
    ·rintro (⟨j,hj,e⟩ | e)
     ·exact ⟨j,by omega,e⟩
     ·exact ⟨m,by omega,e.symm⟩
    ·rintro ⟨j,hj,e⟩
     by_cases hjm : j = m
     ·subst hjm; exact .inr e.symm
     ·exact .inl ⟨j,by omega,e⟩
   ·rw [List.pairwise_append]
    refine ⟨h2,List.pairwise_singleton _ _,fun x hx y hy => ?_⟩
    rw [List.mem_singleton.1 hy]
    obtain ⟨j,hj,e⟩ := (h1 x).1 hx
    have hk' : m = 0 ∨ d[m]! ≠ d[m - 1]! := by simpa [Lib.keeps] using hk
    have a1 := hs j (m - 1) (by omega) (by omega)
    have a2 := hs (m - 1) m (by omega) (by omega)
    rcases hk' with h | h
    ·omega
    ·show x < d[m]!
     omega
  ·rw [if_neg hk,List.append_nil]
   refine ⟨fun x => ?_,h2⟩
   rw [h1]
   have hk' : ¬ (m = 0 ∨ d[m]! ≠ d[m - 1]!) := fun h => hk (by simpa [Lib.keeps] using h)
   have hm0 : m ≠ 0 := fun h => hk' (.inl h)
   have hd : d[m]! = d[m - 1]! := Classical.byContradiction fun h => hk' (.inr h)
   constructor
   ·rintro ⟨j,hj,e⟩; exact ⟨j,by omega,e⟩
   ·rintro ⟨j,hj,e⟩
    by_cases hjm : j = m
    ·subst hjm; exact ⟨j - 1,by omega,by rw [← hd]; exact e⟩
    ·exact ⟨j,by omega,e⟩
theorem compact_spec {l : List Int} (hs : l.Pairwise (· ≤ ·)) : (∀ x,x ∈ Lib.compact l ↔ x ∈ l) ∧ (Lib.compact l).Pairwise (· < ·) := by
 have hg : ∀ i,i < l.length → (l.toArray[i]! : Int) = l[i]! := fun i hi => by simp
 have h := compactUpTo_spec l.toArray l.length (fun i j hij hj => by
  rw [hg i (by omega),hg j hj,getElem!_pos l i (by omega),getElem!_pos l j hj]
  by_cases e : i = j
  ·subst e; exact Int.le_refl _
  ·exact List.pairwise_iff_getElem.1 hs i j (by omega) hj (by omega)) l.length (Nat.le_refl _)
 refine ⟨fun x => (h.1 x).trans ⟨?_,fun hx => ?_⟩,h.2⟩
 ·rintro ⟨j,hj,e⟩
  rw [hg j hj,getElem!_pos l j hj] at e
  rw [← e]; exact List.getElem_mem hj
 ·obtain ⟨j,hj,e⟩ := List.getElem_of_mem hx
  exact ⟨j,hj,by rw [hg j hj,getElem!_pos l j hj,e]⟩
theorem idsOf (acc : List Int) : (∀ x,x ∈ Lib.compact (acc.mergeSort fun x y => decide (x ≤ y)) ↔ x ∈ acc) ∧ (Lib.compact (acc.mergeSort fun x y => decide (x ≤ y))).Pairwise (· < ·) := by
 have hp := List.mergeSort_perm acc (fun x y => decide (x ≤ y))
 have hs : (acc.mergeSort fun x y => decide (x ≤ y)).Pairwise (· ≤ ·) := by
  have := List.pairwise_mergeSort (le := fun x y : Int => decide (x ≤ y)) (fun a b c h1 h2 => by simp at h1 h2 ⊢; omega) (fun a b => by simp; omega) acc
  exact this.imp (fun h => by simpa using h)
 obtain ⟨h1,h2⟩ := compact_spec hs
 exact ⟨fun x => (h1 x).trans hp.mem_iff,h2⟩
theorem compact_any (w : World) (base : Nat) (v : Value) (l : List Int) (h : w.ownsRow base 3 1 v l.length (intsV l)) (hl : l.length < 4611686018427387904) :
  Calls Tryz.prog 94 #[v] w fun e w' => ∃ v',e = .returned v' ∧ w'.ownsRow base 3 1 v' (Lib.compact l).length (intsV (Lib.compact l)) ∧ (∀ k,v'.ownBlock = some k → v.ownBlock = some k) ∧ Off (fun k => v.ownBlock = some k) w w' := by
 obtain ⟨h0,⟨rfl,hn⟩ | ⟨g,cap,cur,rfl,hb,hg,h1,h2,h3,h4⟩⟩ := h
 ·have : l = [] := List.length_eq_zero_iff.1 hn
  subst this
  refine (Any.slices_Compact_int_empty Tryz.compactI none 0 w).mono ?_
  rintro e w' ⟨rfl,rfl⟩
  exact ⟨_,rfl,⟨rfl, .inl ⟨rfl,rfl⟩⟩,fun k h => h,Off.refl _ _⟩
 ·refine (Any.slices_Compact_int Tryz.compactI g 0 cap l w (holdsI hg h4) (by omega) h1).mono ?_
  rintro e w' ⟨rfl,q,rfl⟩
  have hcl := compact_len l
  obtain ⟨q1,q2⟩ := heap_put (n := q) (arr := (Lib.compact l ++ List.replicate (l.length - (Lib.compact l).length) 0).toArray) (os := #[]) hg
  rw [show ∀ W : World,grow W #[] = W from fun W => by simp [grow]] at q1 q2
  have ho := ownI (k := (Lib.compact l).length) hb q1 (by simp) (by simp; omega) h2 h3
  rw [List.take_left] at ho
  exact ⟨_,rfl,ho,fun k h => h,q2.mono (fun k _ e => by rw [e]; rfl)⟩
end
end Go.Proofs.YtdgbgmffpcooeaaGreat
namespace Go.Proofs.YtdgbgmffpcooeaaGreat
section
theorem cod_shl (k m x y : Nat) : cod (k + m) (x * 2 ^ k) (y * 2 ^ k) = cod m x y * 4 ^ k := by
 induction k with
 | zero => simp
 | succ k ih =>
  rw [show k + 1 + m = (k + m) + 1 by omega,cod]
  have ex : x * 2 ^ (k + 1) / 2 = x * 2 ^ k := by rw [Nat.pow_succ, ← Nat.mul_assoc,Nat.mul_div_cancel _ (by decide)]
  have ey : y * 2 ^ (k + 1) / 2 = y * 2 ^ k := by rw [Nat.pow_succ, ← Nat.mul_assoc,Nat.mul_div_cancel _ (by decide)]
  have mx : x * 2 ^ (k + 1) % 2 = 0 := by rw [Nat.pow_succ, ← Nat.mul_assoc,Nat.mul_mod_left]
  have my : y * 2 ^ (k + 1) % 2 = 0 := by rw [Nat.pow_succ, ← Nat.mul_assoc,Nat.mul_mod_left]
  rw [ex,ey,mx,my,ih,Nat.pow_succ 4 k]
  have : cod m x y * (4 ^ k * 4) = 4 * (cod m x y * 4 ^ k) := by rw [Nat.mul_comm (4 ^ k),Nat.mul_left_comm]
  omega
theorem celAt_fst (k x y : Nat) (hk : k ≤ 16) : (celAt k x y).1 = cod (16 - k) x y * 4 ^ k := by
 have := cod_shl k (16 - k) x y
 rw [show k + (16 - k) = 16 by omega] at this
 exact this
theorem celAt_div (k x y : Nat) (hk : k ≤ 16) : (celAt k x y).1 / 4 ^ k = cod (16 - k) x y := by
 rw [celAt_fst k x y hk,Nat.mul_div_cancel _ (Nat.pow_pos (by decide))]
theorem code_div (k x y : Nat) (hk : k ≤ 16) : code x y / 4 ^ k = cod (16 - k) (x / 2 ^ k) (y / 2 ^ k) := by
 have := cod_div k (16 - k) x y
 rw [show k + (16 - k) = 16 by omega] at this
 exact this
theorem shr_small (x k : Nat) (hk : k ≤ 16) (hx : x < 65536) : x / 2 ^ k < 2 ^ (16 - k) :=
 Nat.div_lt_of_lt_mul (by rw [← Nat.pow_add,show k + (16 - k) = 16 by omega]; exact hx)
theorem mem_gridL (k A B nr n : Nat) (x : Nat × Nat) : x ∈ gridL k A B nr n 0 ↔ ∃ i j,i < n ∧ j < nr ∧ x = celAt k (A + i) (B + j) := by
 unfold gridL
 simp only [List.range_zero,List.map_nil,List.append_nil,List.mem_flatMap,List.mem_map,List.mem_range]
 constructor
 ·rintro ⟨i,hi,j,hj,e⟩; exact ⟨i,j,hi,hj,e.symm⟩
 ·rintro ⟨i,j,hi,hj,e⟩; exact ⟨i,hi,j,hj,e.symm⟩
theorem nodup_gridL (k A B nr n : Nat) (hk : k ≤ 16) (hA : A + n ≤ 2 ^ (16 - k)) (hB : B + nr ≤ 2 ^ (16 - k)) : (gridL k A B nr n 0).Nodup := by
 have inj : ∀ i j i' j',i < n → j < nr → i' < n → j' < nr → celAt k (A + i) (B + j) = celAt k (A + i') (B + j') → i = i' ∧ j = j' := by
  intro i j i' j' hi hj hi' hj' e
  have e1 : (celAt k (A + i) (B + j)).1 / 4 ^ k = (celAt k (A + i') (B + j')).1 / 4 ^ k := by rw [e]
  rw [celAt_div k _ _ hk,celAt_div k _ _ hk] at e1
  have := cod_inj (16 - k) _ _ _ _ (by omega) (by omega) (by omega) (by omega) e1
  omega
 unfold gridL List.Nodup
 simp only [List.range_zero,List.map_nil,List.append_nil]
 rw [List.pairwise_flatMap]
 constructor
 ·intro i hi
  rw [List.pairwise_map]
  refine List.Pairwise.imp_of_mem ?_ List.nodup_range
  intro j j' hj hj' hne e
  simp only [List.mem_range] at hi hj hj'
  exact hne (inj i j i j' hi hj hi hj' e).2
 ·refine List.Pairwise.imp_of_mem ?_ List.nodup_range
  intro i i' hi hi' hne a ha b hb e
  simp only [List.mem_map,List.mem_range] at hi hi' ha hb
  obtain ⟨j,hj,ea⟩ := ha
  obtain ⟨j',hj',eb⟩ := hb
  exact hne (inj i j i' j' hi hj hi' hj' (ea.trans (e.trans eb.symm))).1
theorem IsCover.k15 {r : Box} {k : Nat} {l : List (Nat × Nat)} (h : IsCover r k l) (hr : r.ok) : k ≤ 15 := size_le hr h.size
theorem IsCover.mem {r : Box} {k : Nat} {l : List (Nat × Nat)} (h : IsCover r k l) (hr : r.ok) (x : Nat × Nat) :
  x ∈ l ↔ ∃ p q,r.a / 2 ^ k ≤ p ∧ p ≤ r.c / 2 ^ k ∧ r.b / 2 ^ k ≤ q ∧ q ≤ r.d / 2 ^ k ∧ x = celAt k p q := by
 have h1 : r.a / 2 ^ k ≤ r.c / 2 ^ k := Nat.div_le_div_right hr.1
 have h2 : r.b / 2 ^ k ≤ r.d / 2 ^ k := Nat.div_le_div_right hr.2.2.1
 rw [h.perm.mem_iff,mem_gridL]
 constructor
 ·rintro ⟨i,j,hi,hj,e⟩; exact ⟨_,_,by omega,by omega,by omega,by omega,e⟩
 ·rintro ⟨p,q,e1,e2,e3,e4,e⟩
  exact ⟨p - r.a / 2 ^ k,q - r.b / 2 ^ k,by omega,by omega,by rw [e,show r.a / 2 ^ k + (p - r.a / 2 ^ k) = p by omega,show r.b / 2 ^ k + (q - r.b / 2 ^ k) = q by omega]⟩
theorem IsCover.nodup {r : Box} {k : Nat} {l : List (Nat × Nat)} (h : IsCover r k l) (hr : r.ok) : l.Nodup := by
 have hk := h.k15 hr
 have h1 : r.a / 2 ^ k ≤ r.c / 2 ^ k := Nat.div_le_div_right hr.1
 have h2 : r.b / 2 ^ k ≤ r.d / 2 ^ k := Nat.div_le_div_right hr.2.2.1
 have h3 := shr_small r.c k (by omega) hr.2.1
 have h4 := shr_small r.d k (by omega) hr.2.2.2
 exact h.perm.symm.nodup (nodup_gridL k _ _ _ _ (by omega) (by omega) (by omega))
theorem IsCover.len {r : Box} {k : Nat} {l : List (Nat × Nat)} (h : IsCover r k l) (hr : r.ok) : l.length = 1 ∨ l.length = 2 ∨ l.length = 4 := by
 have h1 : r.a / 2 ^ k ≤ r.c / 2 ^ k := Nat.div_le_div_right hr.1
 have h2 : r.b / 2 ^ k ≤ r.d / 2 ^ k := Nat.div_le_div_right hr.2.2.1
 have h3 := h.size.1.1
 have h4 := h.size.1.2
 rw [h.perm.length_eq,length_gridL]
 rcases (show r.c / 2 ^ k - r.a / 2 ^ k + 1 = 1 ∨ r.c / 2 ^ k - r.a / 2 ^ k + 1 = 2 by omega) with e | e <;> rcases (show r.d / 2 ^ k - r.b / 2 ^ k + 1 = 1 ∨ r.d / 2 ^ k - r.b / 2 ^ k + 1 = 2 by omega) with f | f <;> rw [e,f] <;> simp
def meetB (r s : Box) : Bool := decide (r.a ≤ s.c ∧ s.a ≤ r.c ∧ r.b ≤ s.d ∧ s.b ≤ r.d)
structure Good (r : Box) (k : Nat) (x : Nat × Nat) : Prop where
 two : x.2 = k
 cell : x.1 = x.1 / 4 ^ k * 4 ^ k
 fits : (x.1 / 4 ^ k + 1) * 4 ^ k ≤ 4294967296
 meets : meetB (sqr (x.1 / 4 ^ k) k) r = true
theorem IsCover.good {r : Box} {k : Nat} {l : List (Nat × Nat)} (h : IsCover r k l) (hr : r.ok) {x : Nat × Nat} (hx : x ∈ l) : Good r k x := by
 have hk := h.k15 hr
 obtain ⟨p,q,e1,e2,e3,e4,rfl⟩ := (h.mem hr x).1 hx
 have p4 := Nat.pow_pos (n := k) (show 0 < 4 by decide)
 have h3 := shr_small r.c k (by omega) hr.2.1
 have h4 := shr_small r.d k (by omega) hr.2.2.2
 have ed := celAt_div k p q (by omega)
 have ef := celAt_fst k p q (by omega)
 have hlt := cod_lt (16 - k) p q
 have hfit : (cod (16 - k) p q + 1) * 4 ^ k ≤ 4294967296 := by
  have := Nat.mul_le_mul_right (4 ^ k) (show cod (16 - k) p q + 1 ≤ 4 ^ (16 - k) from hlt)
  rw [← Nat.pow_add,show 16 - k + k = 16 by omega] at this
  exact this
 refine ⟨rfl,by rw [ed]; exact ef,by rw [ed]; exact hfit, ?_⟩
 rw [ed]
 have hx := dex_shift k (16 - k) (cod (16 - k) p q)
 have hy := dey_shift k (16 - k) (cod (16 - k) p q)
 rw [show k + (16 - k) = 16 by omega] at hx hy
 rw [dex_cod _ _ _ (by omega)] at hx
 rw [dey_cod _ _ _ (by omega)] at hy
 have q2 := Nat.two_pow_pos k
 have d1 : p * 2 ^ k ≤ r.c := Nat.le_trans (Nat.mul_le_mul_right _ e2) (Nat.div_mul_le_self _ _)
 have d2 : q * 2 ^ k ≤ r.d := Nat.le_trans (Nat.mul_le_mul_right _ e4) (Nat.div_mul_le_self _ _)
 have d3 : r.a < (p + 1) * 2 ^ k := Nat.lt_of_lt_of_le (Nat.lt_mul_of_div_lt (Nat.lt_succ_of_le e1) q2) (Nat.le_refl _)
 have d4 : r.b < (q + 1) * 2 ^ k := Nat.lt_of_lt_of_le (Nat.lt_mul_of_div_lt (Nat.lt_succ_of_le e3) q2) (Nat.le_refl _)
 rw [Nat.add_mul] at d3 d4
 unfold meetB
 rw [decide_eq_true_iff]
 simp only [sqr]
 rw [hx,hy]; omega
theorem IsCover.point {r : Box} {k : Nat} {l : List (Nat × Nat)} (h : IsCover r k l) (hr : r.ok) {x y : Nat} (hxy : r.has x y) : ∃ c ∈ l,c.1 / 4 ^ k = code x y / 4 ^ k := by
 have hk := h.k15 hr
 refine ⟨celAt k (x / 2 ^ k) (y / 2 ^ k),(h.mem hr _).2 ⟨_,_,Nat.div_le_div_right hxy.1,Nat.div_le_div_right hxy.2.1,Nat.div_le_div_right hxy.2.2.1,Nat.div_le_div_right hxy.2.2.2,rfl⟩, ?_⟩
 rw [celAt_div k _ _ (by omega),code_div k _ _ (by omega)]
theorem IsCover.one {r : Box} {k : Nat} {l : List (Nat × Nat)} (h : IsCover r k l) (hr : r.ok) {x y : Nat} (hxy : r.has x y) : l.countP (fun c => c.1 / 4 ^ k == code x y / 4 ^ k) = 1 := by
 have hk := h.k15 hr
 obtain ⟨c,hc,e⟩ := h.point hr hxy
 have : ∀ z ∈ l,(z.1 / 4 ^ k == code x y / 4 ^ k) = true ↔ (z == c) = true := by
  intro z hz
  rw [beq_iff_eq,beq_iff_eq, ← e]
  constructor
  ·intro g
   have gz := h.good hr hz
   have gc := h.good hr hc
   refine Prod.ext ?_ (gz.two.trans gc.two.symm)
   rw [gz.cell,gc.cell,g]
  ·intro g; rw [g]
 rw [List.countP_congr this]
 exact (h.nodup hr).count (a := c) |>.trans (if_pos hc)
theorem cover_unique {r : Box} {k k' : Nat} {l l' : List (Nat × Nat)} (hr : r.ok) (h : IsCover r k l) (h' : IsCover r k' l') : k = k' ∧ l = l' := by
 obtain rfl := size_unique h.size h'.size
 refine ⟨rfl, ?_⟩
 have hp : l.Perm l' := h.perm.trans h'.perm.symm
 refine hp.eq_of_pairwise ?_ h.sorted h'.sorted
 intro a b ha hb h1 h2
 exact Prod.ext (Nat.le_antisymm h1 h2) (((h.good hr ha).two).trans ((h'.good hr hb).two).symm)
theorem covers_of (r : Box) (hr : r.ok) : ∃ k L,IsCover r k L := by
 obtain ⟨k,hk⟩ : ∃ k,IsSize r k := by
  have key : ∀ n,Fits r n → ∃ k,IsSize r k := by
   intro n
   induction n using Nat.strongRecOn with
   | ind n ih =>
    intro hn
    by_cases g : ∃ j,j < n ∧ Fits r j
    ·obtain ⟨j,h1,h2⟩ := g; exact ih j h1 h2
    ·exact ⟨n,hn,fun j hj hf => g ⟨j,hj,hf⟩⟩
  exact key 15 (fits15 hr)
 refine ⟨k,(gridL k (r.a / 2 ^ k) (r.b / 2 ^ k) (r.d / 2 ^ k - r.b / 2 ^ k + 1) (r.c / 2 ^ k - r.a / 2 ^ k + 1) 0).mergeSort (fun x y => decide (x.1 ≤ y.1)),hk,List.mergeSort_perm _ _, ?_⟩
 have := List.pairwise_mergeSort (le := fun (x y : Nat × Nat) => decide (x.1 ≤ y.1)) (fun a b c h1 h2 => by simp at h1 h2 ⊢; omega) (fun a b => by simp; omega) (gridL k (r.a / 2 ^ k) (r.b / 2 ^ k) (r.d / 2 ^ k - r.b / 2 ^ k + 1) (r.c / 2 ^ k - r.a / 2 ^ k + 1) 0)
 exact this.imp (fun h => by simpa using h)
end
end Go.Proofs.YtdgbgmffpcooeaaGreat
namespace Go.Proofs.YtdgbgmffpcooeaaGreat
open Go.RowKit Go.Lib
section
abbrev cellV (c : Nat × Nat) : Value := .agg #[.int .i64 (c.1 : Int), .int .i64 (c.2 : Int)]
set_option maxRecDepth 100000 in
set_option maxHeartbeats 1000000 in
theorem place_any (w : World) (c : Nat × Nat) (h : CellOk c) :
  Calls Tryz.prog 122 #[cellV c] w fun e w' => e = .returned (.int .i64 (place c : Int)) ∧ Below w.heap.size w w' := by
 have h1 := h.size
 have h2 : c.1 < 4294967296 := h.top
 have hb : Below w.heap.size w (w.alloc (.cells #[.int .i64 (c.1 : Int), .int .i64 (c.2 : Int)] 99)) := (Below.refl _ w).alloc (Nat.le_refl _) _
 obtain ⟨a,b⟩ := c
 simp only at h1 h2 hb
 have HB : Hid _ := hb
 clear h hb
 go_enter Tryz.func122,Tryz.ntmps122
 go_wp2
 go_ret
 refine ⟨?_,HB.out⟩
 show Ending.returned (.int .i64 ((a : Int) * 17 + 16 - (b : Int))) = _
 rw [show (a : Int) * 17 + 16 - (b : Int) = ((place (a,b) : Nat) : Int) by unfold place; simp only; omega]
set_option maxRecDepth 100000 in
set_option maxHeartbeats 1000000 in
theorem cellAt_any (w : World) (p : Nat) (h : p < 73014444032) :
  Calls Tryz.prog 89 #[.int .i64 (p : Int)] w fun e w' => e = .returned (cellV (cellAt p)) ∧ Below w.heap.size w w' := by
 go_enter Tryz.func89,Tryz.ntmps89
 go_wp2
 have e1 : (p : Int) / 17 = ((p / 17 : Nat) : Int) := by omega
 have e2 : 16 - (p : Int) % 17 = ((16 - p % 17 : Nat) : Int) := by omega
 rw [e1,e2]
 refine bodyPost_ret (v := cellV (cellAt p)) (by simp [results,Tryz.results89,go_sem,cellAt]) rfl ?_
 exact ⟨rfl,(Below.refl _ w).alloc (Nat.le_refl _) _⟩
set_option maxRecDepth 100000 in
set_option maxHeartbeats 1000000 in
theorem end_any (w : World) (c : Nat × Nat) (h : CellOk c) :
  Calls Tryz.prog 92 #[cellV c] w fun e w' => e = .returned (.int .i64 (cend c : Int)) ∧ Below w.heap.size w w' := by
 have h1 := h.size
 have h2 : c.1 < 4294967296 := h.top
 obtain ⟨a,b⟩ := c
 simp only at h1 h2
 have hpw : (2 : Int) ^ (2 * b) = ((4 ^ b : Nat) : Int) := by rw [pow_cast]; congr 1; rw [show 4 = 2 ^ 2 from rfl, ← Nat.pow_mul]
 have hp4 : 4 ^ b ≤ 4294967296 := Nat.pow_le_pow_right (n := 4) (by decide) (show b ≤ 16 from h1)
 have hce : cend (a,b) = a + 4 ^ b := rfl
 rw [hce]
 generalize 4 ^ b = q at hpw hp4
 have e1 : wrap64 (2 ^ (2 * b)) = (q : Int) := by rw [hpw]; unfold wrap64; omega
 have e2 : wrap64 ((a : Int) + (q : Int)) = ((a + q : Nat) : Int) := by unfold wrap64; omega
 clear hce
 have B := Blk.new w 99 #[.int .i64 (a : Int), .int .i64 (b : Int)]
 have c0 : (w.alloc (.cells #[.int .i64 (a : Int), .int .i64 (b : Int)] 99)).cell? ⟨w.heap.size, 0,none⟩ = some (.int .i64 (a : Int)) := B.cell 0
 have c1 : (w.alloc (.cells #[.int .i64 (a : Int), .int .i64 (b : Int)] 99)).cell? ⟨w.heap.size, 1,none⟩ = some (.int .i64 (b : Int)) := B.cell 1
 have hb : Below w.heap.size w (w.alloc (.cells #[.int .i64 (a : Int), .int .i64 (b : Int)] 99)) := (Below.refl _ w).alloc (Nat.le_refl _) _
 clear h B
 go_enter Tryz.func92,Tryz.ntmps92
 go_upto_region 1 with fail
 go_quiet (fail)
 go_wp2
 go_ret
 exact ⟨by show Ending.returned (.int .i64 ((a : Int) + (q : Int))) = _; rw [Int.natCast_add],below_drewN hb nq⟩
set_option maxRecDepth 100000 in
set_option maxHeartbeats 1000000 in
theorem around_any (w : World) (c k : Nat) (hk : k ≤ 16) (hc : c < 4294967296) :
  Calls Tryz.prog 119 #[.int .i64 (c : Int), .int .i64 (k : Int)] w fun e w' => e = .returned (cellV (around c k)) ∧ Below w.heap.size w w' := by
 go_enter Tryz.func119,Tryz.ntmps119
 go_wp2
 have hq : c / 4 ^ k * 4 ^ k ≤ c := Nat.div_mul_le_self _ _
 have e1 : wrap64 ((c : Int) / 2 ^ (2 * k) * 2 ^ (2 * k)) = ((c / 4 ^ k * 4 ^ k : Nat) : Int) := by
  rw [shr_of c k]; exact shl_of (c / 4 ^ k) k _ rfl (by omega)
 rw [e1]
 refine bodyPost_ret (v := cellV (around c k)) (by simp [results,Tryz.results119,go_sem,around]) rfl ?_
 exact ⟨rfl,(Below.refl _ w).alloc (Nat.le_refl _) _⟩
set_option maxRecDepth 100000 in
set_option maxHeartbeats 1000000 in
theorem gmeet_any (w : World) (s r : Box) :
  Calls Tryz.prog 90 #[.agg #[.int .i64 s.a, .int .i64 s.b, .int .i64 s.c, .int .i64 s.d], .agg #[.int .i64 r.a, .int .i64 r.b, .int .i64 r.c, .int .i64 r.d]] w fun e w' => ∃ f,e = .returned (.bool f) ∧ (f = true ↔ (both s r).ok) ∧ Below w.heap.size w w' := by
 obtain ⟨m1,m2,m3,m4,f,hcom,hyes,hno⟩ := common_some s r
 have hb : Below w.heap.size w ((w.alloc (.cells #[.int .i64 s.a, .int .i64 s.b, .int .i64 s.c, .int .i64 s.d] 34)).alloc (.cells #[.int .i64 r.a, .int .i64 r.b, .int .i64 r.c, .int .i64 r.d] 34)) := ((Below.refl _ w).alloc (Nat.le_refl _) _).alloc (by simp) _
 have HF : Hid (f = true ↔ (both s r).ok) := by
  show _ ↔ _
  cases f with
  | true => exact ⟨fun _ => (hyes rfl).1,fun _ => rfl⟩
  | false => exact ⟨fun h => (by cases h),fun h => absurd h (hno rfl)⟩
 have HB : Hid _ := hb
 clear hyes hno hb
 go_enter Tryz.func90,Tryz.ntmps90
 go_wp2_with (go_at_call 123; refine (hcom _).mono ?_; rintro e w1 ⟨rfl,hb1⟩)
 go_ret
 have h1 := HB.out.trans (hb1.mono HB.out.size)
 exact ⟨f,rfl,HF.out,h1.alloc h1.size _⟩
set_option maxRecDepth 100000 in
set_option maxHeartbeats 1000000 in
theorem ckey_any (w : World) (c : Nat × Nat) (h : CellOk c) (id : Int) :
  Calls Tryz.prog 88 #[cellV c, .int .i64 id] w fun e w' => e = .returned (.agg #[.int .i64 (place c : Int), .int .i64 id]) ∧ Below w.heap.size w w' := by
 have hb : Below w.heap.size w ((w.alloc (.cells #[.int .i64 (c.1 : Int), .int .i64 (c.2 : Int)] 99)).alloc (.cells #[.int .i64 0, .int .i64 0] 154)) := ((Below.refl _ w).alloc (Nat.le_refl _) _).alloc (by simp) _
 have B := Blk.new (w.alloc (.cells #[.int .i64 (c.1 : Int), .int .i64 (c.2 : Int)] 99)) 154 #[.int .i64 0, .int .i64 0]
 rw [World.size_alloc] at B
 have hpl := place_any ((w.alloc (.cells #[.int .i64 (c.1 : Int), .int .i64 (c.2 : Int)] 99)).alloc (.cells #[.int .i64 0, .int .i64 0] 154)) c h
 have HB : Hid _ := hb
 have HBB : Hid (Blk ((w.alloc (.cells #[.int .i64 (c.1 : Int), .int .i64 (c.2 : Int)] 99)).alloc (.cells #[.int .i64 0, .int .i64 0] 154)) (w.heap.size + 1) 154 #[.int .i64 0, .int .i64 0]) := B
 clear hb h B
 generalize place c = p at hpl
 go_enter Tryz.func88,Tryz.ntmps88
 go_wp2_with (go_at_call 122; refine hpl.mono ?_; rintro e w1 ⟨rfl,hb1⟩; have B1 : Blk w1 (w.heap.size + 1) 154 #[.int .i64 0, .int .i64 0] := HBB.out.below hb1 HBB.out.lt; have d0 : w1.cell? ⟨w.heap.size + 1, 0,none⟩ = some (.int .i64 0) := B1.cell 0; have d1 : w1.cell? ⟨w.heap.size + 1, 1,none⟩ = some (.int .i64 0) := B1.cell 1; have f0 : w1.frozen? ⟨w.heap.size + 1, 0,none⟩ = false := B1.frozen 0; have f1 : w1.frozen? ⟨w.heap.size + 1, 1,none⟩ = false := B1.frozen 1)
 have B2 : Blk ((w1.setCell ⟨w.heap.size + 1, 0,none⟩ (.int .i64 (p : Int))).setCell ⟨w.heap.size + 1, 1,none⟩ (.int .i64 id)) (w.heap.size + 1) 154 #[.int .i64 (p : Int), .int .i64 id] := (B1.set 0 _).set 1 _
 have g0 := B2.cell 0
 have g1 := B2.cell 1
 simp at g0 g1
 have h1 := HB.out.trans (hb1.mono HB.out.size)
 refine bodyPost_ret (v := .agg #[.int .i64 (p : Int), .int .i64 id]) (by simp [results,Tryz.results88,go_sem,g0,g1]) rfl ?_
 exact ⟨rfl,(h1.setCell (p := ⟨w.heap.size + 1, 0,none⟩) (by simp) _).setCell (p := ⟨w.heap.size + 1, 1,none⟩) (by simp) _⟩
theorem fld99 (a b : Value) (w : World) : (Instr.field 99 (.agg #[a,b]) 0).run Tryz.prog w = .ok a w := by kernel_rfl
def NextC (r : Box) (code : Nat) (c : Nat × Nat) (more : Bool) : Prop :=
 (more = true ∧ ∃ f k,f < 4294967296 ∧ c = around f k ∧ IsNext code r (f : Int) ∧ IsWide code f k) ∨ (more = false ∧ ∀ x y,r.has x y → Go.Proofs.YtdgbgmffpcooeaaGreat.code x y < code)
set_option maxRecDepth 100000 in
set_option maxHeartbeats 2000000 in
theorem nextCell_any (w : World) (code : Nat) (hcode : code ≤ 4294967296) (r : Box) (hr : r.ok) :
  Calls Tryz.prog 86 #[.int .i64 (code : Int), .agg #[.int .i64 (r.a : Int), .int .i64 (r.b : Int), .int .i64 (r.c : Int), .int .i64 (r.d : Int)]] w fun e w' => ∃ c more,e = .returned (.tuple #[cellV c, .bool more]) ∧ NextC r code c more ∧ Below w.heap.size w w' := by
 have hb : Below w.heap.size w ((w.alloc (.cells #[.int .i64 (r.a : Int), .int .i64 (r.b : Int), .int .i64 (r.c : Int), .int .i64 (r.d : Int)] 34)).alloc (.cells #[.int .i64 0, .int .i64 0] 99)) := ((Below.refl _ w).alloc (Nat.le_refl _) _).alloc (by simp) _
 have B := Blk.new (w.alloc (.cells #[.int .i64 (r.a : Int), .int .i64 (r.b : Int), .int .i64 (r.c : Int), .int .i64 (r.d : Int)] 34)) 99 #[.int .i64 0, .int .i64 0]
 rw [World.size_alloc] at B
 by_cases hbig : code = 4294967296
 ·subst hbig
  have HB : Hid _ := hb
  go_enter Tryz.func86,Tryz.ntmps86
  go_wp2
  refine bodyPost_ret (v := .tuple #[cellV (0, 0), .bool false]) (by simp [results,Tryz.results86,go_sem]) rfl ?_
  exact ⟨(0, 0),false,rfl, .inr ⟨rfl,fun x y _ => code_lt x y⟩,HB.out⟩
 ·have hlt : code < 4294967296 := by omega
  have hlt' : ¬ ((4294967296 : Int) ≤ (code : Int)) := by omega
  have hgn := gnext_any code hlt r hr ((w.alloc (.cells #[.int .i64 (r.a : Int), .int .i64 (r.b : Int), .int .i64 (r.c : Int), .int .i64 (r.d : Int)] 34)).alloc (.cells #[.int .i64 0, .int .i64 0] 99))
  have HB : Hid _ := hb
  have HBB : Hid (Blk ((w.alloc (.cells #[.int .i64 (r.a : Int), .int .i64 (r.b : Int), .int .i64 (r.c : Int), .int .i64 (r.d : Int)] 34)).alloc (.cells #[.int .i64 0, .int .i64 0] 99)) (w.heap.size + 1) 99 #[.int .i64 0, .int .i64 0]) := B
  clear hb B hr
  go_enter Tryz.func86,Tryz.ntmps86
  go_upto_region 4 with (go_at_call 118; refine hgn.mono ?_; rintro e w1 ⟨⟨m,rfl,hm⟩,hb1⟩)
  have B1 : Blk w1 (w.heap.size + 1) 99 #[.int .i64 0, .int .i64 0] := HBB.out.below hb1 HBB.out.lt
  have hW1 := HB.out.trans (hb1.mono HB.out.size)
  have HW1 : Hid (Below w.heap.size w w1) := hW1
  clear hgn HBB HB hW1 hb1
  have HM : Hid (IsNext code r m) := hm
  rcases hm with ⟨x,y,h1,rfl,h2,h3⟩ | ⟨rfl,h4⟩
  ·have hfl := code_lt x y
   generalize Go.Proofs.YtdgbgmffpcooeaaGreat.code x y = f at HM h2 hfl
   clear h1 h3
   have hf0 : ¬ ((f : Int) < 0) := by omega
   have har := fun W k hk => around_any W f k hk hfl
   have HAR : Hid (∀ (W : World) (k : Nat),k ≤ 16 → Calls Tryz.prog 119 #[.int .i64 (f : Int), .int .i64 (k : Int)] W fun e w' => e = .returned (cellV (around f k)) ∧ Below W.heap.size W w') := har
   clear har
   go_wp2
   go_loopw [7] (fun v wr => ∃ k : Nat,v = .int .i64 (k : Int) ∧ k ≤ 16 ∧ code ≤ (around f k).1 ∧ Blk wr (w.heap.size + 1) 99 #[.int .i64 0, .int .i64 0] ∧ Below w.heap.size w wr) (fun v _ => 16 - (intOf v).toNat)
   case atStart => exact ⟨0,rfl,by omega,by simp [around]; exact h2,B1,HW1.out⟩
   case round =>
    obtain ⟨k,rfl,hk,hc,hB,hW⟩ := hrel
    have hbl := hB.lt
    by_cases hk16 : k < 16
    ·have hk16' : (k : Int) < 16 := by omega
     have ha := HAR.out wr (k + 1) (by omega)
     obtain ⟨cc,hcc⟩ : ∃ cc,around f (k + 1) = cc := ⟨_,rfl⟩
     rw [hcc] at ha
     have HCC : Hid (around f (k + 1) = cc) := hcc
     replace ha : Calls Tryz.prog 119 #[.int .i64 (f : Int), .int .i64 ((k : Int) + 1)] wr fun e w' => e = .returned (cellV cc) ∧ Below wr.heap.size wr w' := ha
     clear hcc
     have hfd := fld99 (.int .i64 (cc.1 : Int)) (.int .i64 (cc.2 : Int))
     by_cases hge : code ≤ cc.1
     ·have hge' : (code : Int) ≤ (cc.1 : Int) := by omega
      go_wp2_with (go_at_call 119; refine ha.mono ?_; rintro e w2 ⟨rfl,hb2⟩)
      have hs2 := hW.size
      go_roundw
      case rel => exact ⟨k + 1,by go_num,by omega,by rw [HCC.out]; exact hge,hB.below hb2 hbl,hW.trans (hb2.mono hs2)⟩
      case measure => simp [intOf]; omega
     ·have hge' : ¬ ((code : Int) ≤ (cc.1 : Int)) := by omega
      have HK : Hid (IsWide code f k) := ⟨by omega,hc, .inr (by rw [HCC.out]; omega)⟩
      go_upto_region 9 with (go_at_call 119; refine ha.mono ?_; rintro e w2 ⟨rfl,hb2⟩)
      have B2 := hB.below hb2 hbl
      have hs2 := hW.size
      have hW2 := hW.trans (hb2.mono hs2)
      have HW2 : Hid (Below w.heap.size w w2) := hW2
      have ha2 := HAR.out w2 k (by omega)
      have hb2l := B2.lt
      clear ha hb2 hW2 hW hB
      go_wp2_with (go_at_call 119; refine ha2.mono ?_; rintro e w3 ⟨rfl,hb3⟩; have B3 : Blk w3 (w.heap.size + 1) 99 #[.int .i64 0, .int .i64 0] := B2.below hb3 hb2l; have d0 : w3.cell? ⟨w.heap.size + 1, 0,none⟩ = some (.int .i64 0) := B3.cell 0; have d1 : w3.cell? ⟨w.heap.size + 1, 1,none⟩ = some (.int .i64 0) := B3.cell 1; have f0 : w3.frozen? ⟨w.heap.size + 1, 0,none⟩ = false := B3.frozen 0; have f1 : w3.frozen? ⟨w.heap.size + 1, 1,none⟩ = false := B3.frozen 1)
      have B4 : Blk ((w3.setCell ⟨w.heap.size + 1, 0,none⟩ (.int .i64 ((around f k).1 : Int))).setCell ⟨w.heap.size + 1, 1,none⟩ (.int .i64 ((around f k).2 : Int))) (w.heap.size + 1) 99 #[.int .i64 ((around f k).1 : Int), .int .i64 ((around f k).2 : Int)] := (B3.set 0 _).set 1 _
      have g0 := B4.cell 0
      have g1 := B4.cell 1
      simp at g0 g1
      have h5 := HW2.out.trans (hb3.mono HW2.out.size)
      refine bodyPost_ret (v := .tuple #[cellV (around f k), .bool true]) (by simp [results,Tryz.results86,go_sem,g0,g1]) rfl ?_
      exact ⟨around f k,true,rfl, .inl ⟨rfl,f,k,hfl,rfl,HM.out,HK.out⟩,(h5.setCell (p := ⟨w.heap.size + 1, 0,none⟩) (by simp) _).setCell (p := ⟨w.heap.size + 1, 1,none⟩) (by simp) _⟩
    ·have hk16' : ¬ ((k : Int) < 16) := by omega
     have HK : Hid (IsWide code f k) := ⟨by omega,hc, .inl (by omega)⟩
     have ha2 := HAR.out wr k (by omega)
     have HW2 : Hid (Below w.heap.size w wr) := hW
     clear hW
     go_wp2_with (go_at_call 119; refine ha2.mono ?_; rintro e w3 ⟨rfl,hb3⟩; have B3 : Blk w3 (w.heap.size + 1) 99 #[.int .i64 0, .int .i64 0] := hB.below hb3 hbl; have d0 : w3.cell? ⟨w.heap.size + 1, 0,none⟩ = some (.int .i64 0) := B3.cell 0; have d1 : w3.cell? ⟨w.heap.size + 1, 1,none⟩ = some (.int .i64 0) := B3.cell 1; have f0 : w3.frozen? ⟨w.heap.size + 1, 0,none⟩ = false := B3.frozen 0; have f1 : w3.frozen? ⟨w.heap.size + 1, 1,none⟩ = false := B3.frozen 1)
     have B4 : Blk ((w3.setCell ⟨w.heap.size + 1, 0,none⟩ (.int .i64 ((around f k).1 : Int))).setCell ⟨w.heap.size + 1, 1,none⟩ (.int .i64 ((around f k).2 : Int))) (w.heap.size + 1) 99 #[.int .i64 ((around f k).1 : Int), .int .i64 ((around f k).2 : Int)] := (B3.set 0 _).set 1 _
     have g0 := B4.cell 0
     have g1 := B4.cell 1
     simp at g0 g1
     have h5 := HW2.out.trans (hb3.mono HW2.out.size)
     refine bodyPost_ret (v := .tuple #[cellV (around f k), .bool true]) (by simp [results,Tryz.results86,go_sem,g0,g1]) rfl ?_
     exact ⟨around f k,true,rfl, .inl ⟨rfl,f,k,hfl,rfl,HM.out,HK.out⟩,(h5.setCell (p := ⟨w.heap.size + 1, 0,none⟩) (by simp) _).setCell (p := ⟨w.heap.size + 1, 1,none⟩) (by simp) _⟩
  ·have d0 : w1.cell? ⟨w.heap.size + 1, 0,none⟩ = some (.int .i64 0) := B1.cell 0
   have d1 : w1.cell? ⟨w.heap.size + 1, 1,none⟩ = some (.int .i64 0) := B1.cell 1
   have f0 : w1.frozen? ⟨w.heap.size + 1, 0,none⟩ = false := B1.frozen 0
   have f1 : w1.frozen? ⟨w.heap.size + 1, 1,none⟩ = false := B1.frozen 1
   have H4 : Hid _ := h4
   clear h4 HM
   go_wp2
   have B4 : Blk ((w1.setCell ⟨w.heap.size + 1, 0,none⟩ (.int .i64 0)).setCell ⟨w.heap.size + 1, 1,none⟩ (.int .i64 0)) (w.heap.size + 1) 99 #[.int .i64 0, .int .i64 0] := (B1.set 0 _).set 1 _
   have g0 := B4.cell 0
   have g1 := B4.cell 1
   simp at g0 g1
   refine bodyPost_ret (v := .tuple #[cellV (0, 0), .bool false]) (by simp [results,Tryz.results86,go_sem,g0,g1]) rfl ?_
   exact ⟨(0, 0),false,rfl, .inr ⟨rfl,H4.out⟩,(HW1.out.setCell (p := ⟨w.heap.size + 1, 0,none⟩) (by simp) _).setCell (p := ⟨w.heap.size + 1, 1,none⟩) (by simp) _⟩
end
section
open Classical in
noncomputable def covL (v : Box) : List (Nat × Nat) := if h : v.ok then (covers_of v h).choose_spec.choose else []
theorem covL_is {v : Box} (h : v.ok) : IsCover v (covers_of v h).choose (covL v) := by
 unfold covL
 rw [dif_pos h]
 exact (covers_of v h).choose_spec.choose_spec
noncomputable def plc (v : Box) : List Nat := (covL v).map place
theorem cover_cell {v : Box} {k : Nat} {l : List (Nat × Nat)} (hv : v.ok) (h : IsCover v k l) {c : Nat × Nat} (hc : c ∈ l) : CellOk c := by
 have g := h.good hv hc
 have hk := h.k15 hv
 have e := g.cell
 have p4 := Nat.pow_pos (n := k) (show 0 < 4 by decide)
 have hf := g.fits
 refine ⟨by rw [g.two]; omega, ?_, ?_⟩
 ·rw [g.two]; exact ⟨c.1 / 4 ^ k,by rw [Nat.mul_comm]; exact e⟩
 ·rw [Nat.add_mul, ← e] at hf
  show c.1 < 4294967296
  omega
theorem plc_ok {v : Box} (h : v.ok) : PlOk plc v := by
 have hc := covL_is h
 have hl := hc.len h
 refine ⟨?_,fun p hp => ?_,by unfold plc; rw [List.length_map]; omega,by unfold plc; rw [List.length_map]; omega⟩
 ·unfold plc
  refine List.Pairwise.map _ (fun a b hab => hab) (List.Pairwise.imp_of_mem (fun {a b} ha hb hab e => hab ?_) (hc.nodup h))
  have := congrArg cellAt e
  rw [cellAt_place (cover_cell h hc ha).size,cellAt_place (cover_cell h hc hb).size] at this
  exact this
 ·obtain ⟨c,hcm,rfl⟩ := List.mem_map.1 hp
  have := place_lt (cover_cell h hc hcm)
  exact this
def celEnt (id : Int) (v : Box) (c : Nat × Nat) : Key × Box := (((place c : Int),id),v)
theorem ents_is (id : Int) (v : Box) : ents plc id v = ((NUM,id),v) :: (covL v).map (celEnt id v) := by
 unfold ents plc
 rw [List.map_map]
 rfl
theorem own_one {W : World} {base g : Nat} {x : Key × Box} (h : Blk W g 156 #[.int .i64 x.1.1, .int .i64 x.1.2, .int .i64 (x.2.a : Int), .int .i64 (x.2.b : Int), .int .i64 (x.2.c : Int), .int .i64 (x.2.d : Int)]) (hb : base ≤ g) : W.ownsRow base 156 6 (.slice (some ⟨g, 0,none⟩) 1 1) 1 (flat pkR [x]) :=
 ⟨rfl, .inr ⟨g, 1,_,rfl,hb,h,Nat.le_refl _,by unfold maxLen; omega,by simp,by simp [flat,pkR,entC]⟩⟩
theorem flatC_get : ∀ {l : List (Nat × Nat)} {i : Nat} {x : Nat × Nat},l[i]? = some x → (flatC l)[i * 2]? = some (.int .i64 (x.1 : Int)) ∧ (flatC l)[i * 2 + 1]? = some (.int .i64 (x.2 : Int))
 | [],i,x,h => by cases h
 | y :: l, 0,x,h => by
  simp only [List.getElem?_cons_zero,Option.some.injEq] at h
  subst h
  exact ⟨rfl,rfl⟩
 | y :: l,i + 1,x,h => by
  rw [List.getElem?_cons_succ] at h
  have := flatC_get h
  have e : flatC (y :: l) = .int .i64 (y.1 : Int) :: .int .i64 (y.2 : Int) :: flatC l := rfl
  rw [e,show (i + 1) * 2 = i * 2 + 1 + 1 by omega,show i * 2 + 1 + 1 + 1 = (i * 2 + 1) + 1 + 1 by omega,List.getElem?_cons_succ,List.getElem?_cons_succ,List.getElem?_cons_succ,List.getElem?_cons_succ]
  exact this
set_option maxRecDepth 100000 in
set_option maxHeartbeats 4000000 in
theorem entries_any (w : World) (id : Int) (v : Box) (hv : v.ok) :
  Calls Tryz.prog 83 #[.int .i64 id, .agg #[.int .i64 (v.a : Int), .int .i64 (v.b : Int), .int .i64 (v.c : Int), .int .i64 (v.d : Int)]] w fun e w' => ∃ a c,e = .returned (.slice a (ents plc id v).length c) ∧ w'.ownsRow w.heap.size 156 6 (.slice a (ents plc id v).length c) (ents plc id v).length (flat pkR (ents plc id v)) ∧ Below w.heap.size w w' := by
 obtain ⟨i0,hi0,hz0,hz1,hz2⟩ := info_parts infoR
 have HGC : Hid (∀ W1,Calls Tryz.prog 111 #[.agg #[.int .i64 (v.a : Int), .int .i64 (v.b : Int), .int .i64 (v.c : Int), .int .i64 (v.d : Int)]] W1 fun e w' => ∃ (g cap : Nat),e = .returned (.slice (some ⟨g, 0,none⟩) (covL v).length cap) ∧ w'.ownsRow (W1.heap.size + 1) 99 2 (.slice (some ⟨g, 0,none⟩) (covL v).length cap) (covL v).length (flatC (covL v)) ∧ Below W1.heap.size W1 w') := fun W1 => by
  refine (gcover_any v hv W1).mono ?_
  rintro e w' ⟨g,cap,k,l,rfl,h1,h2,h3⟩
  obtain ⟨_,rfl⟩ := cover_unique hv h2 (covL_is hv)
  exact ⟨g,cap,rfl,h1,h3⟩
 have hlen := (covL_is hv).len hv
 have HCO : Hid (∀ c ∈ covL v,CellOk c) := fun c hc => cover_cell hv (covL_is hv) hc
 rw [ents_is id v,show (((NUM,id),v) :: (covL v).map (celEnt id v)).length = (covL v).length + 1 by simp]
 generalize covL v = l at HGC hlen HCO
 clear hv
 have B0 := Blk.new w 34 #[.int .i64 (v.a : Int), .int .i64 (v.b : Int), .int .i64 (v.c : Int), .int .i64 (v.d : Int)]
 have hb0 : Below w.heap.size w (w.alloc (.cells #[.int .i64 (v.a : Int), .int .i64 (v.b : Int), .int .i64 (v.c : Int), .int .i64 (v.d : Int)] 34)) := (Below.refl _ w).alloc (Nat.le_refl _) _
 obtain ⟨W0,hW0⟩ : ∃ W0,w.alloc (.cells #[.int .i64 (v.a : Int), .int .i64 (v.b : Int), .int .i64 (v.c : Int), .int .i64 (v.d : Int)] 34) = W0 := ⟨_,rfl⟩
 have hs0 : W0.heap.size = w.heap.size + 1 := by rw [← hW0]; simp
 have HW0 : Hid (w.alloc (.cells #[.int .i64 (v.a : Int), .int .i64 (v.b : Int), .int .i64 (v.c : Int), .int .i64 (v.d : Int)] 34) = W0) := hW0
 rw [hW0] at B0 hb0
 clear hW0
 have r0 : W0.cell? ⟨w.heap.size, 0,none⟩ = some (.int .i64 (v.a : Int)) := B0.cell 0
 have r1 : W0.cell? ⟨w.heap.size, 1,none⟩ = some (.int .i64 (v.b : Int)) := B0.cell 1
 have r2 : W0.cell? ⟨w.heap.size, 2,none⟩ = some (.int .i64 (v.c : Int)) := B0.cell 2
 have r3 : W0.cell? ⟨w.heap.size, 3,none⟩ = some (.int .i64 (v.d : Int)) := B0.cell 3
 have hnk := nkey_any W0.drew id
 have HR : Hid (∀ X,Below W0.heap.size W0 X → X.cell? ⟨w.heap.size, 0,none⟩ = some (.int .i64 (v.a : Int)) ∧ X.cell? ⟨w.heap.size, 1,none⟩ = some (.int .i64 (v.b : Int)) ∧ X.cell? ⟨w.heap.size, 2,none⟩ = some (.int .i64 (v.c : Int)) ∧ X.cell? ⟨w.heap.size, 3,none⟩ = some (.int .i64 (v.d : Int))) := fun X hX => by
  have := B0.below hX B0.lt
  exact ⟨this.cell 0,this.cell 1,this.cell 2,this.cell 3⟩
 go_enter Tryz.func83,Tryz.ntmps83
 go_upto_region 1 with fail
 rw [HW0.out]
 go_region_held3 (fun W' => W'.cell? ⟨w.heap.size, 0,none⟩ = some (.int .i64 (v.a : Int)) ∧ W'.cell? ⟨w.heap.size, 1,none⟩ = some (.int .i64 (v.b : Int)) ∧ W'.cell? ⟨w.heap.size, 2,none⟩ = some (.int .i64 (v.c : Int)) ∧ W'.cell? ⟨w.heap.size, 3,none⟩ = some (.int .i64 (v.d : Int)))
  (first
   | exact ⟨r0,r1,r2,r3⟩
   | exact HR.out _ hb1'
   | exact HR.out _ (hb1'.alloc hb1'.size _)
   | go_keep)
  (first
   | (go_at_call 108; refine hnk.mono ?_; rintro e w1 ⟨rfl,hb1⟩; have hb1' : Below W0.heap.size W0 w1 := ((Below.refl _ W0).drew).trans hb1))
 obtain ⟨W1,hW1⟩ : ∃ W1,w1.alloc (.cells #[.int .i64 NUM, .int .i64 id, .int .i64 (v.a : Int), .int .i64 (v.b : Int), .int .i64 (v.c : Int), .int .i64 (v.d : Int)] 156) = W1 := ⟨_,rfl⟩
 have hbW1 : Below W0.heap.size W0 W1 := by rw [← hW1]; exact hb1'.alloc hb1'.size _
 have hs1 := hb1'.size
 have hown1 : W1.ownsRow w.heap.size 156 6 (.slice (some ⟨w1.heap.size, 0,none⟩) 1 1) 1 (flat pkR [((NUM,id),v)]) := by
  rw [← hW1]; exact own_one (Blk.new w1 156 _) (by omega)
 obtain ⟨q0,q1,q2,q3⟩ := HR.out W1 hbW1
 have hgc2 := HGC.out W1
 rw [hW1]
 have HOWN1 : Hid (W1.ownsRow w.heap.size 156 6 (.slice (some ⟨w1.heap.size, 0,none⟩) 1 1) 1 (flat pkR [((NUM,id),v)])) := hown1
 have hbW : Below w.heap.size w W1 := hb0.trans (hbW1.mono (by omega))
 have HBW : Hid (Below w.heap.size w W1) := hbW
 have HB01 : Hid (Below W0.heap.size W0 W1) := hbW1
 have HB0 : Hid (Blk W0 w.heap.size 34 #[.int .i64 (v.a : Int), .int .i64 (v.b : Int), .int .i64 (v.c : Int), .int .i64 (v.d : Int)]) := B0
 have hsW1 := hbW1.size
 clear hW1 hown1 hbW hbW1 hb1 hb1' hb0 hnk HW0 B0 r0 r1 r2 r3 HGC
 go_wp2_with (go_at_call 111; refine hgc2.mono ?_; rintro e w2 ⟨g,cap,rfl,hcells,hb2⟩)
 have hsz2 := hb2.size
 have HR2 : Hid (∀ X,Below w2.heap.size w2 X → X.cell? ⟨w.heap.size, 0,none⟩ = some (.int .i64 (v.a : Int)) ∧ X.cell? ⟨w.heap.size, 1,none⟩ = some (.int .i64 (v.b : Int)) ∧ X.cell? ⟨w.heap.size, 2,none⟩ = some (.int .i64 (v.c : Int)) ∧ X.cell? ⟨w.heap.size, 3,none⟩ = some (.int .i64 (v.d : Int))) := fun X hX => HR.out X (HB01.out.trans ((hb2.trans (hX.mono hsz2)).mono hsW1))
 have HCELLS : Hid (w2.ownsRow (W1.heap.size + 1) 99 2 (.slice (some ⟨g, 0,none⟩) l.length cap) l.length (flatC l)) := hcells
 have HB2 : Hid (Below W1.heap.size W1 w2) := hb2
 have hgl := own_lt hcells
 have hl4 : l.length ≤ 4 := by omega
 clear hgc2 hcells hb2 hlen q0 q1 q2 q3
 go_loopw [5, 16] (fun sv x wr => ∃ i : Nat,x = .int .i64 (i : Int) ∧ i ≤ l.length ∧ wr.ownsRow w.heap.size 156 6 sv (i + 1) (flat pkR (((NUM,id),v) :: (l.take i).map (celEnt id v))) ∧ wr.ownsRow (W1.heap.size + 1) 99 2 (.slice (some ⟨g, 0,none⟩) l.length cap) l.length (flatC l) ∧ Blk wr w.heap.size 34 #[.int .i64 (v.a : Int), .int .i64 (v.b : Int), .int .i64 (v.c : Int), .int .i64 (v.d : Int)] ∧ Below w.heap.size w wr) (fun _ x _ => l.length - (intOf x).toNat)
 case atStart => exact ⟨0,rfl,Nat.zero_le _,own_below HOWN1.out HB2.out,HCELLS.out,(HB2.out.block _ (by omega)).trans ((HB01.out.block _ (by omega)).trans HB0.out),HBW.out.trans (HB2.out.mono HBW.out.size)⟩
 case round =>
  obtain ⟨i,rfl,hi,hown,hcells,hBr,hW⟩ := hrel
  have hWs := hW.size
  have hBl := hBr.lt
  by_cases hlt : i < l.length
  ·have hlt' : (i : Int) < (l.length : Int) := by omega
   obtain ⟨x,hx⟩ : ∃ x,l[i]? = some x := ⟨_,List.getElem?_eq_getElem hlt⟩
   have hxo := HCO.out x (List.mem_of_getElem? hx)
   have y0 := (own_cell hcells (i * 2) (by omega)).1
   have y1 := (own_cell hcells (i * 2 + 1) (by omega)).1
   rw [(flatC_get hx).1] at y0
   rw [(flatC_get hx).2] at y1
   obtain ⟨Wc,hWc⟩ : ∃ Wc,wr.alloc (.cells #[.int .i64 (x.1 : Int), .int .i64 (x.2 : Int)] 99) = Wc := ⟨_,rfl⟩
   have hbc : Below wr.heap.size wr Wc := by rw [← hWc]; exact (Below.refl _ wr).alloc (Nat.le_refl _) _
   have Bc : Blk Wc wr.heap.size 99 #[.int .i64 (x.1 : Int), .int .i64 (x.2 : Int)] := by rw [← hWc]; exact Blk.new wr 99 _
   have hsc : Wc.heap.size = wr.heap.size + 1 := by rw [← hWc]; simp
   have Br := hBr.below hbc hBl
   have hcc := own_below hcells hbc
   have hck := ckey_any Wc.drew x hxo id
   obtain ⟨pl,hpl⟩ : ∃ pl,place x = pl := ⟨_,rfl⟩
   rw [hpl] at hck
   have HPL : Hid (celEnt id v x = (((pl : Int),id),v)) := by show _ = _; unfold celEnt; rw [hpl]
   have HTK : Hid (l.take (i + 1) = l.take i ++ [x]) := take_snoc hx
   have hownc := own_below hown hbc
   obtain ⟨sa,sc,rfl,_,_,_⟩ := own_shape hownc
   have HPE : Hid ((((NUM,id),v) :: (l.take i).map (celEnt id v)) ++ [celEnt id v x] = ((NUM,id),v) :: (l.take (i + 1)).map (celEnt id v)) := by show _ = _; rw [HTK.out]; simp
   generalize ((NUM,id),v) :: (l.take i).map (celEnt id v) = P at hownc hown HPE
   have HP : Hid (P ++ [celEnt id v x] = ((NUM,id),v) :: (l.take (i + 1)).map (celEnt id v)) := HPE.out
   have z0 : Wc.cell? ⟨wr.heap.size, 0,none⟩ = some (.int .i64 (x.1 : Int)) := Bc.cell 0
   have z1 : Wc.cell? ⟨wr.heap.size, 1,none⟩ = some (.int .i64 (x.2 : Int)) := Bc.cell 1
   have r0 : Wc.cell? ⟨w.heap.size, 0,none⟩ = some (.int .i64 (v.a : Int)) := Br.cell 0
   have r1 : Wc.cell? ⟨w.heap.size, 1,none⟩ = some (.int .i64 (v.b : Int)) := Br.cell 1
   have r2 : Wc.cell? ⟨w.heap.size, 2,none⟩ = some (.int .i64 (v.c : Int)) := Br.cell 2
   have r3 : Wc.cell? ⟨w.heap.size, 3,none⟩ = some (.int .i64 (v.d : Int)) := Br.cell 3
   have HS : Hid (∀ X,Blk X wr.heap.size 99 #[.int .i64 (x.1 : Int), .int .i64 (x.2 : Int)] → Blk X w.heap.size 34 #[.int .i64 (v.a : Int), .int .i64 (v.b : Int), .int .i64 (v.c : Int), .int .i64 (v.d : Int)] → X.cell? ⟨wr.heap.size, 0,none⟩ = some (.int .i64 (x.1 : Int)) ∧ X.cell? ⟨wr.heap.size, 1,none⟩ = some (.int .i64 (x.2 : Int)) ∧ X.cell? ⟨w.heap.size, 0,none⟩ = some (.int .i64 (v.a : Int)) ∧ X.cell? ⟨w.heap.size, 1,none⟩ = some (.int .i64 (v.b : Int)) ∧ X.cell? ⟨w.heap.size, 2,none⟩ = some (.int .i64 (v.c : Int)) ∧ X.cell? ⟨w.heap.size, 3,none⟩ = some (.int .i64 (v.d : Int))) := fun X h1 h2 => ⟨h1.cell 0,h1.cell 1,h2.cell 0,h2.cell 1,h2.cell 2,h2.cell 3⟩
   have hBcl := Bc.lt
   have hBrl := Br.lt
   have HWC : Hid (wr.alloc (.cells #[.int .i64 (x.1 : Int), .int .i64 (x.2 : Int)] 99) = Wc) := hWc
   have HBC : Hid (Below wr.heap.size wr Wc) := hbc
   have HCC : Hid (Wc.ownsRow (W1.heap.size + 1) 99 2 (.slice (some ⟨g, 0,none⟩) l.length cap) l.length (flatC l)) := hcc
   have HWR : Hid (Below w.heap.size w wr) := hW
   clear hown hcells hW hbc hWc HPE HTK hpl hx hBr hcc
   go_upto_region 5 with fail
   rw [HWC.out]
   go_region_held3 (fun W' => W'.cell? ⟨wr.heap.size, 0,none⟩ = some (.int .i64 (x.1 : Int)) ∧ W'.cell? ⟨wr.heap.size, 1,none⟩ = some (.int .i64 (x.2 : Int)) ∧ W'.cell? ⟨w.heap.size, 0,none⟩ = some (.int .i64 (v.a : Int)) ∧ W'.cell? ⟨w.heap.size, 1,none⟩ = some (.int .i64 (v.b : Int)) ∧ W'.cell? ⟨w.heap.size, 2,none⟩ = some (.int .i64 (v.c : Int)) ∧ W'.cell? ⟨w.heap.size, 3,none⟩ = some (.int .i64 (v.d : Int)))
    (first
     | exact ⟨z0,z1,r0,r1,r2,r3⟩
     | exact HS.out _ k4 k5
     | exact HS.out _ k3 k6
     | exact HS.out _ (k3.alloc _) (k6.alloc _)
     | go_keep)
    (first
     | (go_at_call 88; refine hck.mono ?_; rintro e w3 ⟨rfl,hb3⟩; have hb3' : Below Wc.heap.size Wc w3 := ((Below.refl _ Wc).drew).trans hb3; have k3 := Bc.below hb3' hBcl; have k6 := Br.below hb3' hBrl; have hown3 := own_below hownc hb3'; have hs3 := hb3'.size)
     | (refine step_append_lies _ (by rfl) _ _ _ (by rfl) w.heap.size 156 i0 _ 6 48 Tryz.underlying151 hi0 hz0 hz1 hz2 rfl (by omega) (.slice sa (i + 1) sc) (i + 1) _ (by rfl) (hown3.alloc _) ⟨w3.heap.size, 0,none⟩ 1 1 [.int .i64 (pl : Int), .int .i64 id, .int .i64 (v.a : Int), .int .i64 (v.b : Int), .int .i64 (v.c : Int), .int .i64 (v.d : Int)] (by rfl) (by rfl) (World.news_of_block (cs := #[.int .i64 (pl : Int), .int .i64 id, .int .i64 (v.a : Int), .int .i64 (v.b : Int), .int .i64 (v.c : Int), .int .i64 (v.d : Int)]) (t := 156) (fr := (0, 0)) (heap_alloc_new w3 _)) (by simp [Value.oneCell']) (by omega) (by unfold maxLen; omega) (by omega) (by simp; omega) (w3.heap.size + 1) (by simp) ?_; intro gg capp w4 hown4 hgrow hat hlt3; have k4 := (k3.alloc (.cells #[.int .i64 (pl : Int), .int .i64 id, .int .i64 (v.a : Int), .int .i64 (v.b : Int), .int .i64 (v.c : Int), .int .i64 (v.d : Int)] 156)).grown hgrow (fun j hj => own_ne (hown3.alloc (.cells #[.int .i64 (pl : Int), .int .i64 id, .int .i64 (v.a : Int), .int .i64 (v.b : Int), .int .i64 (v.c : Int), .int .i64 (v.d : Int)] 156)) (k3.alloc (.cells #[.int .i64 (pl : Int), .int .i64 id, .int .i64 (v.a : Int), .int .i64 (v.b : Int), .int .i64 (v.c : Int), .int .i64 (v.d : Int)] 156)) (by decide) j hj); have k5 := (k6.alloc (.cells #[.int .i64 (pl : Int), .int .i64 id, .int .i64 (v.a : Int), .int .i64 (v.b : Int), .int .i64 (v.c : Int), .int .i64 (v.d : Int)] 156)).grown hgrow (fun j hj => own_ne (hown3.alloc (.cells #[.int .i64 (pl : Int), .int .i64 id, .int .i64 (v.a : Int), .int .i64 (v.b : Int), .int .i64 (v.c : Int), .int .i64 (v.d : Int)] 156)) (k6.alloc (.cells #[.int .i64 (pl : Int), .int .i64 id, .int .i64 (v.a : Int), .int .i64 (v.b : Int), .int .i64 (v.c : Int), .int .i64 (v.d : Int)] 156)) (by decide) j hj)))
   have hba : Below w3.heap.size w3 (w3.alloc (.cells #[.int .i64 (pl : Int), .int .i64 id, .int .i64 (v.a : Int), .int .i64 (v.b : Int), .int .i64 (v.c : Int), .int .i64 (v.d : Int)] 156)) := (Below.refl _ w3).alloc (Nat.le_refl _) _
   have hc4 : w4.ownsRow (W1.heap.size + 1) 99 2 (.slice (some ⟨g, 0,none⟩) l.length cap) l.length (flatC l) := by
    have h1 := own_below (own_below HCC.out hb3') hba
    refine own_offv h1 ((Off.refl (fun k => (Value.slice sa (i + 1) sc).ownBlock = some k) _).grown hgrow (fun j hj => .inl hj)) (fun g' hg' hf => ?_)
    have t1 := (own_tagged h1 hg').2
    have t2 := (own_tagged (own_below hown3 hba) hf).2
    obtain ⟨c1,e1⟩ := t1
    obtain ⟨c2,e2⟩ := t2
    rw [e1] at e2; simp at e2
   have hb4 : Below w.heap.size w w4 := by
    have h1 : Below w.heap.size w w3 := HWR.out.trans ((HBC.out.mono hWs).trans (hb3'.mono (by omega)))
    have h2 := h1.alloc h1.size (.cells #[.int .i64 (pl : Int), .int .i64 id, .int .i64 (v.a : Int), .int .i64 (v.b : Int), .int .i64 (v.c : Int), .int .i64 (v.d : Int)] 156)
    exact h2.grown hgrow (by have := h1.size; simp; omega) (fun k hk => (own_tagged hown3 hk).1)
   go_wp2
   refine ⟨⟨i + 1,by go_num,by omega, ?_,hc4,k5,hb4⟩,by simp [intOf]; omega⟩
   rw [← HP.out,flat_append,HPL.out]
   exact hown4
  ·have hlt' : decide ((i : Int) < (l.length : Int)) = false := decide_eq_false (by omega)
   have hlt2 : decide (i < l.length) = false := decide_eq_false (by omega)
   have hin : i = l.length := by omega
   rw [hin,List.take_length] at hown
   obtain ⟨sa,sc,rfl,_,_,_⟩ := own_shape hown
   have HOW : Hid _ := hown
   have HWW : Hid (Below w.heap.size w wr) := hW
   clear hown hcells hBr hW
   go_wp2
   go_ret
   exact ⟨sa,sc,rfl,HOW.out,HWW.out⟩
end
end Go.Proofs.YtdgbgmffpcooeaaGreat
