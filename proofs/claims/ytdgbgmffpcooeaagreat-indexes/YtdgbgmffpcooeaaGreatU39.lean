/- Ck2 -/
import Derived.Test.YtdgbgmffpcooeaaGreatU38
namespace Go.Proofs.YtdgbgmffpcooeaaGreat
open Go.RowKit Go.Shelf Go.Lib Go.Sort
section
theorem eq154b (a b c d : Int) (w : World) : (Op.equalIn 9999 154 (.agg #[.int .i64 a, .int .i64 b]) (.agg #[.int .i64 c, .int .i64 d])).run Tryz.prog w = .ok (decide ((a,b) = (c,d))) w := by
 have u3 := Tryz.underlying3
 have a3 := Tryz.isAgg3
 have z3 := Tryz.sizeOf3
 rw [show (9999 : Nat) = 9998 + 1 from rfl,Op.equalIn]
 simp only [Sem.run_bind,run_underlying Tryz.underlying154,Result.andThen_ok]
 simp only [Std.Legacy.Range.forIn_eq_forIn_range',Std.Legacy.Range.size,Nat.sub_zero,Nat.add_sub_cancel,Nat.div_one,List.range'_succ,List.range'_zero,List.forIn_cons,List.forIn_nil]
 go_simp
 by_cases h1 : a = c <;> by_cases h2 : b = d <;> simp [h1,h2]
theorem eq34b (a b c d a' b' c' d' : Int) (w : World) : (Op.equalIn 9999 34 (.agg #[.int .i64 a, .int .i64 b, .int .i64 c, .int .i64 d]) (.agg #[.int .i64 a', .int .i64 b', .int .i64 c', .int .i64 d'])).run Tryz.prog w = .ok (decide ((a,b,c,d) = (a',b',c',d'))) w := by
 have u3 := Tryz.underlying3
 have a3 := Tryz.isAgg3
 have z3 := Tryz.sizeOf3
 rw [show (9999 : Nat) = 9998 + 1 from rfl,Op.equalIn]
 simp only [Sem.run_bind,run_underlying Tryz.underlying34,Result.andThen_ok]
 go_simp
 by_cases h1 : a = a' <;> by_cases h2 : b = b' <;> by_cases h3 : c = c' <;> by_cases h4 : d = d' <;> simp [h1,h2,h3,h4]
def eqEB (x y : Ent) : Bool := decide (x.1.1 = y.1.1 ∧ x.1.2 = y.1.2 ∧ x.2.a = y.2.a ∧ x.2.b = y.2.b ∧ x.2.c = y.2.c ∧ x.2.d = y.2.d)
theorem eqEB_iff {x y : Ent} : eqEB x y = true ↔ x = y := by
 obtain ⟨⟨a,b⟩,⟨c,d,e,f⟩⟩ := x
 obtain ⟨⟨a',b'⟩,⟨c',d',e',f'⟩⟩ := y
 simp [eqEB,and_assoc]
theorem eq156 (x y : Ent) (w : World) : (Op.equalIn 10000 156 (.agg (entC x).toArray) (.agg (entC y).toArray)).run Tryz.prog w = .ok (eqEB x y) w := by
 have e1 := eq154b x.1.1 x.1.2 y.1.1 y.1.2 w
 have e2 := eq34b x.2.a x.2.b x.2.c x.2.d y.2.a y.2.b y.2.c y.2.d w
 unfold entC eqEB
 rw [show (10000 : Nat) = 9999 + 1 from rfl,Op.equalIn]
 simp only [Sem.run_bind,run_underlying Tryz.underlying156,Result.andThen_ok]
 have a3 := Tryz.isAgg154
 have z3 := Tryz.sizeOf154
 have a4 := Tryz.isAgg34
 have z4 := Tryz.sizeOf34
 go_simp
 simp only [Int.natCast_inj]
 by_cases h1 : x.1.1 = y.1.1 <;> by_cases h2 : x.1.2 = y.1.2 <;> by_cases h3 : x.2.a = y.2.a <;> by_cases h4 : x.2.b = y.2.b <;> by_cases h5 : x.2.c = y.2.c <;> by_cases h6 : x.2.d = y.2.d <;> simp [h1,h2,h3,h4,h5,h6]
theorem neq156 : NeqAt Tryz.prog 156 (fun x : Ent => .agg (entC x).toArray) eqEB := by
 refine ⟨fun x y w => ?_,GuardAt.agg _ (by kernel_rfl)⟩
 have h := eq156 x y w
 rw [run_neq_struct,h]
 rfl
theorem allEq_iff {a b : List Ent} : Lib.allEq eqEB a b = true ↔ a = b := by
 induction a generalizing b with
 | nil => cases b <;> simp [Lib.allEq]
 | cons x a ih =>
  cases b with
  | nil => simp [Lib.allEq]
  | cons y b => simp only [Lib.allEq,Bool.and_eq_true,eqEB_iff,ih,List.cons.injEq]
theorem rowE_cell {w : World} {g : Nat} {cur : Array Value} {l : List Ent} (hb : w.heap[g]? = some (.cells cur 156 (0, 0))) (ht : cur.toList.take (l.length * 6) = flat pkR l) (j : Nat) (hj : j < l.length) (i : Nat) (v : Value) (hv : (entC l[j]!)[i]? = some v) : w.cell? ⟨g, 0 + j * 6 + i,none⟩ = some v := by
 have hi : i < 6 := by have := (List.getElem?_eq_some_iff.1 hv).1; simpa [entC] using this
 have hg := flat_get pkR (r := l) (List.getElem?_eq_getElem hj) i hi
 have e : (l[j]! : Ent) = l[j] := getElem!_pos l j hj
 rw [e] at hv
 have hg' : (flat pkR l)[j * 6 + i]? = some v := hg.trans hv
 rw [← ht,List.getElem?_take_of_lt (by omega),Array.getElem?_toList] at hg'
 simp only [World.cell?,hb,Nat.zero_add]
 simpa using hg'
set_option maxHeartbeats 1000000 in
theorem eq_apart (p q : Option Addr) (n c m d : Nat) (h : n ≠ m) (w : World) : Calls Tryz.prog 105 #[.slice p n c, .slice q m d] w fun e w' => e = .returned (.bool false) ∧ w' = w := by
 have h1 : ((n : Int) != (m : Int)) = true := by simp; omega
 have HN : Hid (n ≠ m) := h
 clear h
 go_enter Tryz.func105,Tryz.ntmps105
 go_wp2
 go_ret
 exact ⟨rfl,rfl⟩
set_option maxHeartbeats 1000000 in
theorem eq_none (p q : Option Addr) (c d : Nat) (w : World) : Calls Tryz.prog 105 #[.slice p 0 c, .slice q 0 d] w fun e w' => e = .returned (.bool true) ∧ w' = w := by
 go_enter Tryz.func105,Tryz.ntmps105
 go_wp2
 go_loopw [13] (fun y wr => y = .int .i64 0 ∧ wr = w) (fun _ _ => 0)
 case atStart => exact ⟨rfl,rfl⟩
 case round =>
  obtain ⟨rfl,rfl⟩ := hrel
  go_wp2
  go_ret
  exact ⟨rfl,rfl⟩
theorem eqNil_any (p q : Option Addr) (n c m d : Nat) (k l : List Ent) (hk : k.length = n) (hl : l.length = m) (h : n = 0 ∨ m = 0) (w : World) : Calls Tryz.prog 105 #[.slice p n c, .slice q m d] w fun e w' => e = .returned (.bool (Lib.allEq eqEB k l)) ∧ ∃ q,w' = w.drewN q := by
 by_cases hnm : n = m
 ·have hn : n = 0 := by omega
  have hm : m = 0 := by omega
  subst hn; subst hm
  have e1 : k = [] := List.length_eq_zero_iff.1 hk
  have e2 : l = [] := List.length_eq_zero_iff.1 hl
  subst e1 e2
  refine (eq_none p q c d w).mono ?_
  rintro e w' ⟨rfl,rfl⟩
  exact ⟨rfl, 0,rfl⟩
 ·refine (eq_apart p q n c m d hnm w).mono ?_
  rintro e w' ⟨rfl,rfl⟩
  rw [Lib.allEq_len eqEB k l (by omega)]
  exact ⟨rfl, 0,rfl⟩
theorem eqRow_any (w : World) (base : Nat) (u v : Value) (k l : List Ent) (hu : w.ownsRow base 156 6 u k.length (flat pkR k)) (hv : w.ownsRow base 156 6 v l.length (flat pkR l)) (hk : k.length ≤ 1000000) (hl : l.length ≤ 1000000) :
  Calls Tryz.prog 105 #[u,v] w fun e w' => e = .returned (.bool (Lib.allEq eqEB k l)) ∧ ∃ q,w' = w.drewN q := by
 obtain ⟨h0,⟨rfl,hn⟩ | ⟨g,cap,cur,rfl,hb,hg,h1,h2,h3,h4⟩⟩ := hu
 ·obtain ⟨h0',⟨rfl,hn'⟩ | ⟨g',cap',cur',rfl,hb',hg',h1',h2',h3',h4'⟩⟩ := hv
  ·exact eqNil_any none none 0 0 0 0 k l hn hn' (.inl rfl) w
  ·exact eqNil_any none _ 0 0 _ cap' k l hn rfl (.inl rfl) w
 ·obtain ⟨h0',⟨rfl,hn⟩ | ⟨g',cap',cur',rfl,hb',hg',h1',h2',h3',h4'⟩⟩ := hv
  ·exact eqNil_any _ none _ cap 0 0 k l rfl hn (.inr rfl) w
  ·refine (AnyQ.slices_Equal Tryz.eqEnt 6 Tryz.isAgg156 Tryz.sizeOf156 entC (fun _ => rfl) eqEB neq156 g 0 k.length cap g' 0 l.length cap' k l w (Nat.le_refl _) (Nat.le_refl _) (by omega) (by omega) (fun j hj i v h => rowE_cell hg h4 j hj i v h) (fun j hj i v h => rowE_cell hg' h4' j hj i v h)).mono ?_
   rintro e w' ⟨rfl,q,rfl⟩
   rw [List.take_length,List.take_length]
   exact ⟨rfl,q,rfl⟩
end
end Go.Proofs.YtdgbgmffpcooeaaGreat
