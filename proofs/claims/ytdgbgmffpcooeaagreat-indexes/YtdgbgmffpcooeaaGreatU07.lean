/- R3 B2 -/
import Derived.Test.YtdgbgmffpcooeaaGreatU06
import Derived.Deep.LoopGhost
namespace Go.Proofs.YtdgbgmffpcooeaaGreat
open Go.RowKit Go.Lib
section
abbrev keyV (k : Key) : Value := .agg #[.int .i64 k.1, .int .i64 k.2]
abbrev entV (e : Key × Box) : Value := .agg #[.int .i64 e.1.1, .int .i64 e.1.2, .int .i64 (e.2.a : Int), .int .i64 (e.2.b : Int), .int .i64 (e.2.c : Int), .int .i64 (e.2.d : Int)]
abbrev prV (e : Key × Nat) : Value := .agg #[.int .i64 e.1.1, .int .i64 e.1.2, .int .i64 (e.2 : Int)]
theorem ret_ib {a b : Int} {x y : Bool} (h : a = b) (g : x = y) : Ending.returned (.tuple #[.int .i64 a, .bool x]) = .returned (.tuple #[.int .i64 b, .bool y]) := by rw [h,g]
--BEGIN
set_option maxHeartbeats 1000000 in
theorem firstR_any (w : World) (v : Value) (r : List (Key × Box)) (h : RowR w v r) (x : Key × Box) (t : List (Key × Box)) (hr : r = x :: t) :
  Calls Tryz.prog 131 #[v] w fun e w' => e = .returned (keyV x.1) ∧ Below w.heap.size w w' := by
 obtain ⟨b,o,c,rfl,h2,h3,hb,_,hc⟩ := h.form pkR (by rw [hr]; simp)
 have c0 : w.cell? ⟨b,o,none⟩ = some (.int .i64 x.1.1) := by have := hc 0 x (by rw [hr]; rfl) 0 _ rfl; simpa using this
 have c1 : w.cell? ⟨b,o + 1,none⟩ = some (.int .i64 x.1.2) := by have := hc 0 x (by rw [hr]; rfl) 1 _ rfl; simpa using this
 have hl : 0 < r.length := by rw [hr]; simp
 have hl' : (0 : Int) < (r.length : Int) := by omega
 clear hc hr
 go_enter Tryz.func131,Tryz.ntmps131
 go_wp2
 exact bodyPost_ret (v := keyV x.1) (by simp [results,Tryz.results131,go_sem]) rfl ⟨rfl,(Below.refl _ _).alloc (Nat.le_refl _) _⟩
set_option maxHeartbeats 1000000 in
theorem lastR_any (w : World) (v : Value) (r : List (Key × Box)) (h : RowR w v r) (i : Nat) (hi : r.length = i + 1) (x : Key × Box) (hx : r[i]? = some x) :
  Calls Tryz.prog 132 #[v] w fun e w' => e = .returned (keyV x.1) ∧ Below w.heap.size w w' := by
 obtain ⟨b,o,c,rfl,h2,h3,hb,_,hc⟩ := h.form pkR (by omega)
 have c0 : w.cell? ⟨b,o + i * 6,none⟩ = some (.int .i64 x.1.1) := hc i x hx 0 _ rfl
 have c1 : w.cell? ⟨b,o + i * 6 + 1,none⟩ = some (.int .i64 x.1.2) := hc i x hx 1 _ rfl
 unfold maxLen at h3
 have HI : Hid (r.length = i + 1) := hi
 rw [hi] at h2 ⊢
 clear hc hx h hi
 have g1 : wrap64 ((i + 1 : Nat) : Int) = ((i + 1 : Nat) : Int) := wrap64_nat _ (by omega)
 go_enter Tryz.func132,Tryz.ntmps132
 go_wp2
 exact bodyPost_ret (v := keyV x.1) (by simp [results,Tryz.results132,go_sem]) rfl ⟨rfl,(Below.refl _ _).alloc (Nat.le_refl _) _⟩
def upTo {V : Type} (r : List (Key × V)) (i : Nat) : Prop := ∀ j x y,j + 1 < i → r[j]? = some x → r[j + 1]? = some y → klt x.1 y.1
theorem rising_of_upTo {V : Type} : ∀ {r : List (Key × V)},upTo r r.length → Rising r
 | [],_ => Rising.nil
 | [x],_ => Rising.cons.2 ⟨fun _ h => (by cases h),Rising.nil⟩
 | x :: y :: r,h => by
  have h1 : Rising (y :: r) := rising_of_upTo fun j a b hj ha hb => h (j + 1) a b (by simp at hj ⊢; omega) (by simpa using ha) (by simpa using hb)
  have hxy : klt x.1 y.1 := h 0 x y (by simp) rfl rfl
  refine Rising.cons.2 ⟨fun z hz => ?_,h1⟩
  rcases List.mem_cons.1 hz with rfl | hz
  ·exact hxy
  ·exact klt_trans hxy ((Rising.cons.1 h1).1 z hz)
theorem upTo_of_rising {V : Type} {r : List (Key × V)} (h : Rising r) (i : Nat) : upTo r i := fun j x y _ hx hy => by
 obtain ⟨h1,e1⟩ := List.getElem?_eq_some_iff.1 hx
 obtain ⟨h2,e2⟩ := List.getElem?_eq_some_iff.1 hy
 have := List.pairwise_iff_getElem.1 h j (j + 1) h1 h2 (by omega)
 rwa [e1,e2] at this
open Classical in
set_option maxRecDepth 100000 in
set_option maxHeartbeats 2000000 in
theorem risingR_any (w : World) (v : Value) (r : List (Key × Box)) (h : RowR w v r) :
  Calls Tryz.prog 254 #[v] w fun e w' => e = .returned (.bool (decide (Rising r))) ∧ Below w.heap.size w w' := by
 obtain ⟨a,c,rfl,hn,hc⟩ := h.len pkR
 go_enter Tryz.func254,Tryz.ntmps254
 go_wp2
 go_loopw [3] (fun x wr => ∃ i : Nat,x = .int .i64 (i : Int) ∧ 1 ≤ i ∧ i ≤ r.length + 1 ∧ Hid (upTo r i) ∧ Below w.heap.size w wr) (fun x _ => r.length + 1 - (intOf x).toNat)
 case atStart => exact ⟨1,rfl,Nat.le_refl _,by omega,fun j _ _ hj => absurd hj (by omega),Below.refl _ _⟩
 case round =>
  obtain ⟨i,rfl,h1,h2,hu,hB⟩ := hrel
  by_cases hlt : i < r.length
  ·have hlt' : (i : Int) < (r.length : Int) := by omega
   obtain ⟨b,o,c',e,g2,g3,hb,_,hcl⟩ := (h.off pkR (F := fun _ => False) (Off.of_below hB) (fun _ h => h.elim)).form pkR (by omega)
   cases e
   obtain ⟨p,rfl⟩ : ∃ p,i = p + 1 := ⟨i - 1,by omega⟩
   obtain ⟨x,hx⟩ : ∃ x,r[p]? = some x := ⟨_,List.getElem?_eq_getElem (by omega)⟩
   obtain ⟨y,hy⟩ : ∃ y,r[p + 1]? = some y := ⟨_,List.getElem?_eq_getElem (by omega)⟩
   have c0 : wr.cell? ⟨b,o + p * 6,none⟩ = some (.int .i64 x.1.1) := hcl p x hx 0 _ rfl
   have c1 : wr.cell? ⟨b,o + p * 6 + 1,none⟩ = some (.int .i64 x.1.2) := hcl p x hx 1 _ rfl
   have d0 : wr.cell? ⟨b,o + (p + 1) * 6,none⟩ = some (.int .i64 y.1.1) := hcl (p + 1) y hy 0 _ rfl
   have d1 : wr.cell? ⟨b,o + (p + 1) * 6 + 1,none⟩ = some (.int .i64 y.1.2) := hcl (p + 1) y hy 1 _ rfl
   have hcon := kcmp_any x.1 y.1 wr.drew
   unfold maxLen at g3
   have t0 : (p : Int) < (r.length : Int) := by omega
   have q1 : IntKind.i64.wrap (p : Int) = p := wrap_i64_nat _ (by omega)
   have q3 : (p : Int) + 1 < (r.length : Int) := by omega
   have q4 : ((p : Int) + 1).toNat = p + 1 := by omega
   have q5 : (0 : Int) ≤ (p : Int) + 1 := by omega
   have hk := cmpK_neg x.1 y.1
   obtain ⟨z,hz⟩ : ∃ z,cmpK x.1 y.1 = z := ⟨_,rfl⟩
   rw [hz] at hcon hk
   have HXY : Hid (r[p]? = some x ∧ r[p + 1]? = some y) := ⟨hx,hy⟩
   have HK : Hid (z < 0 ↔ klt x.1 y.1) := hk
   have keepS : ∀ W',Below wr.heap.size wr W' → W'.cell? ⟨b,o + p * 6,none⟩ = some (.int .i64 x.1.1) ∧ W'.cell? ⟨b,o + p * 6 + 1,none⟩ = some (.int .i64 x.1.2) ∧ W'.cell? ⟨b,o + (p + 1) * 6,none⟩ = some (.int .i64 y.1.1) ∧ W'.cell? ⟨b,o + (p + 1) * 6 + 1,none⟩ = some (.int .i64 y.1.2) := fun W' hW => ⟨(hW.cell (p := ⟨b,o + p * 6,none⟩) hb).trans c0,(hW.cell (p := ⟨b,o + p * 6 + 1,none⟩) hb).trans c1,(hW.cell (p := ⟨b,o + (p + 1) * 6,none⟩) hb).trans d0,(hW.cell (p := ⟨b,o + (p + 1) * 6 + 1,none⟩) hb).trans d1⟩
   clear hz hcl h hx hy hk
   go_wp2
   go_region_held3 (fun W' => W'.cell? ⟨b,o + p * 6,none⟩ = some (.int .i64 x.1.1) ∧ W'.cell? ⟨b,o + p * 6 + 1,none⟩ = some (.int .i64 x.1.2) ∧ W'.cell? ⟨b,o + (p + 1) * 6,none⟩ = some (.int .i64 y.1.1) ∧ W'.cell? ⟨b,o + (p + 1) * 6 + 1,none⟩ = some (.int .i64 y.1.2))
    (first
     | exact ⟨c0,c1,d0,d1⟩
     | exact keepS _ ((Below.refl _ wr).drew.trans hb1)
     | go_keep)
    ((go_at_call 104; refine hcon.mono ?_; rintro e w1 ⟨rfl,hb1⟩))
   have hB1 : Below w.heap.size w w1 := hB.trans (((Below.refl _ wr).drew.trans hb1).mono hB.size)
   clear keepS hcon c0 c1 d0 d1
   by_cases hz : z < 0
   ·have tz : decide (0 ≤ z) = false := by simp; omega
    have HU : Hid (upTo r (p + 1 + 1)) := fun j a b hj ha hb => by
     by_cases e : j = p
     ·subst e
      obtain ⟨e1,e2⟩ := HXY.out
      rw [e1] at ha
      rw [e2] at hb
      cases ha; cases hb
      exact HK.out.1 hz
     ·exact hu.out j a b (by omega) ha hb
    go_wp2
    go_roundw
    case rel => exact ⟨p + 1 + 1,by go_num,by omega,by omega,HU,hB1⟩
    case measure => simp [intOf]; omega
   ·have tz : decide (0 ≤ z) = true := by simp; omega
    have HN : Hid (¬ Rising r) := fun hr => hz (HK.out.2 (upTo_of_rising hr (p + 2) p x y (by omega) HXY.out.1 HXY.out.2))
    go_wp2
    go_ret
    exact ⟨ret_bool (by simp [HN.out]),hB1⟩
  ·have hlt' : decide ((i : Int) < (r.length : Int)) = false := by simp; omega
   have hlt2 : decide (i < r.length) = false := by simp; omega
   have HR : Hid (Rising r) := rising_of_upTo fun j a b hj ha hb => hu.out j a b (by omega) ha hb
   clear h
   go_wp2
   go_ret
   exact ⟨ret_bool (by simp [HR.out]),hB⟩
set_option maxHeartbeats 1000000 in
theorem kclR_any (x : Key × Box) (k : Key) (w : World) : Calls Tryz.prog 182 #[entV x,keyV k] w fun e w' => e = .returned (.int .i64 (cmpK x.1 k)) ∧ Below w.heap.size w w' := by
 have hcon := fun W => kcmp_any x.1 k W
 generalize cmpK x.1 k = z at hcon ⊢
 go_enter Tryz.func182,Tryz.ntmps182
 go_wp2_with (go_at_call 104; refine (hcon _).mono ?_; rintro e w1 ⟨rfl,hb1⟩)
 go_ret
 have h0 : Below w.heap.size w ((w.alloc (.cells #[.int .i64 x.1.1, .int .i64 x.1.2, .int .i64 (x.2.a : Int), .int .i64 (x.2.b : Int), .int .i64 (x.2.c : Int), .int .i64 (x.2.d : Int)] 156)).alloc (.cells #[.int .i64 k.1, .int .i64 k.2] 154)) := ((Below.refl _ w).alloc (Nat.le_refl _) _).alloc (by simp) _
 exact ⟨rfl,h0.trans (hb1.mono (by simp; omega))⟩
theorem lbn_at {V : Type} {k : Key} {r : List (Key × V)} {i : Nat} (hi : i ≤ r.length) (h1 : ∀ t x,t < i → r[t]? = some x → klt x.1 k) (h2 : ∀ t x,i ≤ t → r[t]? = some x → ¬ klt x.1 k) : lbn k r = i := by
 have e : lo k r = r.take i := by
  have hs : lo k r = lo k (r.take i) ++ lo k (r.drop i) := by rw [← lo_append,List.take_append_drop]
  rw [hs,lo_all,lo_none,List.append_nil]
  ·intro x hx
   obtain ⟨t,ht,e⟩ := List.getElem_of_mem hx
   exact h2 (i + t) x (by omega) (by rw [← List.getElem?_drop,List.getElem?_eq_getElem ht,e])
  ·intro x hx
   obtain ⟨t,ht,e⟩ := List.getElem_of_mem hx
   have hti : t < i := by rw [List.length_take] at ht; omega
   exact h1 t x hti (by rw [← List.getElem?_take_of_lt hti,List.getElem?_eq_getElem ht,e])
 unfold lbn
 rw [e,List.length_take]; omega
theorem fnd_at {V : Type} {k : Key} {r : List (Key × V)} (hr : Rising r) {x : Key × V} (hx : r[lbn k r]? = some x) : fnd k r = decide (x.1 = k) := by
 cases hf : fnd k r with
 | true =>
  obtain ⟨v,e⟩ := lbn_found hr hf
  rw [hx] at e; cases e; simp
 | false =>
  have : x.1 ≠ k := fun e => by
   have : fnd k r = true := List.any_eq_true.2 ⟨x,List.mem_of_getElem? hx,by simp [e]⟩
   rw [hf] at this; cases this
  simp [this]
theorem fnd_end {V : Type} {k : Key} {r : List (Key × V)} (hr : Rising r) (hx : r.length ≤ lbn k r) : fnd k r = false := by
 cases hf : fnd k r with
 | false => rfl
 | true =>
  obtain ⟨v,e⟩ := lbn_found hr hf
  have := (List.getElem?_eq_some_iff.1 e).1
  omega
set_option maxRecDepth 100000 in
set_option maxHeartbeats 2000000 in
theorem bsR_any (w : World) (v : Value) (r : List (Key × Box)) (h : RowR w v r) (hr : Rising r) (k : Key) :
  Calls Tryz.prog 181 #[v,keyV k, .func (.func 182) #[] #[]] w fun e w' => e = .returned (.tuple #[.int .i64 (lbn k r : Int), .bool (fnd k r)]) ∧ Below w.heap.size w w' := by
 obtain ⟨a,c,rfl,hn,hc⟩ := h.len pkR
 have HR : Hid (Rising r) := hr
 clear hr
 go_enter Tryz.func181,Tryz.ntmps181
 go_wp2
 go_loopw [9, 10] (fun x y wr => ∃ lo hi : Nat,x = .int .i64 (lo : Int) ∧ y = .int .i64 (hi : Int) ∧ lo ≤ hi ∧ hi ≤ r.length ∧ Hid ((∀ t x,t < lo → r[t]? = some x → klt x.1 k) ∧ ∀ t x,hi ≤ t → r[t]? = some x → ¬ klt x.1 k) ∧ Below w.heap.size w wr ∧ Blk wr w.heap.size 154 #[.int .i64 k.1, .int .i64 k.2]) (fun x y _ => (intOf y).toNat - (intOf x).toNat)
 case atStart => exact ⟨0,r.length,rfl,rfl,Nat.zero_le _,Nat.le_refl _,⟨fun t _ ht => absurd ht (by omega),fun t x ht hx => absurd (List.getElem?_eq_some_iff.1 hx).1 (by omega)⟩,(Below.refl _ _).alloc (Nat.le_refl _) _,Blk.new w 154 _⟩
 case round =>
  obtain ⟨lo,hi,rfl,rfl,h1,h2,hI,hB,hbk⟩ := hrel
  have k0 : wr.cell? ⟨w.heap.size, 0,none⟩ = some (.int .i64 k.1) := hbk.cell 0
  have k1 : wr.cell? ⟨w.heap.size, 1,none⟩ = some (.int .i64 k.2) := hbk.cell 1
  have hwl := hbk.lt
  have hrow := h.off pkR (F := fun _ => False) (Off.of_below hB) (fun _ h => h.elim)
  by_cases hlt : lo < hi
  ·have hlt' : (lo : Int) < (hi : Int) := by omega
   obtain ⟨b,o,c',e,g2,g3,hb,_,hcl⟩ := hrow.form pkR (by omega)
   cases e
   obtain ⟨m,hm⟩ : ∃ m,(lo + hi) / 2 = m := ⟨_,rfl⟩
   have hm1 : lo ≤ m ∧ m < hi := by omega
   obtain ⟨x,hx⟩ : ∃ x,r[m]? = some x := ⟨_,List.getElem?_eq_getElem (by omega)⟩
   unfold maxLen at g3
   have c0 : wr.cell? ⟨b,o + m * 6,none⟩ = some (.int .i64 x.1.1) := hcl m x hx 0 _ rfl
   have c1 : wr.cell? ⟨b,o + m * 6 + 1,none⟩ = some (.int .i64 x.1.2) := hcl m x hx 1 _ rfl
   have c2 : wr.cell? ⟨b,o + m * 6 + 2,none⟩ = some (.int .i64 (x.2.a : Int)) := hcl m x hx 2 _ rfl
   have c3 : wr.cell? ⟨b,o + m * 6 + 3,none⟩ = some (.int .i64 (x.2.b : Int)) := hcl m x hx 3 _ rfl
   have c4 : wr.cell? ⟨b,o + m * 6 + 4,none⟩ = some (.int .i64 (x.2.c : Int)) := hcl m x hx 4 _ rfl
   have c5 : wr.cell? ⟨b,o + m * 6 + 5,none⟩ = some (.int .i64 (x.2.d : Int)) := hcl m x hx 5 _ rfl
   have q0 : wrap64 (IntKind.u64.wrap (wrap64 ((lo : Int) + (hi : Int))) / 2) = (m : Int) := by
    simp only [IntKind.wrap,IntKind.bits,IntKind.signed]
    unfold wrap64
    simp
    omega
   have q1 : (m : Int) < (r.length : Int) := by omega
   have q2 : IntKind.i64.wrap (m : Int) = m := wrap_i64_nat _ (by omega)
   have hcon := kclR_any x k wr.drew
   have keepS : ∀ W',Below wr.heap.size wr W' → W'.cell? ⟨b,o + m * 6,none⟩ = some (.int .i64 x.1.1) ∧ W'.cell? ⟨b,o + m * 6 + 1,none⟩ = some (.int .i64 x.1.2) ∧ W'.cell? ⟨b,o + m * 6 + 2,none⟩ = some (.int .i64 (x.2.a : Int)) ∧ W'.cell? ⟨b,o + m * 6 + 3,none⟩ = some (.int .i64 (x.2.b : Int)) ∧ W'.cell? ⟨b,o + m * 6 + 4,none⟩ = some (.int .i64 (x.2.c : Int)) ∧ W'.cell? ⟨b,o + m * 6 + 5,none⟩ = some (.int .i64 (x.2.d : Int)) ∧ W'.cell? ⟨w.heap.size, 0,none⟩ = some (.int .i64 k.1) ∧ W'.cell? ⟨w.heap.size, 1,none⟩ = some (.int .i64 k.2) :=
    fun W' hW => ⟨(hW.cell (p := ⟨b,o + m * 6,none⟩) hb).trans c0,(hW.cell (p := ⟨b,o + m * 6 + 1,none⟩) hb).trans c1,(hW.cell (p := ⟨b,o + m * 6 + 2,none⟩) hb).trans c2,(hW.cell (p := ⟨b,o + m * 6 + 3,none⟩) hb).trans c3,(hW.cell (p := ⟨b,o + m * 6 + 4,none⟩) hb).trans c4,(hW.cell (p := ⟨b,o + m * 6 + 5,none⟩) hb).trans c5,(hW.cell (p := ⟨w.heap.size, 0,none⟩) hwl).trans k0,(hW.cell (p := ⟨w.heap.size, 1,none⟩) hwl).trans k1⟩
   have hk := cmpK_neg x.1 k
   obtain ⟨z,hz⟩ : ∃ z,cmpK x.1 k = z := ⟨_,rfl⟩
   rw [hz] at hcon hk
   have HX : Hid (r[m]? = some x) := hx
   have HK : Hid (z < 0 ↔ klt x.1 k) := hk
   have HM : Hid ((lo + hi) / 2 = m) := hm
   clear hcl hx hk hz hrow hm
   go_upto_region 5 with fail
   rw [q0]
   go_region_held3 (fun W' => W'.cell? ⟨b,o + m * 6,none⟩ = some (.int .i64 x.1.1) ∧ W'.cell? ⟨b,o + m * 6 + 1,none⟩ = some (.int .i64 x.1.2) ∧ W'.cell? ⟨b,o + m * 6 + 2,none⟩ = some (.int .i64 (x.2.a : Int)) ∧ W'.cell? ⟨b,o + m * 6 + 3,none⟩ = some (.int .i64 (x.2.b : Int)) ∧ W'.cell? ⟨b,o + m * 6 + 4,none⟩ = some (.int .i64 (x.2.c : Int)) ∧ W'.cell? ⟨b,o + m * 6 + 5,none⟩ = some (.int .i64 (x.2.d : Int)) ∧ W'.cell? ⟨w.heap.size, 0,none⟩ = some (.int .i64 k.1) ∧ W'.cell? ⟨w.heap.size, 1,none⟩ = some (.int .i64 k.2))
    (first
     | exact keepS _ (Below.refl _ _)
     | exact keepS _ ((Below.refl _ wr).drew.trans hb1)
     | go_keep)
    (first | (go_at_call 182; refine hcon.mono ?_; rintro e w1 ⟨rfl,hb1⟩) | (go_at_fn 182; refine hcon.mono ?_; rintro e w1 ⟨rfl,hb1⟩))
   have hB1' : Below wr.heap.size wr w1 := (Below.refl _ wr).drew.trans hb1
   have hB1 : Below w.heap.size w w1 := hB.trans (hB1'.mono hB.size)
   have hbk1 := hbk.below hB1' hbk.lt
   clear keepS hcon c0 c1 c2 c3 c4 c5 k0 k1
   by_cases hz : z < 0
   ·have HU : Hid ((∀ t x,t < m + 1 → r[t]? = some x → klt x.1 k) ∧ ∀ t x,hi ≤ t → r[t]? = some x → ¬ klt x.1 k) := by
     refine ⟨fun t y ht hy => ?_,hI.out.2⟩
     have hxk := HK.out.1 hz
     rcases Nat.lt_or_ge t m with g | g
     ·refine klt_trans ?_ hxk
      have hxm := HX.out
      obtain ⟨h3,e3⟩ := List.getElem?_eq_some_iff.1 hxm
      obtain ⟨h4,e4⟩ := List.getElem?_eq_some_iff.1 hy
      have := List.pairwise_iff_getElem.1 HR.out t m h4 h3 g
      rwa [e3,e4] at this
     ·have : t = m := by omega
      subst this
      rw [HX.out] at hy; cases hy; exact hxk
    go_wp2
    go_roundw
    case rel => exact ⟨m + 1,hi,by go_num,rfl,by omega,h2,HU,hB1,hbk1⟩
    case measure => simp [intOf]; omega
   ·have HU : Hid ((∀ t x,t < lo → r[t]? = some x → klt x.1 k) ∧ ∀ t x,m ≤ t → r[t]? = some x → ¬ klt x.1 k) := by
     refine ⟨hI.out.1,fun t y ht hy hyk => ?_⟩
     refine hz (HK.out.2 ?_)
     rcases Nat.lt_or_ge m t with g | g
     ·refine klt_trans ?_ hyk
      have hxm := HX.out
      obtain ⟨h3,e3⟩ := List.getElem?_eq_some_iff.1 hxm
      obtain ⟨h4,e4⟩ := List.getElem?_eq_some_iff.1 hy
      have := List.pairwise_iff_getElem.1 HR.out m t h3 h4 g
      rwa [e3,e4] at this
     ·have : t = m := by omega
      subst this
      rw [HX.out] at hy; cases hy; exact hyk
    go_wp2
    go_roundw
    case rel => exact ⟨lo,m,rfl,by go_num,by omega,by omega,HU,hB1,hbk1⟩
    case measure => simp [intOf]; omega
  ·have hlt' : decide ((lo : Int) < (hi : Int)) = false := by simp; omega
   have hlt2 : decide (lo < hi) = false := by simp; omega
   have hlh : hi = lo := by omega
   subst hlh
   have hL : lbn k r = hi := lbn_at h2 hI.out.1 hI.out.2
   have HL : Hid (lbn k r = hi) := hL
   clear hlt hI
   by_cases hin : hi < r.length
   ·have hin' : (hi : Int) < (r.length : Int) := by omega
    obtain ⟨b,o,c',e,g2,g3,hb,_,hcl⟩ := hrow.form pkR (by omega)
    cases e
    obtain ⟨x,hx⟩ : ∃ x,r[hi]? = some x := ⟨_,List.getElem?_eq_getElem (by omega)⟩
    have c0 : wr.cell? ⟨b,o + hi * 6,none⟩ = some (.int .i64 x.1.1) := hcl hi x hx 0 _ rfl
    have c1 : wr.cell? ⟨b,o + hi * 6 + 1,none⟩ = some (.int .i64 x.1.2) := hcl hi x hx 1 _ rfl
    have c2 : wr.cell? ⟨b,o + hi * 6 + 2,none⟩ = some (.int .i64 (x.2.a : Int)) := hcl hi x hx 2 _ rfl
    have c3 : wr.cell? ⟨b,o + hi * 6 + 3,none⟩ = some (.int .i64 (x.2.b : Int)) := hcl hi x hx 3 _ rfl
    have c4 : wr.cell? ⟨b,o + hi * 6 + 4,none⟩ = some (.int .i64 (x.2.c : Int)) := hcl hi x hx 4 _ rfl
    have c5 : wr.cell? ⟨b,o + hi * 6 + 5,none⟩ = some (.int .i64 (x.2.d : Int)) := hcl hi x hx 5 _ rfl
    have HF : Hid (fnd k r = decide (cmpK x.1 k = 0)) := by
     have := fnd_at HR.out (k := k) (x := x) (by rw [HL.out]; exact hx)
     show _ = _
     rw [this]
     exact decide_eq_decide.2 (cmpK_zero x.1 k).symm
    have hcon := kclR_any x k wr.drew
    have keepS : ∀ W',Below wr.heap.size wr W' → W'.cell? ⟨b,o + hi * 6,none⟩ = some (.int .i64 x.1.1) ∧ W'.cell? ⟨b,o + hi * 6 + 1,none⟩ = some (.int .i64 x.1.2) ∧ W'.cell? ⟨b,o + hi * 6 + 2,none⟩ = some (.int .i64 (x.2.a : Int)) ∧ W'.cell? ⟨b,o + hi * 6 + 3,none⟩ = some (.int .i64 (x.2.b : Int)) ∧ W'.cell? ⟨b,o + hi * 6 + 4,none⟩ = some (.int .i64 (x.2.c : Int)) ∧ W'.cell? ⟨b,o + hi * 6 + 5,none⟩ = some (.int .i64 (x.2.d : Int)) ∧ W'.cell? ⟨w.heap.size, 0,none⟩ = some (.int .i64 k.1) ∧ W'.cell? ⟨w.heap.size, 1,none⟩ = some (.int .i64 k.2) :=
     fun W' hW => ⟨(hW.cell (p := ⟨b,o + hi * 6,none⟩) hb).trans c0,(hW.cell (p := ⟨b,o + hi * 6 + 1,none⟩) hb).trans c1,(hW.cell (p := ⟨b,o + hi * 6 + 2,none⟩) hb).trans c2,(hW.cell (p := ⟨b,o + hi * 6 + 3,none⟩) hb).trans c3,(hW.cell (p := ⟨b,o + hi * 6 + 4,none⟩) hb).trans c4,(hW.cell (p := ⟨b,o + hi * 6 + 5,none⟩) hb).trans c5,(hW.cell (p := ⟨w.heap.size, 0,none⟩) hwl).trans k0,(hW.cell (p := ⟨w.heap.size, 1,none⟩) hwl).trans k1⟩
    obtain ⟨z,hz⟩ : ∃ z,cmpK x.1 k = z := ⟨_,rfl⟩
    rw [hz] at hcon HF
    clear hcl hx hz hrow h hL
    go_upto_region 8 with fail
    go_region_held3 (fun W' => W'.cell? ⟨b,o + hi * 6,none⟩ = some (.int .i64 x.1.1) ∧ W'.cell? ⟨b,o + hi * 6 + 1,none⟩ = some (.int .i64 x.1.2) ∧ W'.cell? ⟨b,o + hi * 6 + 2,none⟩ = some (.int .i64 (x.2.a : Int)) ∧ W'.cell? ⟨b,o + hi * 6 + 3,none⟩ = some (.int .i64 (x.2.b : Int)) ∧ W'.cell? ⟨b,o + hi * 6 + 4,none⟩ = some (.int .i64 (x.2.c : Int)) ∧ W'.cell? ⟨b,o + hi * 6 + 5,none⟩ = some (.int .i64 (x.2.d : Int)) ∧ W'.cell? ⟨w.heap.size, 0,none⟩ = some (.int .i64 k.1) ∧ W'.cell? ⟨w.heap.size, 1,none⟩ = some (.int .i64 k.2))
     (first
      | exact keepS _ (Below.refl _ _)
      | exact keepS _ ((Below.refl _ wr).drew.trans hb1)
      | go_keep)
     (first | (go_at_call 182; refine hcon.mono ?_; rintro e w1 ⟨rfl,hb1⟩) | (go_at_fn 182; refine hcon.mono ?_; rintro e w1 ⟨rfl,hb1⟩))
    have hB1 : Below w.heap.size w w1 := hB.trans (((Below.refl _ wr).drew.trans hb1).mono hB.size)
    clear keepS hcon c0 c1 c2 c3 c4 c5 k0 k1
    go_wp2
    go_ret2
    exact ⟨ret_ib (by rw [HL.out]) (by rw [HF.out]; first | rfl | simp),hB1⟩
   ·have hin' : decide ((hi : Int) < (r.length : Int)) = false := by simp; omega
    have hin2 : decide (hi < r.length) = false := by simp; omega
    have HF : Hid (fnd k r = false) := fnd_end HR.out (by omega)
    clear hrow h hL
    go_upto_region 8 with fail
    go_quiet (fail)
    go_wp2
    go_ret2
    exact ⟨ret_ib (by rw [HL.out]) (by rw [HF.out]),below_drewN hB nq⟩
set_option maxHeartbeats 1000000 in
theorem findR_any (w : World) (v : Value) (r : List (Key × Box)) (h : RowR w v r) (hr : Rising r) (k : Key) :
  Calls Tryz.prog 145 #[v,keyV k] w fun e w' => e = .returned (.tuple #[.int .i64 (lbn k r : Int), .bool (fnd k r)]) ∧ Below w.heap.size w w' := by
 have hb0 : Below w.heap.size w (w.alloc (.cells #[.int .i64 k.1, .int .i64 k.2] 154)) := (Below.refl _ w).alloc (Nat.le_refl _) _
 have hcon := bsR_any _ v r (h.below pkR hb0) hr k
 generalize lbn k r = i at hcon ⊢
 generalize fnd k r = f at hcon ⊢
 clear h
 go_enter Tryz.func145,Tryz.ntmps145
 go_wp2_with (go_at_call 181; refine hcon.mono ?_; rintro e w1 ⟨rfl,hb1⟩)
 go_ret2
 exact ⟨rfl,hb0.trans (hb1.mono (by simp))⟩
--END
end
end Go.Proofs.YtdgbgmffpcooeaaGreat
namespace Go.Proofs.YtdgbgmffpcooeaaGreat
open Go.RowKit Go.Lib Go.Shelf
section
theorem extraZ : Builder.Extra Tryz.prog Tryz.repeatS_ren where
 sizeBuilder := by kernel_rfl
 liesBuilder := by kernel_rfl
 t5 := Tryz.repeatS.t5
 a5 := Tryz.repeatS.a5
 z5 := Tryz.repeatS.z5
 v5 := Tryz.repeatS.v5
 infoByte := by kernel_rfl
 cellsByte := by kernel_rfl
 sizeByte := by kernel_rfl
 neB5 := by decide
theorem repeat_zero (c : Nat) (hc : c ≤ 256) (w : World) : Calls Tryz.prog 213 #[.string ⟨#[0]⟩, .int .i64 (c : Int)] w fun e w' => e = .returned (.string ⟨(List.replicate c 0).toArray⟩) ∧ Below w.heap.size w w' := by
 have h := Any.strings_Repeat Tryz.repeatS extraZ ⟨#[0]⟩ c w (by omega) (by show 1 * c ≤ _; omega)
 have e : Lib.repeatL (ByteArray.mk #[0]).data.toList c = List.replicate c 0 := by
  have := Lib.repeatL_replicate 0 1 c
  simpa using this
 rw [e] at h
 exact h
theorem Ink.conv {W : World} {base B : Nat} {bs : List UInt8} (h : Ink W base B bs) (hne : 0 < bs.length) : ∃ v,W.cell? ⟨B, 0,none⟩ = some v ∧ (∃ a c,v = .slice a bs.length c) ∧ (convert 262 9 v).run Tryz.prog W = .ok (.string ⟨bs.toArray⟩) W := by
 obtain ⟨v,h1,h2⟩ := h.row
 refine ⟨v,h1.cell 0, ?_⟩
 obtain ⟨h0,⟨rfl,h3⟩ | ⟨g,cap,cur,rfl,e2,e3,e4⟩⟩ := h2
 ·omega
 ·refine ⟨⟨_,_,rfl⟩, ?_⟩
  have := run_convert_bytes_back (P := Tryz.prog) W 262 9 5 ⟨g, 0,none⟩ cap bs Tryz.underlying262 Tryz.underlying5 Tryz.underlying9 (fun j hj => by
   rw [Addr.add_mid]
   have := (own_cell (show W.ownsRow base 5 1 (.slice (some ⟨g, 0,none⟩) bs.length cap) bs.length (byteCells bs) from ⟨h0, .inr ⟨g,cap,cur,rfl,e2,e3,e4⟩⟩) (0 + j) (by omega)).1
   rw [this]
   simp [byteCells,List.getElem?_eq_getElem hj])
  exact this
theorem str_app (a b : List UInt8) : (⟨a.toArray⟩ : ByteArray) ++ (⟨b.toArray⟩ : ByteArray) = ⟨(a ++ b).toArray⟩ := by
 apply ByteArray.ext
 simp [ByteArray.data_append]
set_option maxRecDepth 100000 in
set_option maxHeartbeats 1000000 in
theorem page_any (w : World) (base B : Nat) (bs : List UInt8) (h : Ink w base B bs) (hne : 0 < bs.length) (hl : bs.length ≤ 256) :
  Calls Tryz.prog 187 #[.pointer (some ⟨B, 0,none⟩)] w fun e w' => e = .returned (.string ⟨(padB bs).toArray⟩) ∧ Below w.heap.size w w' := by
 obtain ⟨v,c0,⟨a,c,rfl⟩,hcv⟩ := h.conv hne
 have hBl := h.lt
 have hrep := repeat_zero (256 - bs.length) (by omega) w.drew
 have q1 : IntKind.i64.wrap (256 - (bs.length : Int)) = ((256 - bs.length : Nat) : Int) := by simp only [IntKind.wrap,IntKind.bits,IntKind.signed]; simp; omega
 have keepS : ∀ W',Below w.heap.size w W' → W'.cell? ⟨B, 0,none⟩ = some (.slice a bs.length c) ∧ (convert 262 9 (.slice a bs.length c)).run Tryz.prog W' = .ok (.string ⟨bs.toArray⟩) W' := fun W' hW => by
  have c1 : W'.cell? ⟨B, 0,none⟩ = some (.slice a bs.length c) := (hW.cell (p := ⟨B, 0,none⟩) hBl).trans c0
  obtain ⟨v',g1,_,g3⟩ := (h.below hW).conv hne
  rw [c1] at g1; cases g1; exact ⟨c1,g3⟩
 go_enter Tryz.func187,Tryz.ntmps187
 go_wp2
 go_region_held3 (fun W' => W'.cell? ⟨B, 0,none⟩ = some (.slice a bs.length c) ∧ (convert 262 9 (.slice a bs.length c)).run Tryz.prog W' = .ok (.string ⟨bs.toArray⟩) W')
  (first
   | exact keepS _ (Below.refl _ _)
   | exact keepS _ ((Below.refl _ w).drew)
   | exact keepS _ ((Below.refl _ w).drew.trans hb1)
   | go_keep)
  ((go_at_call 213; refine hrep.mono ?_; rintro e w1 ⟨rfl,hb1⟩))
 have hB1 : Below w.heap.size w w1 := (Below.refl _ w).drew.trans hb1
 go_wp2
 go_ret
 refine ⟨?_,hB1⟩
 rw [show padB bs = bs ++ List.replicate (256 - bs.length) 0 from rfl, ← str_app]
 rfl
set_option maxHeartbeats 1000000 in
theorem isec_any (w : World) (base B : Nat) (bs : List UInt8) (n : Int) (h : Ink w base B bs) (hb : bs.length + 2 ≤ 1000) :
  Calls Tryz.prog 186 #[.pointer (some ⟨B, 0,none⟩), .int .i64 n] w fun e w' => e = .returned (.tuple #[]) ∧ Ink w' base B (bs ++ numB 2 n) ∧ Off (InkF w base B) w w' := by
 have hcon := inum_any w base B bs n 2 h hb
 go_enter Tryz.func186,Tryz.ntmps186
 go_wp2_with (go_at_call 185; refine hcon.mono ?_; rintro e w1 ⟨rfl,hI,ho⟩)
 refine bodyPost_end (v := .tuple #[]) (by simp [results,Tryz.results186]) rfl ⟨rfl,hI,ho⟩
theorem Ink.new (w : World) : Ink (w.alloc (.cells #[.slice none 0 0] 262)) w.heap.size w.heap.size [] := ⟨Nat.le_refl _, .slice none 0 0,Blk.new w 262 _,World.ownsRow_nil ..⟩
theorem InkF.below {w w1 : World} {base B : Nat} (h : Off (InkF w base B) w w1) (hB : base ≤ B) (hb : base ≤ w.heap.size) : Below base w w1 := h.below hb fun k hk => by
 rcases hk with rfl | hk
 ·exact hB
 ·exact hk.1
theorem Blk.ink {w w1 : World} {base B b t : Nat} {vs : Array Value} (h : Blk w b t vs) (ho : Off (InkF w base B) w w1) (hne : b ≠ B) (ht : t ≠ 5) : Blk w1 b t vs := h.off ho fun hf => by
 rcases hf with hf | ⟨_,cs,f,hf⟩
 ·exact hne hf
 ·rw [show w.heap[b]? = _ from h] at hf; cases hf; exact ht rfl
theorem Row.ink {V : Type} {K : PK V} {w w1 : World} {base B : Nat} {v : Value} {r : List (Key × V)} (h : Row K w v r) (ho : Off (InkF w base B) w w1) (hI : ∃ x,Blk w B 262 #[x]) (h5 : K.t ≠ 5) (h6 : K.t ≠ 262) : Row K w1 v r := h.off K ho fun b hb ht => by
 obtain ⟨cs,ht⟩ := ht
 rcases hb with rfl | ⟨_,cs',f,hb⟩
 ·obtain ⟨x,hx⟩ := hI
  rw [show w.heap[b]? = _ from hx] at ht
  simp only [Option.some.injEq,Obj.cells.injEq] at ht
  exact h6 ht.2.1.symm
 ·rw [hb] at ht
  simp only [Option.some.injEq,Obj.cells.injEq] at ht
  exact h5 ht.2.1.symm
set_option maxRecDepth 100000 in
set_option maxHeartbeats 1000000 in
theorem headB_any (w : World) (root : Nat) :
  Calls Tryz.prog 150 #[.int .i64 (root : Int)] w fun e w' => e = .returned (.string ⟨(headB root).toArray⟩) ∧ Below w.heap.size w w' := by
 have hI0 := Ink.new w
 have hb0 : Below w.heap.size w (w.alloc (.cells #[.slice none 0 0] 262)) := (Below.refl _ _).alloc (Nat.le_refl _) _
 have hn1 := inum_any _ _ _ [] 0 1 hI0 (by simp)
 have hn2 : ∀ w1,Ink w1 w.heap.size w.heap.size ([] ++ numB 1 0) → _ := fun w1 h1 => isec_any w1 _ _ _ (root : Int) h1 (by simp [numB_length])
 have hpg : ∀ w1,Ink w1 w.heap.size w.heap.size ([] ++ numB 1 0 ++ numB 2 (root : Int)) → _ := fun w1 h1 => page_any w1 _ _ _ h1 (by simp [numB_length]) (by simp [numB_length])
 have H2 : Hid _ := hn2
 have H3 : Hid _ := hpg
 clear hn2 hpg
 go_enter Tryz.func150,Tryz.ntmps150
 go_wp2_with (first
  | (go_at_call 185; refine hn1.mono ?_; rintro e w1 ⟨rfl,hI1,ho1⟩)
  | (go_at_call 186; refine (H2.out _ hI1).mono ?_; rintro e w2 ⟨rfl,hI2,ho2⟩)
  | (go_at_call 187; refine (H3.out _ hI2).mono ?_; rintro e w3 ⟨rfl,hb3⟩))
 go_ret
 have hb1 : Below w.heap.size w w1 := hb0.trans (InkF.below ho1 (Nat.le_refl _) hb0.size)
 have hb2 : Below w.heap.size w w2 := hb1.trans (InkF.below ho2 (Nat.le_refl _) hb1.size)
 exact ⟨rfl,hb2.trans (hb3.mono hb2.size)⟩
def restB (b : ByteArray) (s : Nat) : ByteArray := b.extract s b.size
theorem tnum_blk (w : World) (B : Nat) (b : ByteArray) (s : Nat) (hB : Blk w B 246 #[.string b]) (hs : s ≤ 8) (hsb : s ≤ b.size) (hbb : b.size ≤ 256) :
  Calls Tryz.prog 165 #[.pointer (some ⟨B, 0,none⟩), .int .i64 (s : Int)] w fun e w' => e = .returned (.int .i64 (numR s b)) ∧ Blk w' B 246 #[.string (restB b s)] ∧ Off (fun k => k = B) w w' := by
 refine (tnum_any w B b s hB hs hsb hbb).mono ?_
 rintro e w' ⟨rfl,rfl⟩
 exact ⟨rfl,hB.set 0 _,(Off.refl _ _).setCell _ (.inl rfl)⟩
set_option maxHeartbeats 1000000 in
theorem tsec_any (w : World) (B : Nat) (b : ByteArray) (hB : Blk w B 246 #[.string b]) (hsb : 2 ≤ b.size) (hbb : b.size ≤ 256) :
  Calls Tryz.prog 166 #[.pointer (some ⟨B, 0,none⟩)] w fun e w' => e = .returned (.int .i64 (numR 2 b)) ∧ Blk w' B 246 #[.string (restB b 2)] ∧ Off (fun k => k = B) w w' := by
 have hcon := tnum_blk w B b 2 hB (by omega) hsb hbb
 go_enter Tryz.func166,Tryz.ntmps166
 go_wp2_with (go_at_call 165; refine hcon.mono ?_; rintro e w1 ⟨rfl,h1,h2⟩)
 go_ret
 exact ⟨rfl,h1,h2⟩
theorem data_rest (b : ByteArray) (s : Nat) : (restB b s).data.toList = b.data.toList.drop s := by
 unfold restB
 rw [ByteArray.data_extract,Array.toList_extract,List.extract_eq_take_drop,List.take_of_length_le]
 rw [List.length_drop,Array.length_toList]
 exact Nat.le_refl _
theorem size_rest (b : ByteArray) (s : Nat) : (restB b s).size = b.size - s := by unfold restB; rw [ByteArray.size_extract]; omega
theorem numR2 (b : ByteArray) : numR 2 b = (rdN (b.data.toList.take 2) : Int) := by
 have := rd_take2 b.data.toList
 unfold numR w64; omega
theorem bytes_beq (x b : ByteArray) : (x.toList == b.toList) = decide (x = b) := by
 rw [Lib.toList_data,Lib.toList_data]
 by_cases h : x = b
 ·subst h; simp
 ·rw [decide_eq_false h,beq_eq_false_iff_ne]
  intro e
  apply h
  cases x; cases b
  simp only at e
  rw [Array.toList_inj.1 e]
def rootOf (l : List UInt8) : Nat := rdN ((l.drop 1).take 2)
def headOf (l : List UInt8) : Option Nat := if headB (rootOf l) = l then some (rootOf l) else none
theorem headOf_B {root : Nat} (h : root < 65536) : headOf (headB root) = some root := by
 unfold headOf rootOf
 rw [headB_root h,if_pos rfl]
theorem rootOf_lt (l : List UInt8) : rootOf l < 65536 := rd_take2 _
theorem str_inj {l : List UInt8} {b : ByteArray} : ((⟨l.toArray⟩ : ByteArray) = b) ↔ l = b.data.toList := by
 constructor
 ·rintro rfl; simp
 ·rintro rfl; cases b; simp
set_option maxRecDepth 100000 in
set_option maxHeartbeats 1000000 in
theorem readHead_any (w : World) (b : ByteArray) (hb : b.size = 256) :
  Calls Tryz.prog 129 #[.string b] w fun e w' => e = .returned (.tuple #[.int .i64 (rootOf b.data.toList : Int), .bool (headOf b.data.toList).isSome]) ∧ Below w.heap.size w w' := by
 have hc1 := tnum_blk _ w.heap.size b 1 (Blk.new w 246 #[.string b]) (by omega) (by omega) (by omega)
 have hr : numR 2 (restB b 1) = (rootOf b.data.toList : Int) := by rw [numR2,data_rest]; rfl
 have hc2 : ∀ W,Blk W w.heap.size 246 #[.string (restB b 1)] → _ := fun W hW => tsec_any W w.heap.size (restB b 1) hW (by rw [size_rest]; omega) (by rw [size_rest]; omega)
 rw [hr] at hc2
 have hh := fun W => headB_any W (rootOf b.data.toList)
 have hf : (headOf b.data.toList).isSome = decide ((⟨(headB (rootOf b.data.toList)).toArray⟩ : ByteArray) = b) := by
  unfold headOf
  by_cases g : headB (rootOf b.data.toList) = b.data.toList
  ·rw [if_pos g,decide_eq_true (str_inj.2 g)]; rfl
  ·rw [if_neg g,decide_eq_false (fun e => g (str_inj.1 e))]; rfl
 have HF : Hid ((headOf b.data.toList).isSome = decide ((⟨(headB (rootOf b.data.toList)).toArray⟩ : ByteArray) = b)) := hf
 obtain ⟨x,hx⟩ : ∃ x : ByteArray,(⟨(headB (rootOf b.data.toList)).toArray⟩ : ByteArray) = x := ⟨_,rfl⟩
 rw [hx] at hh HF
 generalize rootOf b.data.toList = root at hc2 hh ⊢
 have H2 : Hid _ := hc2
 have hb0 : Below w.heap.size w (w.alloc (.cells #[.string b] 246)) := (Below.refl _ _).alloc (Nat.le_refl _) _
 clear hr hf hx hc2 hb
 go_enter Tryz.func129,Tryz.ntmps129
 go_wp2_with (first
  | (go_at_call 165; refine hc1.mono ?_; rintro e w1 ⟨rfl,B1,o1⟩)
  | (go_at_call 166; refine (H2.out _ B1).mono ?_; rintro e w2 ⟨rfl,B2,o2⟩)
  | (go_at_call 150; refine (hh _).mono ?_; rintro e w3 ⟨rfl,hb3⟩))
 go_ret2
 have hb1 : Below w.heap.size w w1 := hb0.trans (o1.below hb0.size (fun k hk => by omega))
 have hb2 : Below w.heap.size w w2 := hb1.trans (o2.below hb1.size (fun k hk => by omega))
 exact ⟨ret_ib rfl (by rw [HF.out]; exact bytes_beq x b),hb2.trans (hb3.mono hb2.size)⟩
end
end Go.Proofs.YtdgbgmffpcooeaaGreat
