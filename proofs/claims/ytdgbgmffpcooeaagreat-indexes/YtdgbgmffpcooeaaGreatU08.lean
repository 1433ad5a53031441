/- R3S Shz C1 -/
import Derived.Test.YtdgbgmffpcooeaaGreatU07
import Derived.Shelf.Spec.SlicesGrow
import Derived.Shelf.Slices.Clone
import Derived.Shelf.Slices.CompactI
import Derived.Shelf.Slices.Cells
import Derived.Shelf.SlicesQ.Equal
import Derived.Ground.Names8Prog
import Derived.Ground.Names2Prog
import Derived.Ground.SlgqProg
import Derived.Laws.AppendOwnNone
namespace Go.Proofs.YtdgbgmffpcooeaaGreat
open Go.RowKit Go.Lib
section
set_option maxHeartbeats 1000000 in
theorem firstS_any (w : World) (v : Value) (r : List (Key × Nat)) (h : RowS w v r) (x : Key × Nat) (t : List (Key × Nat)) (hr : r = x :: t) :
  Calls Tryz.prog 266 #[v] w fun e w' => e = .returned (keyV x.1) ∧ Below w.heap.size w w' := by
 obtain ⟨b,o,c,rfl,h2,h3,hb,_,hc⟩ := h.form pkS (by rw [hr]; simp)
 have c0 : w.cell? ⟨b,o,none⟩ = some (.int .i64 x.1.1) := by have := hc 0 x (by rw [hr]; rfl) 0 _ rfl; simpa using this
 have c1 : w.cell? ⟨b,o + 1,none⟩ = some (.int .i64 x.1.2) := by have := hc 0 x (by rw [hr]; rfl) 1 _ rfl; simpa using this
 have hl : 0 < r.length := by rw [hr]; simp
 have hl' : (0 : Int) < (r.length : Int) := by omega
 clear hc hr
 go_enter Tryz.func266,Tryz.ntmps266
 go_wp2
 exact bodyPost_ret (v := keyV x.1) (by simp [results,Tryz.results266,go_sem]) rfl ⟨rfl,(Below.refl _ _).alloc (Nat.le_refl _) _⟩
open Classical in
set_option maxRecDepth 100000 in
set_option maxHeartbeats 2000000 in
theorem risingS_any (w : World) (v : Value) (r : List (Key × Nat)) (h : RowS w v r) :
  Calls Tryz.prog 268 #[v] w fun e w' => e = .returned (.bool (decide (Rising r))) ∧ Below w.heap.size w w' := by
 obtain ⟨a,c,rfl,hn,hc⟩ := h.len pkS
 go_enter Tryz.func268,Tryz.ntmps268
 go_wp2
 go_loopw [3] (fun x wr => ∃ i : Nat,x = .int .i64 (i : Int) ∧ 1 ≤ i ∧ i ≤ r.length + 1 ∧ Hid (upTo r i) ∧ Below w.heap.size w wr) (fun x _ => r.length + 1 - (intOf x).toNat)
 case atStart => exact ⟨1,rfl,Nat.le_refl _,by omega,fun j _ _ hj => absurd hj (by omega),Below.refl _ _⟩
 case round =>
  obtain ⟨i,rfl,h1,h2,hu,hB⟩ := hrel
  by_cases hlt : i < r.length
  ·have hlt' : (i : Int) < (r.length : Int) := by omega
   obtain ⟨b,o,c',e,g2,g3,hb,_,hcl⟩ := (h.off pkS (F := fun _ => False) (Off.of_below hB) (fun _ h => h.elim)).form pkS (by omega)
   cases e
   obtain ⟨p,rfl⟩ : ∃ p,i = p + 1 := ⟨i - 1,by omega⟩
   obtain ⟨x,hx⟩ : ∃ x,r[p]? = some x := ⟨_,List.getElem?_eq_getElem (by omega)⟩
   obtain ⟨y,hy⟩ : ∃ y,r[p + 1]? = some y := ⟨_,List.getElem?_eq_getElem (by omega)⟩
   have c0 : wr.cell? ⟨b,o + p * 3,none⟩ = some (.int .i64 x.1.1) := hcl p x hx 0 _ rfl
   have c1 : wr.cell? ⟨b,o + p * 3 + 1,none⟩ = some (.int .i64 x.1.2) := hcl p x hx 1 _ rfl
   have d0 : wr.cell? ⟨b,o + (p + 1) * 3,none⟩ = some (.int .i64 y.1.1) := hcl (p + 1) y hy 0 _ rfl
   have d1 : wr.cell? ⟨b,o + (p + 1) * 3 + 1,none⟩ = some (.int .i64 y.1.2) := hcl (p + 1) y hy 1 _ rfl
   have hcon := kcmp_any x.1 y.1 wr.drew
   unfold maxLen at g3
   have t0 : (p : Int) < (r.length : Int) := by omega
   have q1 : IntKind.i64.wrap (p : Int) = p := wrap_i64_nat _ (by omega)
   have q3 : (p : Int) + 1 < (r.length : Int) := by omega
   have q4 : ((p : Int) + 1).toNat = p + 1 := by omega
   have q5 : (0 : Int) ≤ (p : Int) + 1 := by omega
   have hk := cmpK_neg x.1 y.1
   obtain ⟨z,hz⟩ : ∃ z,cmpK x.1 y.1 = z := ⟨_,rfl⟩
   rw [hz] at hcon hk
   have HXY : Hid (r[p]? = some x ∧ r[p + 1]? = some y) := ⟨hx,hy⟩
   have HK : Hid (z < 0 ↔ klt x.1 y.1) := hk
   have keepS : ∀ W',Below wr.heap.size wr W' → W'.cell? ⟨b,o + p * 3,none⟩ = some (.int .i64 x.1.1) ∧ W'.cell? ⟨b,o + p * 3 + 1,none⟩ = some (.int .i64 x.1.2) ∧ W'.cell? ⟨b,o + (p + 1) * 3,none⟩ = some (.int .i64 y.1.1) ∧ W'.cell? ⟨b,o + (p + 1) * 3 + 1,none⟩ = some (.int .i64 y.1.2) := fun W' hW => ⟨(hW.cell (p := ⟨b,o + p * 3,none⟩) hb).trans c0,(hW.cell (p := ⟨b,o + p * 3 + 1,none⟩) hb).trans c1,(hW.cell (p := ⟨b,o + (p + 1) * 3,none⟩) hb).trans d0,(hW.cell (p := ⟨b,o + (p + 1) * 3 + 1,none⟩) hb).trans d1⟩
   clear hz hcl h hx hy hk
   go_wp2
   go_region_held3 (fun W' => W'.cell? ⟨b,o + p * 3,none⟩ = some (.int .i64 x.1.1) ∧ W'.cell? ⟨b,o + p * 3 + 1,none⟩ = some (.int .i64 x.1.2) ∧ W'.cell? ⟨b,o + (p + 1) * 3,none⟩ = some (.int .i64 y.1.1) ∧ W'.cell? ⟨b,o + (p + 1) * 3 + 1,none⟩ = some (.int .i64 y.1.2))
    (first
     | exact ⟨c0,c1,d0,d1⟩
     | exact keepS _ ((Below.refl _ wr).drew.trans hb1)
     | go_keep)
    ((go_at_call 104; refine hcon.mono ?_; rintro e w1 ⟨rfl,hb1⟩))
   have hB1 : Below w.heap.size w w1 := hB.trans (((Below.refl _ wr).drew.trans hb1).mono hB.size)
   clear keepS hcon c0 c1 d0 d1
   by_cases hz : z < 0
   ·have tz : decide (0 ≤ z) = false := by simp; omega
    have HU : Hid (upTo r (p + 1 + 1)) := fun j a b hj ha hb => by
     by_cases e : j = p
     ·subst e
      obtain ⟨e1,e2⟩ := HXY.out
      rw [e1] at ha
      rw [e2] at hb
      cases ha; cases hb
      exact HK.out.1 hz
     ·exact hu.out j a b (by omega) ha hb
    go_wp2
    go_roundw
    case rel => exact ⟨p + 1 + 1,by go_num,by omega,by omega,HU,hB1⟩
    case measure => simp [intOf]; omega
   ·have tz : decide (0 ≤ z) = true := by simp; omega
    have HN : Hid (¬ Rising r) := fun hr => hz (HK.out.2 (upTo_of_rising hr (p + 2) p x y (by omega) HXY.out.1 HXY.out.2))
    go_wp2
    go_ret
    exact ⟨ret_bool (by simp [HN.out]),hB1⟩
  ·have hlt' : decide ((i : Int) < (r.length : Int)) = false := by simp; omega
   have hlt2 : decide (i < r.length) = false := by simp; omega
   have HR : Hid (Rising r) := rising_of_upTo fun j a b hj ha hb => hu.out j a b (by omega) ha hb
   clear h
   go_wp2
   go_ret
   exact ⟨ret_bool (by simp [HR.out]),hB⟩
set_option maxHeartbeats 1000000 in
theorem kclS_any (x : Key × Nat) (k : Key) (w : World) : Calls Tryz.prog 215 #[prV x,keyV k] w fun e w' => e = .returned (.int .i64 (cmpK x.1 k)) ∧ Below w.heap.size w w' := by
 have hcon := fun W => kcmp_any x.1 k W
 generalize cmpK x.1 k = z at hcon ⊢
 go_enter Tryz.func215,Tryz.ntmps215
 go_wp2_with (go_at_call 104; refine (hcon _).mono ?_; rintro e w1 ⟨rfl,hb1⟩)
 go_ret
 have h0 : Below w.heap.size w ((w.alloc (.cells #[.int .i64 x.1.1, .int .i64 x.1.2, .int .i64 (x.2 : Int)] 234)).alloc (.cells #[.int .i64 k.1, .int .i64 k.2] 154)) := ((Below.refl _ w).alloc (Nat.le_refl _) _).alloc (by simp) _
 exact ⟨rfl,h0.trans (hb1.mono (by simp; omega))⟩
set_option maxRecDepth 100000 in
set_option maxHeartbeats 2000000 in
theorem bsS_any (w : World) (v : Value) (r : List (Key × Nat)) (h : RowS w v r) (hr : Rising r) (k : Key) :
  Calls Tryz.prog 214 #[v,keyV k, .func (.func 215) #[] #[]] w fun e w' => e = .returned (.tuple #[.int .i64 (lbn k r : Int), .bool (fnd k r)]) ∧ Below w.heap.size w w' := by
 obtain ⟨a,c,rfl,hn,hc⟩ := h.len pkS
 have HR : Hid (Rising r) := hr
 clear hr
 go_enter Tryz.func214,Tryz.ntmps214
 go_wp2
 go_loopw [9, 10] (fun x y wr => ∃ lo hi : Nat,x = .int .i64 (lo : Int) ∧ y = .int .i64 (hi : Int) ∧ lo ≤ hi ∧ hi ≤ r.length ∧ Hid ((∀ t x,t < lo → r[t]? = some x → klt x.1 k) ∧ ∀ t x,hi ≤ t → r[t]? = some x → ¬ klt x.1 k) ∧ Below w.heap.size w wr ∧ Blk wr w.heap.size 154 #[.int .i64 k.1, .int .i64 k.2]) (fun x y _ => (intOf y).toNat - (intOf x).toNat)
 case atStart => exact ⟨0,r.length,rfl,rfl,Nat.zero_le _,Nat.le_refl _,⟨fun t _ ht => absurd ht (by omega),fun t x ht hx => absurd (List.getElem?_eq_some_iff.1 hx).1 (by omega)⟩,(Below.refl _ _).alloc (Nat.le_refl _) _,Blk.new w 154 _⟩
 case round =>
  obtain ⟨lo,hi,rfl,rfl,h1,h2,hI,hB,hbk⟩ := hrel
  have k0 : wr.cell? ⟨w.heap.size, 0,none⟩ = some (.int .i64 k.1) := hbk.cell 0
  have k1 : wr.cell? ⟨w.heap.size, 1,none⟩ = some (.int .i64 k.2) := hbk.cell 1
  have hwl := hbk.lt
  have hrow := h.off pkS (F := fun _ => False) (Off.of_below hB) (fun _ h => h.elim)
  by_cases hlt : lo < hi
  ·have hlt' : (lo : Int) < (hi : Int) := by omega
   obtain ⟨b,o,c',e,g2,g3,hb,_,hcl⟩ := hrow.form pkS (by omega)
   cases e
   obtain ⟨m,hm⟩ : ∃ m,(lo + hi) / 2 = m := ⟨_,rfl⟩
   have hm1 : lo ≤ m ∧ m < hi := by omega
   obtain ⟨x,hx⟩ : ∃ x,r[m]? = some x := ⟨_,List.getElem?_eq_getElem (by omega)⟩
   unfold maxLen at g3
   have c0 : wr.cell? ⟨b,o + m * 3,none⟩ = some (.int .i64 x.1.1) := hcl m x hx 0 _ rfl
   have c1 : wr.cell? ⟨b,o + m * 3 + 1,none⟩ = some (.int .i64 x.1.2) := hcl m x hx 1 _ rfl
   have c2 : wr.cell? ⟨b,o + m * 3 + 2,none⟩ = some (.int .i64 (x.2 : Int)) := hcl m x hx 2 _ rfl
   have q0 : wrap64 (IntKind.u64.wrap (wrap64 ((lo : Int) + (hi : Int))) / 2) = (m : Int) := by
    simp only [IntKind.wrap,IntKind.bits,IntKind.signed]
    unfold wrap64
    simp
    omega
   have q1 : (m : Int) < (r.length : Int) := by omega
   have q2 : IntKind.i64.wrap (m : Int) = m := wrap_i64_nat _ (by omega)
   have hcon := kclS_any x k wr.drew
   have keepS : ∀ W',Below wr.heap.size wr W' → W'.cell? ⟨b,o + m * 3,none⟩ = some (.int .i64 x.1.1) ∧ W'.cell? ⟨b,o + m * 3 + 1,none⟩ = some (.int .i64 x.1.2) ∧ W'.cell? ⟨b,o + m * 3 + 2,none⟩ = some (.int .i64 (x.2 : Int)) ∧ W'.cell? ⟨w.heap.size, 0,none⟩ = some (.int .i64 k.1) ∧ W'.cell? ⟨w.heap.size, 1,none⟩ = some (.int .i64 k.2) :=
    fun W' hW => ⟨(hW.cell (p := ⟨b,o + m * 3,none⟩) hb).trans c0,(hW.cell (p := ⟨b,o + m * 3 + 1,none⟩) hb).trans c1,(hW.cell (p := ⟨b,o + m * 3 + 2,none⟩) hb).trans c2,(hW.cell (p := ⟨w.heap.size, 0,none⟩) hwl).trans k0,(hW.cell (p := ⟨w.heap.size, 1,none⟩) hwl).trans k1⟩
   have hk := cmpK_neg x.1 k
   obtain ⟨z,hz⟩ : ∃ z,cmpK x.1 k = z := ⟨_,rfl⟩
   rw [hz] at hcon hk
   have HX : Hid (r[m]? = some x) := hx
   have HK : Hid (z < 0 ↔ klt x.1 k) := hk
   have HM : Hid ((lo + hi) / 2 = m) := hm
   clear hcl hx hk hz hrow hm
   go_upto_region 5 with fail
   rw [q0]
   go_region_held3 (fun W' => W'.cell? ⟨b,o + m * 3,none⟩ = some (.int .i64 x.1.1) ∧ W'.cell? ⟨b,o + m * 3 + 1,none⟩ = some (.int .i64 x.1.2) ∧ W'.cell? ⟨b,o + m * 3 + 2,none⟩ = some (.int .i64 (x.2 : Int)) ∧ W'.cell? ⟨w.heap.size, 0,none⟩ = some (.int .i64 k.1) ∧ W'.cell? ⟨w.heap.size, 1,none⟩ = some (.int .i64 k.2))
    (first
     | exact keepS _ (Below.refl _ _)
     | exact keepS _ ((Below.refl _ wr).drew.trans hb1)
     | go_keep)
    (first | (go_at_call 215; refine hcon.mono ?_; rintro e w1 ⟨rfl,hb1⟩) | (go_at_fn 215; refine hcon.mono ?_; rintro e w1 ⟨rfl,hb1⟩))
   have hB1' : Below wr.heap.size wr w1 := (Below.refl _ wr).drew.trans hb1
   have hB1 : Below w.heap.size w w1 := hB.trans (hB1'.mono hB.size)
   have hbk1 := hbk.below hB1' hbk.lt
   clear keepS hcon c0 c1 c2 k0 k1
   by_cases hz : z < 0
   ·have HU : Hid ((∀ t x,t < m + 1 → r[t]? = some x → klt x.1 k) ∧ ∀ t x,hi ≤ t → r[t]? = some x → ¬ klt x.1 k) := by
     refine ⟨fun t y ht hy => ?_,hI.out.2⟩
     have hxk := HK.out.1 hz
     rcases Nat.lt_or_ge t m with g | g
     ·refine klt_trans ?_ hxk
      have hxm := HX.out
      obtain ⟨h3,e3⟩ := List.getElem?_eq_some_iff.1 hxm
      obtain ⟨h4,e4⟩ := List.getElem?_eq_some_iff.1 hy
      have := List.pairwise_iff_getElem.1 HR.out t m h4 h3 g
      rwa [e3,e4] at this
     ·have : t = m := by omega
      subst this
      rw [HX.out] at hy; cases hy; exact hxk
    go_wp2
    go_roundw
    case rel => exact ⟨m + 1,hi,by go_num,rfl,by omega,h2,HU,hB1,hbk1⟩
    case measure => simp [intOf]; omega
   ·have HU : Hid ((∀ t x,t < lo → r[t]? = some x → klt x.1 k) ∧ ∀ t x,m ≤ t → r[t]? = some x → ¬ klt x.1 k) := by
     refine ⟨hI.out.1,fun t y ht hy hyk => ?_⟩
     refine hz (HK.out.2 ?_)
     rcases Nat.lt_or_ge m t with g | g
     ·refine klt_trans ?_ hyk
      have hxm := HX.out
      obtain ⟨h3,e3⟩ := List.getElem?_eq_some_iff.1 hxm
      obtain ⟨h4,e4⟩ := List.getElem?_eq_some_iff.1 hy
      have := List.pairwise_iff_getElem.1 HR.out m t h3 h4 g
      rwa [e3,e4] at this
     ·have : t = m := by omega
      subst this
      rw [HX.out] at hy; cases hy; exact hyk
    go_wp2
    go_roundw
    case rel => exact ⟨lo,m,rfl,by go_num,by omega,by omega,HU,hB1,hbk1⟩
    case measure => simp [intOf]; omega
  ·have hlt' : decide ((lo : Int) < (hi : Int)) = false := by simp; omega
   have hlt2 : decide (lo < hi) = false := by simp; omega
   have hlh : hi = lo := by omega
   subst hlh
   have hL : lbn k r = hi := lbn_at h2 hI.out.1 hI.out.2
   have HL : Hid (lbn k r = hi) := hL
   clear hlt hI
   by_cases hin : hi < r.length
   ·have hin' : (hi : Int) < (r.length : Int) := by omega
    obtain ⟨b,o,c',e,g2,g3,hb,_,hcl⟩ := hrow.form pkS (by omega)
    cases e
    obtain ⟨x,hx⟩ : ∃ x,r[hi]? = some x := ⟨_,List.getElem?_eq_getElem (by omega)⟩
    have c0 : wr.cell? ⟨b,o + hi * 3,none⟩ = some (.int .i64 x.1.1) := hcl hi x hx 0 _ rfl
    have c1 : wr.cell? ⟨b,o + hi * 3 + 1,none⟩ = some (.int .i64 x.1.2) := hcl hi x hx 1 _ rfl
    have c2 : wr.cell? ⟨b,o + hi * 3 + 2,none⟩ = some (.int .i64 (x.2 : Int)) := hcl hi x hx 2 _ rfl
    have HF : Hid (fnd k r = decide (cmpK x.1 k = 0)) := by
     have := fnd_at HR.out (k := k) (x := x) (by rw [HL.out]; exact hx)
     show _ = _
     rw [this]
     exact decide_eq_decide.2 (cmpK_zero x.1 k).symm
    have hcon := kclS_any x k wr.drew
    have keepS : ∀ W',Below wr.heap.size wr W' → W'.cell? ⟨b,o + hi * 3,none⟩ = some (.int .i64 x.1.1) ∧ W'.cell? ⟨b,o + hi * 3 + 1,none⟩ = some (.int .i64 x.1.2) ∧ W'.cell? ⟨b,o + hi * 3 + 2,none⟩ = some (.int .i64 (x.2 : Int)) ∧ W'.cell? ⟨w.heap.size, 0,none⟩ = some (.int .i64 k.1) ∧ W'.cell? ⟨w.heap.size, 1,none⟩ = some (.int .i64 k.2) :=
     fun W' hW => ⟨(hW.cell (p := ⟨b,o + hi * 3,none⟩) hb).trans c0,(hW.cell (p := ⟨b,o + hi * 3 + 1,none⟩) hb).trans c1,(hW.cell (p := ⟨b,o + hi * 3 + 2,none⟩) hb).trans c2,(hW.cell (p := ⟨w.heap.size, 0,none⟩) hwl).trans k0,(hW.cell (p := ⟨w.heap.size, 1,none⟩) hwl).trans k1⟩
    obtain ⟨z,hz⟩ : ∃ z,cmpK x.1 k = z := ⟨_,rfl⟩
    rw [hz] at hcon HF
    clear hcl hx hz hrow h hL
    go_upto_region 8 with fail
    go_region_held3 (fun W' => W'.cell? ⟨b,o + hi * 3,none⟩ = some (.int .i64 x.1.1) ∧ W'.cell? ⟨b,o + hi * 3 + 1,none⟩ = some (.int .i64 x.1.2) ∧ W'.cell? ⟨b,o + hi * 3 + 2,none⟩ = some (.int .i64 (x.2 : Int)) ∧ W'.cell? ⟨w.heap.size, 0,none⟩ = some (.int .i64 k.1) ∧ W'.cell? ⟨w.heap.size, 1,none⟩ = some (.int .i64 k.2))
     (first
      | exact keepS _ (Below.refl _ _)
      | exact keepS _ ((Below.refl _ wr).drew.trans hb1)
      | go_keep)
     (first | (go_at_call 215; refine hcon.mono ?_; rintro e w1 ⟨rfl,hb1⟩) | (go_at_fn 215; refine hcon.mono ?_; rintro e w1 ⟨rfl,hb1⟩))
    have hB1 : Below w.heap.size w w1 := hB.trans (((Below.refl _ wr).drew.trans hb1).mono hB.size)
    clear keepS hcon c0 c1 c2 k0 k1
    go_wp2
    go_ret2
    exact ⟨ret_ib (by rw [HL.out]) (by rw [HF.out]; first | rfl | simp),hB1⟩
   ·have hin' : decide ((hi : Int) < (r.length : Int)) = false := by simp; omega
    have hin2 : decide (hi < r.length) = false := by simp; omega
    have HF : Hid (fnd k r = false) := fnd_end HR.out (by omega)
    clear hrow h hL
    go_upto_region 8 with fail
    go_quiet (fail)
    go_wp2
    go_ret2
    exact ⟨ret_ib (by rw [HL.out]) (by rw [HF.out]),below_drewN hB nq⟩
set_option maxHeartbeats 1000000 in
theorem findS_any (w : World) (v : Value) (r : List (Key × Nat)) (h : RowS w v r) (hr : Rising r) (k : Key) :
  Calls Tryz.prog 189 #[v,keyV k] w fun e w' => e = .returned (.tuple #[.int .i64 (lbn k r : Int), .bool (fnd k r)]) ∧ Below w.heap.size w w' := by
 have hb0 : Below w.heap.size w (w.alloc (.cells #[.int .i64 k.1, .int .i64 k.2] 154)) := (Below.refl _ w).alloc (Nat.le_refl _) _
 have hcon := bsS_any _ v r (h.below pkS hb0) hr k
 generalize lbn k r = i at hcon ⊢
 generalize fnd k r = f at hcon ⊢
 clear h
 go_enter Tryz.func189,Tryz.ntmps189
 go_wp2_with (go_at_call 214; refine hcon.mono ?_; rintro e w1 ⟨rfl,hb1⟩)
 go_ret2
 exact ⟨rfl,hb0.trans (hb1.mono (by simp))⟩
end
end Go.Proofs.YtdgbgmffpcooeaaGreat
namespace Go.Proofs
open Go.Shelf
section
def Tryz.growI_ren : Go.Shelf.Ren := ⟨fun | 4 => 147 | n => n,fun | 22 => 35 | 25 => 3 | 3 => 3 | 4 => 4 | 9 => 9 | 20 => 20 | 0 => 0 | n => n,fun | n => n⟩
theorem Tryz.growI : Go.Proofs.Lays8.n4 Tryz.prog Tryz.growI_ren := {
 mixed := by kernel_rfl
 f4 := ⟨Tryz.f147.name,by decide,Tryz.func147.trans (congrArg some (by kernel_rfl))⟩
 t0 := Tryz.underlying0
 a0 := Tryz.isAgg0
 z0 := Tryz.sizeOf0
 v0 := Tryz.zeroValue0
 t3 := Tryz.underlying3
 a3 := Tryz.isAgg3
 z3 := Tryz.sizeOf3
 v3 := Tryz.zeroValue3
 t4 := Tryz.underlying4
 a4 := Tryz.isAgg4
 z4 := Tryz.sizeOf4
 v4 := Tryz.zeroValue4
 t9 := Tryz.underlying9
 a9 := Tryz.isAgg9
 z9 := Tryz.sizeOf9
 v9 := Tryz.zeroValue9
 t20 := Tryz.underlying20
 a20 := Tryz.isAgg20
 z20 := Tryz.sizeOf20
 v20 := Tryz.zeroValue20
 t22 := Tryz.underlying35
 a22 := Tryz.isAgg35
 z22 := Tryz.sizeOf35
 v22 := Tryz.zeroValue35 }
def Tryz.growE_ren : Go.Shelf.Ren := ⟨fun | 4 => 212 | n => n,fun | 22 => 189 | 25 => 156 | 3 => 3 | 4 => 4 | 9 => 9 | 20 => 20 | 0 => 0 | n => n,fun | n => n⟩
theorem Tryz.growE : Go.Proofs.Lays8.n4 Tryz.prog Tryz.growE_ren := {
 mixed := by kernel_rfl
 f4 := ⟨Tryz.f212.name,by decide,Tryz.func212.trans (congrArg some (by kernel_rfl))⟩
 t0 := Tryz.underlying0
 a0 := Tryz.isAgg0
 z0 := Tryz.sizeOf0
 v0 := Tryz.zeroValue0
 t3 := Tryz.underlying3
 a3 := Tryz.isAgg3
 z3 := Tryz.sizeOf3
 v3 := Tryz.zeroValue3
 t4 := Tryz.underlying4
 a4 := Tryz.isAgg4
 z4 := Tryz.sizeOf4
 v4 := Tryz.zeroValue4
 t9 := Tryz.underlying9
 a9 := Tryz.isAgg9
 z9 := Tryz.sizeOf9
 v9 := Tryz.zeroValue9
 t20 := Tryz.underlying20
 a20 := Tryz.isAgg20
 z20 := Tryz.sizeOf20
 v20 := Tryz.zeroValue20
 t22 := Tryz.underlying189
 a22 := Tryz.isAgg189
 z22 := Tryz.sizeOf189
 v22 := Tryz.zeroValue189 }
def Tryz.growP_ren : Go.Shelf.Ren := ⟨fun | 4 => 230 | n => n,fun | 22 => 212 | 25 => 234 | 3 => 3 | 4 => 4 | 9 => 9 | 20 => 20 | 0 => 0 | n => n,fun | n => n⟩
theorem Tryz.growP : Go.Proofs.Lays8.n4 Tryz.prog Tryz.growP_ren := {
 mixed := by kernel_rfl
 f4 := ⟨Tryz.f230.name,by decide,Tryz.func230.trans (congrArg some (by kernel_rfl))⟩
 t0 := Tryz.underlying0
 a0 := Tryz.isAgg0
 z0 := Tryz.sizeOf0
 v0 := Tryz.zeroValue0
 t3 := Tryz.underlying3
 a3 := Tryz.isAgg3
 z3 := Tryz.sizeOf3
 v3 := Tryz.zeroValue3
 t4 := Tryz.underlying4
 a4 := Tryz.isAgg4
 z4 := Tryz.sizeOf4
 v4 := Tryz.zeroValue4
 t9 := Tryz.underlying9
 a9 := Tryz.isAgg9
 z9 := Tryz.sizeOf9
 v9 := Tryz.zeroValue9
 t20 := Tryz.underlying20
 a20 := Tryz.isAgg20
 z20 := Tryz.sizeOf20
 v20 := Tryz.zeroValue20
 t22 := Tryz.underlying212
 a22 := Tryz.isAgg212
 z22 := Tryz.sizeOf212
 v22 := Tryz.zeroValue212 }
def Tryz.cloneI_ren : Go.Shelf.Ren := ⟨fun | 15 => 109 | n => n,fun | 22 => 35 | 3 => 3 | 4 => 4 | n => n,fun | n => n⟩
theorem Tryz.cloneI : Go.Proofs.Lays2.n15 Tryz.prog Tryz.cloneI_ren := {
 mixed := by kernel_rfl
 f15 := Tryz.func109.trans (congrArg some (by kernel_rfl))
 t3 := Tryz.underlying3
 a3 := Tryz.isAgg3
 z3 := Tryz.sizeOf3
 v3 := Tryz.zeroValue3
 t4 := Tryz.underlying4
 a4 := Tryz.isAgg4
 z4 := Tryz.sizeOf4
 v4 := Tryz.zeroValue4
 t22 := Tryz.underlying35
 a22 := Tryz.isAgg35
 z22 := Tryz.sizeOf35
 v22 := Tryz.zeroValue35
 i3 := by kernel_rfl }
def Tryz.compactI_ren : Go.Shelf.Ren := ⟨fun | 20 => 94 | n => n,fun | 22 => 35 | 3 => 3 | 4 => 4 | 0 => 0 | n => n,fun | n => n⟩
theorem Tryz.compactI : Go.Proofs.Lays2.n20 Tryz.prog Tryz.compactI_ren := {
 mixed := by kernel_rfl
 f20 := Tryz.func94.trans (congrArg some (by kernel_rfl))
 t0 := Tryz.underlying0
 a0 := Tryz.isAgg0
 z0 := Tryz.sizeOf0
 v0 := Tryz.zeroValue0
 t3 := Tryz.underlying3
 a3 := Tryz.isAgg3
 z3 := Tryz.sizeOf3
 v3 := Tryz.zeroValue3
 t4 := Tryz.underlying4
 a4 := Tryz.isAgg4
 z4 := Tryz.sizeOf4
 v4 := Tryz.zeroValue4
 t22 := Tryz.underlying35
 a22 := Tryz.isAgg35
 z22 := Tryz.sizeOf35
 v22 := Tryz.zeroValue35
 i3 := by kernel_rfl }
def Tryz.eqEnt_ren : Go.Shelf.Ren := ⟨fun | 8 => 105 | n => n,fun | 22 => 151 | 24 => 156 | 4 => 4 | 3 => 3 | 0 => 0 | n => n,fun | n => n⟩
theorem Tryz.eqEnt : Go.Proofs.SlLaysQ.n8 Tryz.prog Tryz.eqEnt_ren := {
 mixed := by kernel_rfl
 f8 := ⟨Tryz.f105.name,by decide,Tryz.func105.trans (congrArg some (by kernel_rfl))⟩
 t0 := Tryz.underlying0
 a0 := Tryz.isAgg0
 z0 := Tryz.sizeOf0
 v0 := Tryz.zeroValue0
 t3 := Tryz.underlying3
 a3 := Tryz.isAgg3
 z3 := Tryz.sizeOf3
 v3 := Tryz.zeroValue3
 t4 := Tryz.underlying4
 a4 := Tryz.isAgg4
 z4 := Tryz.sizeOf4
 v4 := Tryz.zeroValue4
 t22 := Tryz.underlying151
 a22 := Tryz.isAgg151
 z22 := Tryz.sizeOf151
 v22 := Tryz.zeroValue151 }
end
end Go.Proofs
namespace Go.Proofs.YtdgbgmffpcooeaaGreat
open Go.RowKit Go.Lib
section
structure Src (W : World) (size : Nat) (v : Value) (m : Nat) (cs : List Value) : Prop where
 len : cs.length = m * size
 one : ∀ u ∈ cs,u.oneCell' = true
 at_ : (v = .slice none 0 0 ∧ m = 0) ∨ ∃ ad c,v = .slice (some ad) m c ∧ ∀ j u,cs[j]? = some u → ad.block < W.heap.size ∧ W.cell? (ad.add j) = some u
theorem add_block (a : Addr) (j : Nat) : (a.add j).block = a.block := by unfold Addr.add; split <;> rfl
theorem Src.below {W W' : World} {size : Nat} {v : Value} {m : Nat} {cs : List Value} (h : Src W size v m cs) (hb : Below W.heap.size W W') : Src W' size v m cs := by
 refine ⟨h.len,h.one, ?_⟩
 rcases h.at_ with h1 | ⟨ad,c,h1,h2⟩
 ·exact .inl h1
 ·refine .inr ⟨ad,c,h1,fun j u hu => ?_⟩
  obtain ⟨g1,g2⟩ := h2 j u hu
  exact ⟨Nat.lt_of_lt_of_le g1 hb.size,(hb.cell (p := ad.add j) (by rw [add_block]; exact g1)).trans g2⟩
theorem Src.of_row {V : Type} {K : PK V} {W : World} {v : Value} {r : List (Key × V)} (h : Row K W v r) (ho : ∀ x, ∀ u ∈ K.enc x,u.oneCell' = true) : Src W K.k v r.length (flat K r) := by
 have h1 : ∀ u ∈ flat K r,u.oneCell' = true := fun u hu => by
  obtain ⟨x,_,hx⟩ := List.mem_flatMap.1 hu
  exact ho x u hx
 refine ⟨flat_length K r,h1, ?_⟩
 rcases h with ⟨rfl,h⟩ | ⟨b,o,c,cur,h1,h2,h3,h4,h5⟩
 ·exact .inl ⟨h,rfl⟩
 ·refine .inr ⟨⟨b,o,none⟩,c,h1,fun j u hu => ⟨(Array.getElem?_eq_some_iff.1 h4).1, ?_⟩⟩
  have hj : j < r.length * K.k := by rw [← flat_length]; exact (List.getElem?_eq_some_iff.1 hu).1
  rw [← h5,List.getElem?_take_of_lt hj,List.getElem?_drop] at hu
  rw [Addr.add_mid]
  simp only [World.cell?,h4]
  rw [← Array.getElem?_toList]; exact hu
theorem entC_one (x : Key × Box) : ∀ u ∈ pkR.enc x,u.oneCell' = true := fun u hu => by
 simp only [pkR,entC,List.mem_cons,List.not_mem_nil,or_false] at hu
 rcases hu with rfl | rfl | rfl | rfl | rfl | rfl <;> rfl
theorem prC_one (x : Key × Nat) : ∀ u ∈ pkS.enc x,u.oneCell' = true := fun u hu => by
 simp only [pkS,prC,List.mem_cons,List.not_mem_nil,or_false] at hu
 rcases hu with rfl | rfl | rfl <;> rfl
structure SrcL where
 v : Value
 m : Nat
 cs : List Value
def lenS (L : List SrcL) : Nat := (L.map SrcL.m).sum
def allS (L : List SrcL) : List Value := L.flatMap SrcL.cs
theorem lenS_snoc {L : List SrcL} {x : SrcL} : lenS (L ++ [x]) = lenS L + x.m := by simp [lenS]
theorem allS_snoc {L : List SrcL} {x : SrcL} : allS (L ++ [x]) = allS L ++ x.cs := by simp [allS]
theorem lenS_take_le : ∀ (L : List SrcL) (i : Nat),lenS (L.take i) ≤ lenS L
 | [],i => by simp [lenS]
 | x :: L, 0 => by simp [lenS]
 | x :: L,i + 1 => by have := lenS_take_le L i; simp only [lenS,List.take_succ_cons,List.map_cons,List.sum_cons] at this ⊢; omega
theorem take_snoc {α : Type} {L : List α} {i : Nat} {x : α} (h : L[i]? = some x) : L.take (i + 1) = L.take i ++ [x] := by rw [List.take_add_one,h]; rfl
--BEGIN
theorem infoR : (Tryz.prog.info? 156).map (fun i => (i.zero,i.size,i.bytes)) = some (some (.agg #[.int .i64 0, .int .i64 0, .int .i64 0, .int .i64 0, .int .i64 0, .int .i64 0]), 6, 48) := by kernel_rfl
set_option maxRecDepth 100000 in
set_option maxHeartbeats 2000000 in
theorem growR_any (w : World) (n : Nat) (hn : n ≤ 1000000) :
  Calls Tryz.prog 212 #[.slice none 0 0, .int .i64 (n : Int)] w fun e w' => ∃ v,e = .returned v ∧ w'.ownsRow w.heap.size 156 6 v 0 [] ∧ Below w.heap.size w w' := by
 obtain ⟨i0,hi0,hz0,hz1,hz2⟩ := info_parts infoR
 by_cases h0 : n = 0
 ·subst h0
  refine (Any8.slices_Grow_room Tryz.growE none 0 0 0 w (Nat.le_refl _) (by omega) (by omega) (by omega)).mono ?_
  rintro e w' ⟨rfl,rfl⟩
  exact ⟨_,rfl,World.ownsRow_nil ..,Below.refl _ _⟩
 ·refine (Any8.slices_Grow_grow Tryz.growE i0 _ hi0 hz0 (by omega) none 0 0 n [] w (Nat.le_refl _) (by omega) (by rw [hz2]; omega) (by omega) (by simp) (fun _ => rfl) (fun a h => by cases h)).mono ?_
  rintro e w' ⟨rfl,rfl⟩
  have hge := grownCap_ge w (0 + n) 0 (Tryz.growE_ren.t 25)
  have hle := grownCap_le_maxLen w (0 + n) 0 (Tryz.growE_ren.t 25) (by unfold maxLen; omega)
  generalize grownCap w (0 + n) 0 (Tryz.growE_ren.t 25) = cap at hge hle ⊢
  refine ⟨_,rfl,⟨rfl, .inr ⟨w.heap.size,cap,_,rfl,Nat.le_refl _,World.alloc_heap_new w.drew _,Nat.zero_le _,hle, ?_,by simp⟩⟩,((Below.refl _ w).drew).alloc (Nat.le_refl _) _⟩
  simp only [Array.size_append,size_zeroCells]
  simp [Value.cells]
  omega
set_option maxRecDepth 100000 in
set_option maxHeartbeats 4000000 in
theorem concatR_any (w : World) (p : Nat) (L : List SrcL) (n : Nat) (hn : n = L.length) (hp : ∀ i x,L[i]? = some x → p < w.heap.size ∧ w.cell? ⟨p,i,none⟩ = some x.v) (hL : ∀ x ∈ L,Src w 6 x.v x.m x.cs) (hs : lenS L ≤ 1000000) (hn3 : n ≤ 3) :
  Calls Tryz.prog 183 #[.slice (some ⟨p, 0,none⟩) n n] w fun e w' => ∃ v,e = .returned v ∧ w'.ownsRow w.heap.size 156 6 v (lenS L) (allS L) ∧ Below w.heap.size w w' := by
 obtain ⟨i0,hi0,hz0,hz1,hz2⟩ := info_parts infoR
 have HN : Hid (n = L.length) := hn
 clear hn
 go_enter Tryz.func183,Tryz.ntmps183
 go_wp2
 go_loopw [3, 11] (fun s x wr => wr = w ∧ ∃ i : Nat,x = .int .i64 (i : Int) ∧ i ≤ n ∧ s = .int .i64 (lenS (L.take i) : Int)) (fun _ x _ => n - (intOf x).toNat)
 case atStart => exact ⟨rfl, 0,rfl,Nat.zero_le _,by simp [lenS]⟩
 case round =>
  obtain ⟨rfl,i,rfl,hi,rfl⟩ := hrel
  by_cases hlt : i < n
  ·have hlt' : (i : Int) < (n : Int) := by omega
   obtain ⟨x,hx⟩ : ∃ x,L[i]? = some x := ⟨_,List.getElem?_eq_getElem (by have := HN.out; omega)⟩
   obtain ⟨hpl,hc⟩ := hp i x hx
   have hle := lenS_take_le L (i + 1)
   rw [take_snoc hx,lenS_snoc] at hle
   have HS : Hid (lenS (L.take (i + 1)) = lenS (L.take i) + x.m) := by show _ = _; rw [take_snoc hx,lenS_snoc]
   obtain ⟨a,cp,hv⟩ : ∃ a cp,x.v = .slice a x.m cp := by
    rcases (hL x (List.mem_of_getElem? hx)).at_ with ⟨h1,h2⟩ | ⟨ad,c,h1,_⟩
    ·exact ⟨none, 0,by rw [h1,h2]⟩
    ·exact ⟨_,c,h1⟩
   rw [hv] at hc
   generalize lenS (L.take i) = S at hle HS ⊢
   generalize x.m = M at hle HS hc ⊢
   have q1 : wrap64 ((S : Int) + (M : Int)) = ((S + M : Nat) : Int) := by unfold wrap64; omega
   have q2 : decide (((S + M : Nat) : Int) < 0) = false := by simp; omega
   have q3 : decide ((S : Int) + (M : Int) < 0) = false := by simp; omega
   clear hp hL hx hv
   go_wp2
   refine ⟨⟨trivial,i + 1,by go_num,by omega, ?_⟩,by simp [intOf]; omega⟩
   rw [HS.out]; go_num
  ·have hlt' : decide ((i : Int) < (n : Int)) = false := by simp; omega
   have hlt2 : decide (i < n) = false := by simp; omega
   have hall : L.take i = L := List.take_of_length_le (by have := HN.out; omega)
   rw [hall]
   rename World => W0
   have hcon := growR_any W0 (lenS L) hs
   clear hall
   go_wp2_with (go_at_call 212; refine hcon.mono ?_; rintro e w1 ⟨v1,rfl,hown1,hb1⟩)
   clear hcon
   go_loopw [6, 27] (fun s x ws => ∃ i : Nat,x = .int .i64 (i : Int) ∧ i ≤ n ∧ ws.ownsRow W0.heap.size 156 6 s (lenS (L.take i)) (allS (L.take i)) ∧ Below W0.heap.size W0 ws) (fun _ x _ => n - (intOf x).toNat)
   case atStart => exact ⟨0,rfl,Nat.zero_le _,hown1,hb1⟩
   case round =>
    clear hlt hlt' hlt2 hi hown1 hb1
    obtain ⟨i,rfl,hi,hown,hB⟩ := hrel
    by_cases hlt : i < n
    ·have hlt' : (i : Int) < (n : Int) := by omega
     obtain ⟨x,hx⟩ : ∃ x,L[i]? = some x := ⟨_,List.getElem?_eq_getElem (by have := HN.out; omega)⟩
     obtain ⟨hpl,hc0⟩ := hp i x hx
     have hc : wr.cell? ⟨p,i,none⟩ = some x.v := (hB.cell (p := ⟨p,i,none⟩) hpl).trans hc0
     have hle := lenS_take_le L (i + 1)
     rw [take_snoc hx,lenS_snoc] at hle
     have HS : Hid (lenS (L.take (i + 1)) = lenS (L.take i) + x.m ∧ allS (L.take (i + 1)) = allS (L.take i) ++ x.cs) := ⟨by rw [take_snoc hx,lenS_snoc],by rw [take_snoc hx,allS_snoc]⟩
     have hsrc := (hL x (List.mem_of_getElem? hx)).below hB
     obtain ⟨xv,xm,xc⟩ := x
     obtain ⟨hlen,hone,hat⟩ := hsrc
     simp only at hlen hone hat hc hle HS
     generalize lenS (L.take i) = S at hle HS hown
     generalize allS (L.take i) = A at HS hown
     have hpw : p < wr.heap.size := by have := hB.size; omega
     have hsB := hB.size
     clear hp hL hx hc0
     rcases hat with ⟨rfl,rfl⟩ | ⟨ad,cp,rfl,hcs⟩
     ·go_wp2_with (at_builtin; refine wpList_append_own_none rfl (.tmp 31) (.tmp 32) 189 rfl W0.heap.size 156 i0 6 Tryz.underlying189 hi0 _ S _ rfl hown rfl ?_)
      refine ⟨⟨i + 1,by go_num,by omega, ?_,hB⟩,by simp [intOf]; omega⟩
      have h0 : xc = [] := List.eq_nil_of_length_eq_zero (by simpa using hlen)
      rw [HS.out.1,HS.out.2,h0,List.append_nil]
      exact hown
     ·go_wp2_with (at_builtin; refine wpList_append_own _ rfl (.tmp 31) (.tmp 32) 189 rfl W0.heap.size 156 i0 _ 6 48 Tryz.underlying189 hi0 hz0 hz1 hz2 rfl (by omega) _ S _ rfl hown ad xm cp xc rfl hlen (fun j u hu => (hcs j u hu).2) hone (by unfold maxLen; omega) (by omega) hsB ?_; intro v2 w2 hown2 hg2 _)
      refine ⟨⟨i + 1,by go_num,by omega, ?_,hB.grown hg2 hB.size (fun k hk => (own_tagged hown hk).1)⟩,by simp [intOf]; omega⟩
      rw [HS.out.1,HS.out.2]
      exact hown2
    ·have hlt' : decide ((i : Int) < (n : Int)) = false := by simp; omega
     have hlt2 : decide (i < n) = false := by simp; omega
     have hall : L.take i = L := List.take_of_length_le (by have := HN.out; omega)
     rw [hall] at hown
     clear hall
     go_wp2
     go_ret
     exact ⟨_,rfl,hown,hB⟩
theorem lenS3 (a b c : SrcL) : lenS [a,b,c] = a.m + b.m + c.m := by simp [lenS]; omega
theorem allS3 (a b c : SrcL) : allS [a,b,c] = a.cs ++ b.cs ++ c.cs := by simp [allS]
set_option maxRecDepth 100000 in
set_option maxHeartbeats 2000000 in
theorem swapR_any (w : World) (v : Value) (r : List (Key × Box)) (h : RowR w v r) (i j : Nat) (hij : i ≤ j) (hj : j ≤ r.length) (u : Value) (q : List (Key × Box)) (hu : Src w 6 u q.length (flat pkR q)) (hr : r.length ≤ 1000) (hq : q.length ≤ 1000) :
  Calls Tryz.prog 146 #[v, .int .i64 (i : Int), .int .i64 (j : Int),u] w fun e w' => ∃ v',e = .returned v' ∧ RowR w' v' (r.take i ++ q ++ r.drop j) ∧ Below w.heap.size w w' := by
 have hcon : ∀ v1 v3,RowR w v1 (r.take i) → RowR w v3 (r.drop j) → Calls Tryz.prog 183 #[.slice (some ⟨w.heap.size, 0,none⟩) 3 3] (w.alloc (.cells #[v1,u,v3] 189)).drew fun e w' => ∃ v',e = .returned v' ∧ RowR w' v' (r.take i ++ q ++ r.drop j) ∧ Below w.heap.size w w' := fun v1 v3 h1 h3 => by
  have hb0 : Below w.heap.size w (w.alloc (.cells #[v1,u,v3] 189)).drew := ((Below.refl _ w).alloc (Nat.le_refl _) _).drew
  have hbk := (Blk.new w 189 #[v1,u,v3]).drew
  have l1 : (r.take i).length ≤ 1000 := by rw [List.length_take]; omega
  have l3 : (r.drop j).length ≤ 1000 := by rw [List.length_drop]; omega
  refine (concatR_any _ w.heap.size [⟨v1,(r.take i).length,flat pkR (r.take i)⟩,⟨u,q.length,flat pkR q⟩,⟨v3,(r.drop j).length,flat pkR (r.drop j)⟩] 3 rfl (fun k x hx => ?_) (fun x hx => ?_) ?_ (Nat.le_refl _)).mono ?_
  ·have hk : k < 3 := (List.getElem?_eq_some_iff.1 hx).1
   refine ⟨hbk.lt, ?_⟩
   have := hbk.cell k
   rw [this]
   match k,hk,hx with
   | 0,_,hx => cases hx; rfl
   | 1,_,hx => cases hx; rfl
   | 2,_,hx => cases hx; rfl
  ·simp only [List.mem_cons,List.not_mem_nil,or_false] at hx
   rcases hx with rfl | rfl | rfl
   ·exact (Src.of_row h1 entC_one).below hb0
   ·exact hu.below hb0
   ·exact (Src.of_row h3 entC_one).below hb0
  ·rw [lenS3]; simp only; omega
  ·rintro e w' ⟨v',rfl,ho,hb⟩
   rw [lenS3,allS3] at ho
   refine ⟨v',rfl,Row.of_own pkR (base := (w.alloc (.cells #[v1,u,v3] 189)).drew.heap.size) ?_,hb0.trans (hb.mono hb0.size)⟩
   rw [flat_append,flat_append,List.length_append,List.length_append]
   exact ho
 obtain ⟨ua,um,uc,rfl⟩ : ∃ ua um uc,u = .slice ua um uc := by
  rcases hu.at_ with ⟨h1,_⟩ | ⟨ad,cp,h1,_⟩
  ·exact ⟨_,_,_,h1⟩
  ·exact ⟨_,_,_,h1⟩
 rcases h with ⟨rfl,rfl⟩ | ⟨b,o,c,cur,rfl,h2,h3,h4,h5⟩
 ·obtain rfl : j = 0 := by simpa using hj
  obtain rfl : i = 0 := by omega
  have hc := hcon (.slice none 0 0) (.slice none 0 0) (Row.nil pkR w) (Row.nil pkR w)
  clear hcon hu
  go_enter Tryz.func146,Tryz.ntmps146
  go_wp2
  go_region_held3 (fun _ => True) (trivial) ((go_at_call 183; refine hc.mono ?_; rintro e w1 ⟨v',rfl,ho,hb⟩))
  go_wp2
  go_ret
  exact ⟨v',rfl,ho,hb⟩
 ·have hrow : RowR w (.slice (some ⟨b,o,none⟩) r.length c) r := .inr ⟨b,o,c,cur,rfl,h2,h3,h4,h5⟩
  have hd : RowR w (.slice (if c = j then some ⟨b,o,none⟩ else some ⟨b,o + j * 6,none⟩) (r.length - j) (c - j)) (r.drop j) := by
   split
   ·have hl : (r.drop j).length = 0 := by rw [List.length_drop]; omega
    exact .inr ⟨b,o,c - j,cur,by rw [hl,show r.length - j = 0 by omega],by omega,by omega,h4,by rw [List.eq_nil_of_length_eq_zero hl]; simp [flat]⟩
   ·exact hrow.drop pkR (n := j) hj
  have hc := hcon _ _ (hrow.take pkR (n := i) (by omega)) hd
  unfold maxLen at h3
  have q1 : (i : Int) ≤ (c : Int) := by omega
  have q2 : (j : Int) ≤ (r.length : Int) := by omega
  clear hcon hu hrow h4 h5 hd
  by_cases hcj : c = j
  ·subst hcj
   rw [if_pos rfl,show r.length - c = 0 by omega,Nat.sub_self] at hc
   go_enter Tryz.func146,Tryz.ntmps146
   go_wp2
   go_region_held3 (fun _ => True) (trivial) ((go_at_call 183; refine hc.mono ?_; rintro e w1 ⟨v',rfl,ho,hb⟩))
   go_wp2
   go_ret
   exact ⟨v',rfl,ho,hb⟩
  ·rw [if_neg hcj] at hc
   go_enter Tryz.func146,Tryz.ntmps146
   go_wp2
   go_region_held3 (fun _ => True) (trivial) ((go_at_call 183; refine hc.mono ?_; rintro e w1 ⟨v',rfl,ho,hb⟩))
   go_wp2
   go_ret
   exact ⟨v',rfl,ho,hb⟩
--END
end
end Go.Proofs.YtdgbgmffpcooeaaGreat
