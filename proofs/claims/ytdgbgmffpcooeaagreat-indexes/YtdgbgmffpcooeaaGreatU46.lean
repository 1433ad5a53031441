/- Xb4 Xd1 Xs1 -/
import Derived.Test.YtdgbgmffpcooeaaGreatU45
namespace Go.Proofs.YtdgbgmffpcooeaaGreat
open Go.RowKit
section
set_option maxRecDepth 100000 in
set_option maxHeartbeats 4000000 in
theorem still_any (w : World) (base B n came : Nat) (ki yi iv inn : Value) (E : List (Value × Int)) (K : List Int) (OB : Nat → Prop) (hb : BookI w base B n came ki yi iv inn E K OB) (hEl : E.length ≤ 1073741824) :
  Calls Tryz.prog 14 #[.pointer (some ⟨B, 0,none⟩)] w fun e w' => e = .returned (.bool true) ∧ Below w.heap.size w w' := by
 have hBlt := hb.bk.blk.lt
 have HCELL : ∀ W',Below w.heap.size w W' → W'.cell? ⟨B, 2,none⟩ = some (.bool false) ∧ W'.cell? ⟨B, 3,none⟩ = some (.slice none 0 0) ∧ W'.cell? ⟨B, 4,none⟩ = some (.slice none 0 0) ∧ W'.cell? ⟨B, 5,none⟩ = some ki ∧ W'.cell? ⟨B, 6,none⟩ = some yi ∧ W'.cell? ⟨B, 7,none⟩ = some (.slice none 0 0) ∧ W'.cell? ⟨B, 9,none⟩ = some iv ∧ W'.cell? ⟨B, 10,none⟩ = some inn := fun W' h => by
  have hb2 := (hb.below h).bk.blk
  exact ⟨hb2.cell 2,hb2.cell 3,hb2.cell 4,hb2.cell 5,hb2.cell 6,hb2.cell 7,hb2.cell 9,hb2.cell 10⟩
 obtain ⟨b2,b3,b4,b5,b6,b7,b9,b10⟩ := HCELL w (Below.refl _ _)
 go_enter Tryz.func14,Tryz.ntmps14
 go_wp2
 go_region_held3 (fun W' => W'.cell? ⟨B, 3,none⟩ = some (.slice none 0 0) ∧ W'.cell? ⟨B, 4,none⟩ = some (.slice none 0 0))
  (first
   | exact ⟨(HCELL _ ((Below.refl _ w).drew.trans hb2')).2.1,(HCELL _ ((Below.refl _ w).drew.trans hb2')).2.2.1⟩
   | go_keep)
  ((go_at_call 41; refine (sameC_nil _).mono ?_; rintro e w1 ⟨rfl,hb2'⟩))
 have hB1 : Below w.heap.size w w1 := (Below.refl _ w).drew.trans hb2'
 have hs1 := hB1.size
 clear b2 b3 b4 b5 b6 b7 b9 b10 hb2'
 obtain ⟨b2,b3,b4,b5,b6,b7,b9,b10⟩ := HCELL w1 hB1
 have hk1 := own_below hb.kept hB1
 have hy1 := own_below hb.were hB1
 have hcon := sameI_any K ki yi base base w1.drew hk1.drew hy1.drew
 clear hk1 hy1
 go_wp2
 go_region_held3 (fun W' => W'.cell? ⟨B, 5,none⟩ = some ki ∧ W'.cell? ⟨B, 6,none⟩ = some yi)
  (first
   | exact ⟨(HCELL _ (hB1.drew.trans (hb2'.mono hs1))).2.2.2.1,(HCELL _ (hB1.drew.trans (hb2'.mono hs1))).2.2.2.2.1⟩
   | go_keep)
  ((go_at_call 42; refine hcon.mono ?_; rintro e w2 ⟨rfl,hb2'⟩))
 have hB2 : Below w.heap.size w w2 := hB1.drew.trans (hb2'.mono hs1)
 clear b2 b3 b4 b5 b6 b7 b9 b10 hb2' hB1 hs1 hcon
 obtain ⟨b2,b3,b4,b5,b6,b7,b9,b10⟩ := HCELL w2 hB2
 have hs2 := hB2.size
 have HBK : Hid (BookI w base B n came ki yi iv inn E K OB) := hb
 obtain ⟨aC,capC,hcv,_,_,_⟩ := own_shape hb.bk.rowI
 obtain ⟨aN,capN,hcn,_,_,_⟩ := own_shape hb.bk.rowN
 subst hcv
 subst hcn
 clear hb
 go_wp2
 go_loopw [5] (fun x ws => x = .int .i64 0 ∧ ws = w2) (fun _ _ => 0)
 case atStart => exact ⟨rfl,rfl⟩
 case round =>
  obtain ⟨rfl,rfl⟩ := hrel
  go_wp2
  go_loopw [7] (fun x wr => ∃ i : Nat,x = .int .i64 (i : Int) ∧ i ≤ E.length ∧ Below w.heap.size w wr) (fun x _ => E.length - (intOf x).toNat)
  case atStart => exact ⟨0,rfl,by omega,hB2⟩
  case round =>
   obtain ⟨i,rfl,hi,hB⟩ := hrel
   clear b2 b3 b4 b5 b6 b7 b9 b10 hB2 hs2
   obtain ⟨b2,b3,b4,b5,b6,b7,b9,b10⟩ := HCELL wr hB
   have hs := hB.size
   by_cases hlt : i < E.length
   ·have hlt' : (i : Int) < (E.length : Int) := by omega
    obtain ⟨gC,c1,e1,_,hgC⟩ := HBK.out.bk.rowI.form (by omega)
    obtain ⟨gN,c2,e2,_,hgN⟩ := HBK.out.bk.rowN.form (by omega)
    cases e1
    cases e2
    go_wp2
    go_loopw [8] (fun x ws => ∃ k : Nat,x = .int .i64 (k : Int) ∧ k ≤ 2000 ∧ Below w.heap.size w ws) (fun x _ => 2000 - (intOf x).toNat)
    case atStart => exact ⟨0,rfl,by omega,hB⟩
    case round =>
     obtain ⟨k,rfl,hk,hBs⟩ := hrel
     clear b2 b3 b4 b5 b6 b7 b9 b10 hB
     obtain ⟨b2,b3,b4,b5,b6,b7,b9,b10⟩ := HCELL wr hBs
     have hss := hBs.size
     obtain ⟨e,he⟩ : ∃ e,E[i] = e := ⟨_,rfl⟩
     have aC := (own_cell (own_below HBK.out.bk.rowI hBs) i (by omega)).1
     have aN := (own_cell (own_below HBK.out.bk.rowN hBs) i (by omega)).1
     rw [List.getElem?_map,List.getElem?_eq_getElem hlt,he] at aC aN
     have aC' : wr.cell? ⟨gC,i,none⟩ = some e.1 := aC
     have aN' : wr.cell? ⟨gN,i,none⟩ = some (.int .i64 e.2) := aN
     have hent := HBK.out.bk.ent e (by rw [← he]; exact List.getElem_mem hlt)
     have hgCw : gC < wr.heap.size := by omega
     have hgNw : gN < wr.heap.size := by omega
     clear aC aN he
     obtain ⟨ev, μ⟩ := e
     simp only at aC' aN' hent
     rcases hent with hnil | ⟨g,len,cap,cur,q1,q2,q3,q4⟩
     ·simp only at hnil
      subst hnil
      go_wp2
      go_roundw
      case rel => exact ⟨i + 1,by go_num,by omega,hBs⟩
      case measure => simp [intOf]; omega
     ·simp only at q1 q4
      subst q1
      have hgw : g < w.heap.size := (Array.getElem?_eq_some_iff.1 q2).1
      have hq : wr.heap[g]? = some (.cells cur 3 (0, 0)) := (hBs.block g hgw).trans q2
      have hgw2 : g < wr.heap.size := by omega
      by_cases hkl : k < len
      ·have hkl' : (k : Int) < (len : Int) := by omega
       have m0 : wr.cell? ⟨g,k,none⟩ = some (.int .i64 μ) := by
        rw [cell_of_row wr g k cur 3 (0, 0) hq]; have := q4 k hkl; simpa using this
       clear q2 q4 hq
       go_wp2
       go_quiet (fail)
       go_wp2
       go_roundw
       case rel => exact ⟨k + 1,by go_num,by omega,below_drewN hBs _⟩
       case measure => simp [intOf]; omega
      ·have hkl' : decide ((k : Int) < (len : Int)) = false := by simp; omega
       have hkl2 : decide (k < len) = false := by simp; omega
       clear q2 q4 hq
       go_wp2
       go_roundw
       case rel => exact ⟨i + 1,by go_num,by omega,hBs⟩
       case measure => simp [intOf]; omega
   ·have hlt' : decide ((i : Int) < (E.length : Int)) = false := by simp; omega
    have hlt2 : decide (i < E.length) = false := by simp; omega
    go_wp2
    go_ret
    exact ⟨rfl,hB⟩
end
end Go.Proofs.YtdgbgmffpcooeaaGreat
namespace Go.Proofs.YtdgbgmffpcooeaaGreat
open Go.RowKit Go.Lib
section
theorem eq34 (a b c d a' b' c' d' : Int) (w : World) : (Op.equalIn 10000 34 (.agg #[.int .i64 a, .int .i64 b, .int .i64 c, .int .i64 d]) (.agg #[.int .i64 a', .int .i64 b', .int .i64 c', .int .i64 d'])).run Tryz.prog w = .ok (decide ((a,b,c,d) = (a',b',c',d'))) w := by
 have u3 := Tryz.underlying3
 have a3 := Tryz.isAgg3
 have z3 := Tryz.sizeOf3
 rw [show (10000 : Nat) = 9999 + 1 from rfl,Op.equalIn]
 simp only [Sem.run_bind,run_underlying Tryz.underlying34,Result.andThen_ok]
 go_simp
 by_cases h1 : a = a' <;> by_cases h2 : b = b' <;> by_cases h3 : c = c' <;> by_cases h4 : d = d' <;> simp [h1,h2,h3,h4]
def opC (kd wd ad : Int) (sd : ByteArray) (ak : Option Addr) (lk ck : Nat) (r1 r2 r3 r4 : Int) : Array Value := #[.int .i64 kd, .int .i64 wd, .int .i64 ad, .string sd, .slice ak lk ck, .int .i64 r1, .int .i64 r2, .int .i64 r3, .int .i64 r4]
structure Mild (w w' : World) : Prop where
 size : w.heap.size ≤ w'.heap.size
 block : ∀ (k : Nat) (cs : Array Value) (t : TypeId),w.heap[k]? = some (.cells cs t (0, 0)) → (t = 31 ∨ t = 46 ∨ t = 34) → w'.heap[k]? = some (.cells cs t (0, 0))
theorem Mild.blk {w w' : World} (h : Mild w w') {k t : Nat} {vs : Array Value} (hb : Blk w k t vs) (ht : t = 31 ∨ t = 46 ∨ t = 34) : Blk w' k t vs := h.block k vs t hb ht
theorem Mild.below {w w' : World} (h : Below w.heap.size w w') : Mild w w' := ⟨h.size,fun k _ _ hk _ => (h.block k (Array.getElem?_eq_some_iff.1 hk).1).trans hk⟩
theorem Mild.calm {N : Nat → Prop} {w w' : World} (h : CalmW N w w') : Mild w w' := ⟨h.size,fun k cs t hk ht => h.block k cs t (0, 0) hk (by rcases ht with rfl | rfl | rfl <;> (unfold own5; omega))⟩
theorem Mild.trans {a b c : World} (h : Mild a b) (k : Mild b c) : Mild a c := ⟨Nat.le_trans h.size k.size,fun i cs t hi ht => k.block i cs t (h.block i cs t hi ht) ht⟩
set_option maxRecDepth 100000 in
set_option maxHeartbeats 4000000 in
theorem does_del (w : World) (t B : Nat) (dv xv wv : Value) (rm : Int) (ht : Blk w t 31 #[dv,xv,wv, .int .i64 rm]) (wd ad : Int) (sd : ByteArray) (ak : Option Addr) (lk ck : Nat) (r1 r2 r3 r4 : Int) (M : Int → World → Prop) (R : World → Prop)
  (h1 : ∀ W,Below w.heap.size w W → Calls Tryz.prog 35 #[xv, .int .i64 ad] W fun e w1 => ∃ er : Int,e = .returned (.int .i64 er) ∧ Mild W w1 ∧ M er w1)
  (h2 : ∀ er w1 W,M er w1 → Below w1.heap.size w1 W → Calls Tryz.prog 36 #[wv, .int .i64 ad] W fun e w2 => e = .returned (.int .i64 er) ∧ Mild W w2 ∧ R w2) :
  Calls Tryz.prog 13 #[.pointer (some ⟨t, 0,none⟩), .pointer (some ⟨B, 0,none⟩), .agg (opC 15 wd ad sd ak lk ck r1 r2 r3 r4)] w fun e w' => e = .returned (.bool true) ∧ R w' := by
 unfold opC
 obtain ⟨W0,hW0⟩ : ∃ W0,w.alloc (.cells #[.int .i64 15, .int .i64 wd, .int .i64 ad, .string sd, .slice ak lk ck, .int .i64 r1, .int .i64 r2, .int .i64 r3, .int .i64 r4] 46) = W0 := ⟨_,rfl⟩
 have hb0 : Below w.heap.size w W0 := by rw [← hW0]; exact (Below.refl _ w).alloc (Nat.le_refl _) _
 have B0 : Blk W0 w.heap.size 46 #[.int .i64 15, .int .i64 wd, .int .i64 ad, .string sd, .slice ak lk ck, .int .i64 r1, .int .i64 r2, .int .i64 r3, .int .i64 r4] := by rw [← hW0]; exact Blk.new w 46 _
 have T0 : Blk W0 t 31 #[dv,xv,wv, .int .i64 rm] := (hb0.block t ht.lt).trans ht
 have HW0 : Hid (w.alloc (.cells #[.int .i64 15, .int .i64 wd, .int .i64 ad, .string sd, .slice ak lk ck, .int .i64 r1, .int .i64 r2, .int .i64 r3, .int .i64 r4] 46) = W0) := hW0
 have hc := h1 W0.drew hb0.drew
 have HC2 : Hid (∀ er w1,M er w1 → Calls Tryz.prog 36 #[wv, .int .i64 ad] w1.drew fun e w2 => e = .returned (.int .i64 er) ∧ Mild w1.drew w2 ∧ R w2) := fun er w1 hm => h2 er w1 _ hm (Below.refl _ w1).drew
 have q0 : W0.cell? ⟨w.heap.size, 0,none⟩ = some (.int .i64 15) := B0.cell 0
 have HK : Hid (∀ W',Mild W0 W' → W'.cell? ⟨w.heap.size, 2,none⟩ = some (.int .i64 ad) ∧ W'.cell? ⟨t, 1,none⟩ = some xv ∧ W'.cell? ⟨t, 2,none⟩ = some wv ∧ w.heap.size < W'.heap.size ∧ t < W'.heap.size) := fun W' hM => by
  have b := hM.blk B0 (.inr (.inl rfl))
  have c := hM.blk T0 (.inl rfl)
  exact ⟨b.cell 2,c.cell 1,c.cell 2,b.lt,c.lt⟩
 obtain ⟨c2,t1,t2,hl0,hl1⟩ := HK.out W0 (Mild.below (Below.refl _ _))
 clear hW0 ht h1 h2 B0 T0 hb0
 go_enter Tryz.func13,Tryz.ntmps13
 go_upto_region 3 with fail
 rw [HW0.out]
 go_upto_region 21 with fail
 go_region_held3 (fun W' => W'.cell? ⟨w.heap.size, 2,none⟩ = some (.int .i64 ad) ∧ W'.cell? ⟨t, 1,none⟩ = some xv)
  (first
   | exact ⟨c2,t1⟩
   | exact ⟨(HK.out _ ((Mild.below ((Below.refl _ W0).drew)).trans hM1)).1,(HK.out _ ((Mild.below ((Below.refl _ W0).drew)).trans hM1)).2.1⟩
   | go_keep)
  ((go_at_call 35; refine hc.mono ?_; rintro e w1 ⟨er,rfl,hM1,hm⟩))
 have hM01 : Mild W0 w1 := (Mild.below ((Below.refl _ W0).drew)).trans hM1
 have hc2 := HC2.out er w1 hm
 clear q0 c2 t1 t2 hl0 hl1 hM1
 obtain ⟨c2,t1,t2,hl0,hl1⟩ := HK.out w1 hM01
 clear hc
 go_upto_region 22 with fail
 go_region_held3 (fun W' => W'.cell? ⟨w.heap.size, 2,none⟩ = some (.int .i64 ad) ∧ W'.cell? ⟨t, 2,none⟩ = some wv)
  (first
   | exact ⟨c2,t2⟩
   | exact ⟨(HK.out _ ((hM01.trans (Mild.below ((Below.refl _ w1).drew))).trans hM2)).1,(HK.out _ ((hM01.trans (Mild.below ((Below.refl _ w1).drew))).trans hM2)).2.2.1⟩
   | go_keep)
  ((go_at_call 36; refine hc2.mono ?_; rintro e w2 ⟨rfl,hM2,hR⟩))
 go_wp2
 go_ret
 exact ⟨by simp,hR⟩
set_option maxRecDepth 100000 in
set_option maxHeartbeats 4000000 in
theorem does_count (w : World) (t B : Nat) (dv xv wv : Value) (rm : Int) (ht : Blk w t 31 #[dv,xv,wv, .int .i64 rm]) (wd ad : Int) (sd : ByteArray) (ak : Option Addr) (lk ck : Nat) (r1 r2 r3 r4 : Int) (n er : Int) (M R : World → Prop)
  (h1 : ∀ W,Below w.heap.size w W → Calls Tryz.prog 38 #[xv] W fun e w1 => e = .returned (.tuple #[.int .i64 n, .int .i64 er]) ∧ Mild W w1 ∧ M w1)
  (h2 : ∀ w1,M w1 → Calls Tryz.prog 32 #[wv] w1 fun e w2 => e = .returned (.tuple #[.int .i64 n, .int .i64 er]) ∧ R w2) :
  Calls Tryz.prog 13 #[.pointer (some ⟨t, 0,none⟩), .pointer (some ⟨B, 0,none⟩), .agg (opC 18 wd ad sd ak lk ck r1 r2 r3 r4)] w fun e w' => e = .returned (.bool true) ∧ R w' := by
 unfold opC
 obtain ⟨W0,hW0⟩ : ∃ W0,w.alloc (.cells #[.int .i64 18, .int .i64 wd, .int .i64 ad, .string sd, .slice ak lk ck, .int .i64 r1, .int .i64 r2, .int .i64 r3, .int .i64 r4] 46) = W0 := ⟨_,rfl⟩
 have hb0 : Below w.heap.size w W0 := by rw [← hW0]; exact (Below.refl _ w).alloc (Nat.le_refl _) _
 have B0 : Blk W0 w.heap.size 46 #[.int .i64 18, .int .i64 wd, .int .i64 ad, .string sd, .slice ak lk ck, .int .i64 r1, .int .i64 r2, .int .i64 r3, .int .i64 r4] := by rw [← hW0]; exact Blk.new w 46 _
 have T0 : Blk W0 t 31 #[dv,xv,wv, .int .i64 rm] := (hb0.block t ht.lt).trans ht
 have HW0 : Hid (w.alloc (.cells #[.int .i64 18, .int .i64 wd, .int .i64 ad, .string sd, .slice ak lk ck, .int .i64 r1, .int .i64 r2, .int .i64 r3, .int .i64 r4] 46) = W0) := hW0
 have HB0 : Hid (Below w.heap.size w W0) := hb0
 have q0 : W0.cell? ⟨w.heap.size, 0,none⟩ = some (.int .i64 18) := B0.cell 0
 have HK : Hid (∀ W',Mild W0 W' → (W'.cell? ⟨w.heap.size, 2,none⟩ = some (.int .i64 ad) ∧ W'.cell? ⟨w.heap.size, 5,none⟩ = some (.int .i64 r1) ∧ W'.cell? ⟨w.heap.size, 6,none⟩ = some (.int .i64 r2) ∧ W'.cell? ⟨w.heap.size, 7,none⟩ = some (.int .i64 r3) ∧ W'.cell? ⟨w.heap.size, 8,none⟩ = some (.int .i64 r4)) ∧ (W'.cell? ⟨t, 0,none⟩ = some dv ∧ W'.cell? ⟨t, 1,none⟩ = some xv ∧ W'.cell? ⟨t, 2,none⟩ = some wv ∧ W'.cell? ⟨t, 3,none⟩ = some (.int .i64 rm)) ∧ w.heap.size < W'.heap.size ∧ t < W'.heap.size) := fun W' hM => by
  have b := hM.blk B0 (.inr (.inl rfl))
  have c := hM.blk T0 (.inl rfl)
  exact ⟨⟨b.cell 2,b.cell 5,b.cell 6,b.cell 7,b.cell 8⟩,⟨c.cell 0,c.cell 1,c.cell 2,c.cell 3⟩,b.lt,c.lt⟩
 obtain ⟨⟨c2,c5,c6,c7,c8⟩,⟨t0,t1,t2,t3⟩,hl0,hl1⟩ := HK.out W0 (Mild.below (Below.refl _ _))
 have hc := h1 W0 hb0
 have HC2 : Hid (∀ w1,M w1 → Calls Tryz.prog 32 #[wv] w1 fun e w2 => e = .returned (.tuple #[.int .i64 n, .int .i64 er]) ∧ R w2) := h2
 clear hW0 ht h1 h2 B0 T0 hb0
 go_enter Tryz.func13,Tryz.ntmps13
 go_upto_region 3 with fail
 rw [HW0.out]
 go_wp2_with (first
  | (go_at_call 38; refine hc.mono ?_; rintro e w1 ⟨rfl,hM1,hm⟩; obtain ⟨_,⟨_,_,u2,_⟩,_,ul⟩ := HK.out w1 hM1; have hc2 := HC2.out w1 hm)
  | (go_at_call 32; refine hc2.mono ?_; rintro e w2 ⟨rfl,hR⟩))
 go_ret
 exact ⟨by simp,hR⟩
set_option maxRecDepth 100000 in
set_option maxHeartbeats 4000000 in
theorem does_open_nil (w : World) (t B : Nat) (dv xv wv : Value) (rm : Int) (ht : Blk w t 31 #[dv,xv,wv, .int .i64 rm]) (wd ad : Int) (sd : ByteArray) (ak : Option Addr) (lk ck : Nat) (r1 r2 r3 r4 : Int) (hw : wv = .pointer none) (R : World → Prop)
  (h1 : ∀ W,Below w.heap.size w W → Calls Tryz.prog 21 #[dv] W fun e w1 => e = .returned (.tuple #[.pointer none, .int .i64 1]) ∧ Mild W w1 ∧ R w1) :
  Calls Tryz.prog 13 #[.pointer (some ⟨t, 0,none⟩), .pointer (some ⟨B, 0,none⟩), .agg (opC 19 wd ad sd ak lk ck r1 r2 r3 r4)] w fun e w' => e = .returned (.bool true) ∧ R w' := by
 unfold opC
 obtain ⟨W0,hW0⟩ : ∃ W0,w.alloc (.cells #[.int .i64 19, .int .i64 wd, .int .i64 ad, .string sd, .slice ak lk ck, .int .i64 r1, .int .i64 r2, .int .i64 r3, .int .i64 r4] 46) = W0 := ⟨_,rfl⟩
 have hb0 : Below w.heap.size w W0 := by rw [← hW0]; exact (Below.refl _ w).alloc (Nat.le_refl _) _
 have B0 : Blk W0 w.heap.size 46 #[.int .i64 19, .int .i64 wd, .int .i64 ad, .string sd, .slice ak lk ck, .int .i64 r1, .int .i64 r2, .int .i64 r3, .int .i64 r4] := by rw [← hW0]; exact Blk.new w 46 _
 have T0 : Blk W0 t 31 #[dv,xv,wv, .int .i64 rm] := (hb0.block t ht.lt).trans ht
 have HW0 : Hid (w.alloc (.cells #[.int .i64 19, .int .i64 wd, .int .i64 ad, .string sd, .slice ak lk ck, .int .i64 r1, .int .i64 r2, .int .i64 r3, .int .i64 r4] 46) = W0) := hW0
 have HB0 : Hid (Below w.heap.size w W0) := hb0
 have q0 : W0.cell? ⟨w.heap.size, 0,none⟩ = some (.int .i64 19) := B0.cell 0
 have HK : Hid (∀ W',Mild W0 W' → (W'.cell? ⟨w.heap.size, 2,none⟩ = some (.int .i64 ad) ∧ W'.cell? ⟨w.heap.size, 5,none⟩ = some (.int .i64 r1) ∧ W'.cell? ⟨w.heap.size, 6,none⟩ = some (.int .i64 r2) ∧ W'.cell? ⟨w.heap.size, 7,none⟩ = some (.int .i64 r3) ∧ W'.cell? ⟨w.heap.size, 8,none⟩ = some (.int .i64 r4)) ∧ (W'.cell? ⟨t, 0,none⟩ = some dv ∧ W'.cell? ⟨t, 1,none⟩ = some xv ∧ W'.cell? ⟨t, 2,none⟩ = some wv ∧ W'.cell? ⟨t, 3,none⟩ = some (.int .i64 rm)) ∧ w.heap.size < W'.heap.size ∧ t < W'.heap.size) := fun W' hM => by
  have b := hM.blk B0 (.inr (.inl rfl))
  have c := hM.blk T0 (.inl rfl)
  exact ⟨⟨b.cell 2,b.cell 5,b.cell 6,b.cell 7,b.cell 8⟩,⟨c.cell 0,c.cell 1,c.cell 2,c.cell 3⟩,b.lt,c.lt⟩
 obtain ⟨⟨c2,c5,c6,c7,c8⟩,⟨t0,t1,t2,t3⟩,hl0,hl1⟩ := HK.out W0 (Mild.below (Below.refl _ _))
 subst hw
 have hc := h1 W0 hb0
 clear hW0 ht h1 B0 T0 hb0
 go_enter Tryz.func13,Tryz.ntmps13
 go_upto_region 3 with fail
 rw [HW0.out]
 go_wp2_with (go_at_call 21; refine hc.mono ?_; rintro e w1 ⟨rfl,hM1,hR⟩; obtain ⟨_,⟨_,_,u2,_⟩,_,ul⟩ := HK.out w1 hM1)
 go_ret
 exact ⟨by simp,hR⟩
set_option maxRecDepth 100000 in
set_option maxHeartbeats 4000000 in
theorem does_open (w : World) (t B : Nat) (dv xv wv : Value) (rm : Int) (ht : Blk w t 31 #[dv,xv,wv, .int .i64 rm]) (wd ad : Int) (sd : ByteArray) (ak : Option Addr) (lk ck : Nat) (r1 r2 r3 r4 : Int) (ra : Addr) (hw : wv = .pointer (some ra)) (Q : Nat → World → Prop) (R : World → Prop)
  (h1 : ∀ W,Below w.heap.size w W → Calls Tryz.prog 21 #[dv] W fun e w1 => ∃ X,e = .returned (.tuple #[.pointer (some ⟨X, 0,none⟩), .int .i64 0]) ∧ Mild W w1 ∧ Q X w1)
  (hR : ∀ X w1,Q X w1 → Blk w1 t 31 #[dv,xv,wv, .int .i64 rm] → R (w1.setCell ⟨t, 1,none⟩ (.pointer (some ⟨X, 0,none⟩)))) :
  Calls Tryz.prog 13 #[.pointer (some ⟨t, 0,none⟩), .pointer (some ⟨B, 0,none⟩), .agg (opC 19 wd ad sd ak lk ck r1 r2 r3 r4)] w fun e w' => e = .returned (.bool true) ∧ R w' := by
 unfold opC
 obtain ⟨W0,hW0⟩ : ∃ W0,w.alloc (.cells #[.int .i64 19, .int .i64 wd, .int .i64 ad, .string sd, .slice ak lk ck, .int .i64 r1, .int .i64 r2, .int .i64 r3, .int .i64 r4] 46) = W0 := ⟨_,rfl⟩
 have hb0 : Below w.heap.size w W0 := by rw [← hW0]; exact (Below.refl _ w).alloc (Nat.le_refl _) _
 have B0 : Blk W0 w.heap.size 46 #[.int .i64 19, .int .i64 wd, .int .i64 ad, .string sd, .slice ak lk ck, .int .i64 r1, .int .i64 r2, .int .i64 r3, .int .i64 r4] := by rw [← hW0]; exact Blk.new w 46 _
 have T0 : Blk W0 t 31 #[dv,xv,wv, .int .i64 rm] := (hb0.block t ht.lt).trans ht
 have HW0 : Hid (w.alloc (.cells #[.int .i64 19, .int .i64 wd, .int .i64 ad, .string sd, .slice ak lk ck, .int .i64 r1, .int .i64 r2, .int .i64 r3, .int .i64 r4] 46) = W0) := hW0
 have HB0 : Hid (Below w.heap.size w W0) := hb0
 have q0 : W0.cell? ⟨w.heap.size, 0,none⟩ = some (.int .i64 19) := B0.cell 0
 have HK : Hid (∀ W',Mild W0 W' → (W'.cell? ⟨w.heap.size, 2,none⟩ = some (.int .i64 ad) ∧ W'.cell? ⟨w.heap.size, 5,none⟩ = some (.int .i64 r1) ∧ W'.cell? ⟨w.heap.size, 6,none⟩ = some (.int .i64 r2) ∧ W'.cell? ⟨w.heap.size, 7,none⟩ = some (.int .i64 r3) ∧ W'.cell? ⟨w.heap.size, 8,none⟩ = some (.int .i64 r4)) ∧ (W'.cell? ⟨t, 0,none⟩ = some dv ∧ W'.cell? ⟨t, 1,none⟩ = some xv ∧ W'.cell? ⟨t, 2,none⟩ = some wv ∧ W'.cell? ⟨t, 3,none⟩ = some (.int .i64 rm)) ∧ w.heap.size < W'.heap.size ∧ t < W'.heap.size) := fun W' hM => by
  have b := hM.blk B0 (.inr (.inl rfl))
  have c := hM.blk T0 (.inl rfl)
  exact ⟨⟨b.cell 2,b.cell 5,b.cell 6,b.cell 7,b.cell 8⟩,⟨c.cell 0,c.cell 1,c.cell 2,c.cell 3⟩,b.lt,c.lt⟩
 obtain ⟨⟨c2,c5,c6,c7,c8⟩,⟨t0,t1,t2,t3⟩,hl0,hl1⟩ := HK.out W0 (Mild.below (Below.refl _ _))
 subst hw
 have hc := h1 W0 hb0
 have HT : Hid (∀ W',Mild W0 W' → Blk W' t 31 #[dv,xv, .pointer (some ra), .int .i64 rm]) := fun W' hM => hM.blk T0 (.inl rfl)
 clear hW0 ht h1 B0 T0 hb0
 go_enter Tryz.func13,Tryz.ntmps13
 go_upto_region 3 with fail
 rw [HW0.out]
 go_wp2_with (go_at_call 21; refine hc.mono ?_; rintro e w1 ⟨X,rfl,hM1,hQ⟩; obtain ⟨_,⟨_,u1,u2,_⟩,_,ul⟩ := HK.out w1 hM1; have uf : w1.frozen? ⟨t, 1,none⟩ = false := (HT.out w1 hM1).frozen 1)
 go_ret
 exact ⟨by simp,hR X w1 hQ (HT.out w1 hM1)⟩
end
section
theorem LiveV.keep {w w' : World} {H F : Nat → Prop} {p X n : Nat} {f : Value} {tb : List (Int × Box)} (h : LiveV w (NF w F) p X n f tb) (ho : Off H w w') (hF : ∀ k,F k → ¬ H k) (hX : ¬ H X) (hf : ∀ g,f.ownBlock = some g → ¬ H g) : LiveV w' (NF w' F) p X n f tb := by
 obtain ⟨A, σ,x,t,fr,root,es,us,a1,a2,a3,a4,a5,a6,a7,a8,a9,a10⟩ := h
 have nA : ∀ k,A.F k → F k := fun k hk => Classical.byContradiction fun g => a7 k hk ⟨(a4.pd.lt k hk).2,g⟩
 have nt : F t := Classical.byContradiction fun g => a8 ⟨a4.tr.lt,g⟩
 have nx : F x := Classical.byContradiction fun g => a9 ⟨a4.ix.lt,g⟩
 exact ⟨A, σ,x,t,fr,root,es,us,a1,a2,a3.off ho hX,⟨a4.pd.off ho (fun k hk => hF k (nA k hk)),a4.tr.off ho (hF t nt),own_offv a4.row ho hf,a4.ix.off ho (hF x nx)⟩,a5,a6,fun k hk hn => hn.2 (nA k hk),fun hn => hn.2 nt,fun hn => hn.2 nx,fun k hk => hk.1⟩
theorem LiveV.own {w : World} {N : Nat → Prop} {p X n : Nat} {f : Value} {tb : List (Int × Box)} (h : LiveV w N p X n f tb) : ∃ F,LiveV w (NF w F) p X n f tb ∧ Fown w F ∧ ∀ k,F k → ¬ N k := by
 obtain ⟨A, σ,x,t,fr,root,es,us,h1,h2,h3,h4,h5,h6,h7,h8,h9,h10⟩ := h
 refine ⟨fun k => A.F k ∨ k = t ∨ k = x,⟨A, σ,x,t,fr,root,es,us,h1,h2,h3,h4,h5,h6,fun k hk hn => hn.2 (.inl hk),fun hn => hn.2 (.inr (.inl rfl)),fun hn => hn.2 (.inr (.inr rfl)),fun k hk => hk.1⟩,⟨fun k hk => ?_,h4.tags⟩,fun k hk => ?_⟩
 ·rcases hk with hk | rfl | rfl
  ·exact (h4.pd.lt k hk).2
  ·exact h4.tr.lt
  ·exact h4.ix.lt
 ·rcases hk with hk | rfl | rfl
  ·exact h7 k hk
  ·exact h8
  ·exact h9
theorem LiveV.tag {w : World} {N : Nat → Prop} {p X n : Nat} {f : Value} {tb : List (Int × Box)} (h : LiveV w N p X n f tb) : (∃ x,Blk w X 91 #[.pointer (some ⟨x, 0,none⟩)]) ∧ ∀ g,f.ownBlock = some g → ∃ cs,w.heap[g]? = some (.cells cs 3 (0, 0)) := by
 obtain ⟨A, σ,x,t,fr,root,es,us,h1,h2,h3,h4,_⟩ := h
 exact ⟨⟨x,h3⟩,fun g hg => (own_tagged h4.row hg).2⟩
theorem LiveV.upT {w : World} {N : Nat → Prop} {p X n : Nat} {f : Value} {tb : List (Int × Box)} (h : LiveV w N p X n f tb) : Ups tb ∧ 256 ≤ n ∧ n ≤ 4096 ∧ tb.length ≤ 1000000 ∧ ∀ t ∈ tb,t.2.ok ∧ 0 ≤ t.1 ∧ t.1 ≤ 4611686018427387904 := by
 obtain ⟨σ,hx⟩ := h.x
 exact hx.up
abbrev ixC (p X R : Nat) (n : Nat) : Array Value := #[.pointer (some ⟨p, 0,none⟩), .pointer (some ⟨X, 0,none⟩), .pointer (some ⟨R, 0,none⟩), .int .i64 (((n - 200) / 4 : Nat) : Int)]
structure LiveI (W : World) (base t p X n R : Nat) (f sv : Value) (tb : List (Int × Box)) (F : Nat → Prop) : Prop where
 blk : Blk W t 31 (ixC p X R n)
 live : LiveV W (NF W F) p X n f tb
 own : Fown W F
 ref : RefX W base R sv tb
 room : tb.length ≤ (n - 200) / 4
structure GI (G : Nat → Prop) (t X R : Nat) (f sv : Value) (F : Nat → Prop) : Prop where
 t : G t
 X : G X
 R : G R
 F : ∀ k,F k → G k
 f : ∀ g,f.ownBlock = some g → G g
 s : ∀ g,sv.ownBlock = some g → G g
def IxOk (W : World) (base t : Nat) (G : Nat → Prop) : Prop :=
 G t ∧ (∀ k,G k → base ≤ k ∧ k < W.heap.size) ∧ (∀ k cs,G k → W.heap[k]? ≠ some (.cells cs 34 (0, 0))) ∧ (Blk W t 31 #[.pointer none, .pointer none, .pointer none, .int .i64 0] ∨ ∃ p X n R f sv tb F,LiveI W base t p X n R f sv tb F ∧ GI G t X R f sv F)
theorem IxOk.off {W W' : World} {base t : Nat} {G H : Nat → Prop} (h : IxOk W base t G) (ho : Off H W W') (hd : ∀ k,G k → ¬ H k) : IxOk W' base t G := by
 obtain ⟨h1,h2,h3,h4⟩ := h
 have hk : ∀ k,G k → W'.heap[k]? = W.heap[k]? := fun k hk => ho.block k (h2 k hk).2 (hd k hk)
 refine ⟨h1,fun k hk => ⟨(h2 k hk).1,Nat.lt_of_lt_of_le (h2 k hk).2 ho.size⟩,fun k cs g => by rw [hk k g]; exact h3 k cs g, ?_⟩
 rcases h4 with h4 | ⟨p,X,n,R,f,sv,tb,F,hl,hg⟩
 ·exact .inl (h4.off ho (hd t h1))
 ·exact .inr ⟨p,X,n,R,f,sv,tb,F,⟨hl.blk.off ho (hd t h1),hl.live.keep ho (fun k hk => hd k (hg.F k hk)) (hd X hg.X) (fun g h => hd g (hg.f g h)),hl.own.keep ho (fun k hk => hd k (hg.F k hk)),hl.ref.off ho (hd R hg.R) (fun g h => hd g (hg.s g h)),hl.room⟩,hg⟩
theorem IxOk.below {W W' : World} {base t : Nat} {G : Nat → Prop} (h : IxOk W base t G) (hb : Below W.heap.size W W') : IxOk W' base t G := h.off (H := fun _ => False) (Off.of_below hb) (fun _ _ h => h)
def Bks (W : World) (base B m : Nat) (OB : Nat → Prop) : Prop := ∃ n came ki yi iv inn E K,BookI W base B n came ki yi iv inn E K OB ∧ n ≤ 2 * m ∧ E.length ≤ 8 * m ∧ came ≤ m
theorem Bks.off {W W' : World} {base B m : Nat} {OB H : Nat → Prop} (h : Bks W base B m OB) (ho : Off H W W') (hd : ∀ k,OB k → ¬ H k) : Bks W' base B m OB := by
 obtain ⟨n,came,ki,yi,iv,inn,E,K,h1,h2⟩ := h
 exact ⟨n,came,ki,yi,iv,inn,E,K,h1.off ho hd,h2⟩
theorem Bks.below {W W' : World} {base B m : Nat} {OB : Nat → Prop} (h : Bks W base B m OB) (hb : Below W.heap.size W W') : Bks W' base B m OB := h.off (H := fun _ => False) (Off.of_below hb) (fun _ _ h => h)
theorem Bks.lt {W : World} {base B m : Nat} {OB : Nat → Prop} (h : Bks W base B m OB) : ∀ k,OB k → base ≤ k ∧ k < W.heap.size := by
 obtain ⟨n,came,ki,yi,iv,inn,E,K,h1,h2⟩ := h
 exact h1.oL
theorem Bks.more {W : World} {base B m m' : Nat} {OB : Nat → Prop} (h : Bks W base B m OB) (hm : m ≤ m') : Bks W base B m' OB := by
 obtain ⟨n,came,ki,yi,iv,inn,E,K,h1,h2,h3,h4⟩ := h
 exact ⟨n,came,ki,yi,iv,inn,E,K,h1,by omega,by omega,by omega⟩
def DoesP (w : World) (base B m t : Nat) (G OB : Nat → Prop) (w' : World) : Prop :=
 ∃ G' OB',IxOk w' base t G' ∧ Bks w' base B (m + 1) OB' ∧ (∀ k,G' k → ¬ OB' k) ∧ Off (fun k => G k ∨ OB k) w w' ∧ (∀ k,G' k → G k ∨ w.heap.size ≤ k) ∧ (∀ k,OB' k → OB k ∨ w.heap.size ≤ k)
theorem does_ix {w w' : World} {base B m t : Nat} {G G' OB : Nat → Prop} (hb : Bks w base B m OB) (hd : ∀ k,G k → ¬ OB k) (hI : IxOk w' base t G') (ho : Off G w w') (hG : ∀ k,G' k → G k ∨ w.heap.size ≤ k) : DoesP w base B m t G OB w' :=
 ⟨G',OB,hI,(hb.off ho (fun k hk hg => hd k hg hk)).more (by omega),fun k hk ho' => (hG k hk).elim (fun h => hd k h ho') (fun h => by have := (hb.lt k ho').2; omega),ho.mono (fun k _ h => .inl h),hG,fun _ hk => .inl hk⟩
theorem does_none {w w' : World} {base B m t : Nat} {G OB : Nat → Prop} (hb : Bks w base B m OB) (hd : ∀ k,G k → ¬ OB k) (hI : IxOk w base t G) (h : Below w.heap.size w w') : DoesP w base B m t G OB w' :=
 does_ix hb hd (hI.below h) (Off.of_below h) (fun _ hk => .inl hk)
theorem calm_off {w W w1 : World} {F : Nat → Prop} (hb : Below w.heap.size w W) (hc : CalmW (NF w F) W w1) : Off F w w1 :=
 ⟨hc.os.trans hb.os,hc.tape.trans hb.tape,hc.output.trans hb.output,Nat.le_trans hb.size hc.size,fun k hk hf => (hc.low k ⟨hk,hf⟩ (Nat.lt_of_lt_of_le hk hb.size)).trans (hb.block k hk)⟩
structure MidS (w : World) (base t : Nat) (G : Nat → Prop) (p X n R : Nat) (f' sv : Value) (tb tb' : List (Int × Box)) (w1 : World) : Prop where
 blk : Blk w1 t 31 (ixC p X R n)
 live : ∃ F',LiveV w1 (NF w1 F') p X n f' tb' ∧ Fown w1 F' ∧ (∀ k,F' k → G k ∨ w.heap.size ≤ k) ∧ ∀ g,f'.ownBlock = some g → G g ∨ w.heap.size ≤ g
 ref : RefX w1 base R sv tb
 off : Off G w w1
section
variable {w W w1 w2 W1 : World} {base t p X n R : Nat} {f f' sv : Value} {tb tb' : List (Int × Box)} {F G : Nat → Prop}
theorem mid (hI : LiveI w base t p X n R f sv tb F) (hg : GI G t X R f sv F) (hb : Below w.heap.size w W) (hc : CalmW (NF w F) W w1) (hl : LiveV w1 (NF w F) p X n f' tb') (hf : f' = f ∨ FreshV W f') : MidS w base t G p X n R f' sv tb tb' w1 := by
 obtain ⟨F',h1,h2,h3⟩ := hl.own
 have hr := hI.ref.below hb
 refine ⟨hc.blk ((hb.block t hI.blk.lt).trans hI.blk) (by unfold own5; omega),⟨F',h1,h2,fun k hk => ?_,fun g hg' => ?_⟩,⟨hc.blk hr.blk (by unfold own5; omega),hc.row hr.row (by unfold own5; omega)⟩,(calm_off hb hc).mono (fun k _ hk => hg.F k hk)⟩
 ·rcases old_new (h3 k hk) with h | h
  ·exact .inl (hg.F k h)
  ·exact .inr h
 ·rcases hf with rfl | hf
  ·exact .inl (hg.f g hg')
  ·exact .inr (Nat.le_trans hb.size (hf g hg'))
theorem MidS.below (h : MidS w base t G p X n R f' sv tb tb' w1) (hb : Below w1.heap.size w1 W1) : MidS w base t G p X n R f' sv tb tb' W1 := by
 obtain ⟨F',h1,h2,h3,h4⟩ := h.live
 have ho : Off (fun _ => False) w1 W1 := Off.of_below hb
 exact ⟨(hb.block t h.blk.lt).trans h.blk,⟨F',h1.keep ho (fun _ _ h => h) (fun h => h) (fun _ _ h => h),h2.keep ho (fun _ _ h => h),h3,h4⟩,h.ref.below hb,h.off.trans (Off.of_below hb)⟩
theorem MidS.mild (h : MidS w base t G p X n R f' sv tb tb' w1) (hr : RefP w1 w2 base R sv tb') : Mild w1 w2 := by
 refine ⟨hr.off.size,fun k cs ty hk ht => (hr.off.block k (Array.getElem?_eq_some_iff.1 hk).1 (fun hf => ?_)).trans hk⟩
 rcases hf with rfl | hf
 ·have := h.ref.blk
  rw [show w1.heap[k]? = _ from this] at hk
  rcases ht with rfl | rfl | rfl <;> simp at hk
 ·obtain ⟨_,cs',hc⟩ := own_tagged h.ref.row hf
  rw [hc] at hk
  rcases ht with rfl | rfl | rfl <;> simp at hk
theorem MidS.fin (h : MidS w base t G p X n R f' sv tb tb' w1) (hr : RefP w1 w2 base R sv tb') (hroom : tb'.length ≤ (n - 200) / 4) (hG : G t ∧ (G X ∨ w.heap.size ≤ X) ∧ G R ∧ ∀ g,sv.ownBlock = some g → G g) (hbs : ∀ k,G k → base ≤ k) (hbw : base ≤ w.heap.size) :
  ∃ G',IxOk w2 base t G' ∧ Off G w w2 ∧ (∀ k,G' k → G k ∨ w.heap.size ≤ k) ∧ ∀ k cs,G' k → w2.heap[k]? = some (.cells cs 3 (0, 0)) → f'.ownBlock = some k := by
 obtain ⟨F',h1,h2,h3,h4⟩ := h.live
 obtain ⟨⟨sv',r1,r2⟩,ro⟩ := hr
 obtain ⟨⟨x,hX⟩,hft⟩ := h1.tag
 have hRt : w1.heap[R]? = some (.cells #[sv] 88 (0, 0)) := h.ref.blk
 have hsT : ∀ g,sv.ownBlock = some g → ∃ cs,w1.heap[g]? = some (.cells cs 128 (0, 0)) := fun g hg => (own_tagged h.ref.row hg).2
 have nF : ∀ k,F' k → ¬ (k = R ∨ sv.ownBlock = some k) := fun k hk hh => by
  rcases hh with rfl | hh
  ·have := h2.2 k _ _ _ hk hRt; revert this; unfold own5; omega
  ·obtain ⟨cs,hc⟩ := hsT k hh
   have := h2.2 k _ _ _ hk hc; revert this; unfold own5; omega
 have nX : ¬ (X = R ∨ sv.ownBlock = some X) := fun hh => by
  rcases hh with hh | hh
  ·rw [hh] at hX; rw [show w1.heap[R]? = _ from hX] at hRt; simp at hRt
  ·obtain ⟨cs,hc⟩ := hsT X hh; rw [show w1.heap[X]? = _ from hX] at hc; simp at hc
 have nf : ∀ g,f'.ownBlock = some g → ¬ (g = R ∨ sv.ownBlock = some g) := fun g hg hh => by
  obtain ⟨cs,hc⟩ := hft g hg
  rcases hh with hh | hh
  ·rw [hh,hRt] at hc; simp at hc
  ·obtain ⟨cs',hc'⟩ := hsT g hh; rw [hc] at hc'; simp at hc'
 have nt : ¬ (t = R ∨ sv.ownBlock = some t) := fun hh => by
  have hb := h.blk
  rcases hh with hh | hh
  ·rw [hh] at hb; rw [show w1.heap[R]? = _ from hb] at hRt; simp at hRt
  ·obtain ⟨cs,hc⟩ := hsT t hh; rw [show w1.heap[t]? = _ from hb] at hc; simp at hc
 have l2 := h1.keep ro nF nX nf
 have f2 := h2.keep ro nF
 have b2 := h.blk.off ro nt
 obtain ⟨⟨x2,hX2⟩,hft2⟩ := l2.tag
 have hw1 := h.off.size
 have hsub : ∀ k,(k = t ∨ k = X ∨ k = R ∨ F' k ∨ f'.ownBlock = some k ∨ sv'.ownBlock = some k) → G k ∨ w.heap.size ≤ k := fun k hk => by
  rcases hk with rfl | rfl | rfl | hk | hk | hk
  ·exact .inl hG.1
  ·exact hG.2.1
  ·exact .inl hG.2.2.1
  ·exact h3 k hk
  ·exact h4 k hk
  ·rcases r2 k hk with hh | hh
   ·exact .inl (hG.2.2.2 k hh)
   ·exact .inr (by omega)
 refine ⟨fun k => k = t ∨ k = X ∨ k = R ∨ F' k ∨ f'.ownBlock = some k ∨ sv'.ownBlock = some k,⟨.inl rfl,fun k hk => ⟨?_, ?_⟩,fun k cs hk hc => ?_, .inr ⟨p,X,n,R,f',sv',tb',F',⟨b2,l2,f2,r1,hroom⟩,⟨.inl rfl, .inr (.inl rfl), .inr (.inr (.inl rfl)),fun k hk => .inr (.inr (.inr (.inl hk))),fun k hk => .inr (.inr (.inr (.inr (.inl hk)))),fun k hk => .inr (.inr (.inr (.inr (.inr hk))))⟩⟩⟩,h.off.step ro (fun k _ hk => ?_),hsub,fun k cs hk hc => ?_⟩
 ·rcases hsub k hk with hh | hh
  ·exact hbs k hh
  ·omega
 ·rcases hk with rfl | rfl | rfl | hk | hk | hk
  ·exact b2.lt
  ·exact hX2.lt
  ·exact r1.blk.lt
  ·exact f2.1 k hk
  ·exact l2.lt k hk
  ·exact own_lt2 r1.row hk
 ·rcases hk with rfl | rfl | rfl | hk | hk | hk
  ·rw [show w2.heap[k]? = _ from b2] at hc; simp at hc
  ·rw [show w2.heap[k]? = _ from hX2] at hc; simp at hc
  ·rw [show w2.heap[k]? = _ from r1.blk] at hc; simp at hc
  ·have := f2.2 k _ _ _ hk hc; revert this; unfold own5; omega
  ·obtain ⟨cs',hc'⟩ := hft2 k hk; rw [hc] at hc'; simp at hc'
  ·obtain ⟨_,cs',hc'⟩ := own_tagged r1.row hk; rw [hc] at hc'; simp at hc'
 ·rcases hk with rfl | hk
  ·exact hG.2.2.1
  ·exact hG.2.2.2 k hk
 ·rcases hk with rfl | rfl | rfl | hk | hk | hk
  ·rw [show w2.heap[k]? = _ from b2] at hc; simp at hc
  ·rw [show w2.heap[k]? = _ from hX2] at hc; simp at hc
  ·rw [show w2.heap[k]? = _ from r1.blk] at hc; simp at hc
  ·have := f2.2 k _ _ _ hk hc; revert this; unfold own5; omega
  ·exact hk
  ·obtain ⟨_,cs',hc'⟩ := own_tagged r1.row hk; rw [hc] at hc'; simp at hc'
theorem MidS.new (h : MidS w base t G p X n R f' sv tb tb' w1) {b T : Nat} {vs : Array Value} (hb : Blk w1 b T vs) (hT : ¬ own5 T ∧ T ≠ 31 ∧ T ≠ 91 ∧ T ≠ 88 ∧ T ≠ 128 ∧ T ≠ 3) (hw : w.heap.size ≤ b) (ho : Off (fun k => k = b) w1 W1) : MidS w base t G p X n R f' sv tb tb' W1 := by
 obtain ⟨F',h1,h2,h3,h4⟩ := h.live
 obtain ⟨⟨x,hX⟩,hft⟩ := h1.tag
 obtain ⟨t1,t2,t3,t4,t5,t6⟩ := hT
 have hb' : w1.heap[b]? = _ := hb
 refine ⟨h.blk.off ho (fun e => blk_ne h.blk hb (Ne.symm t2) e),⟨F',h1.keep ho (fun k hk e => ?_) (fun e => blk_ne hX hb (Ne.symm t3) e) (fun g hg e => ?_),h2.keep ho (fun k hk e => ?_),h3,h4⟩,h.ref.off ho (fun e => blk_ne h.ref.blk hb (Ne.symm t4) e) (fun g hg e => own_ne h.ref.row hb t5 g hg e),h.off.step ho (fun k hk e => by omega)⟩
 ·subst e; exact t1 (h2.2 k _ _ _ hk hb')
 ·obtain ⟨cs,hc⟩ := hft g hg
  rw [show g = b from e,hb'] at hc
  simp at hc
  exact t6 hc.2
 ·subst e; exact t1 (h2.2 k _ _ _ hk hb')
end
end
end Go.Proofs.YtdgbgmffpcooeaaGreat
