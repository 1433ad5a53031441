/- Nm6 -/
import Derived.Test.YtdgbgmffpcooeaaGreatV46
namespace Go.Proofs.YtdgbgmffpcooeaaGreat
open Go.RowKit Go.Lib
section
theorem eq34 (a b c d a' b' c' d' : Int) (w : World) : (Op.equalIn 10000 34 (.agg #[.int .i64 a, .int .i64 b, .int .i64 c, .int .i64 d]) (.agg #[.int .i64 a', .int .i64 b', .int .i64 c', .int .i64 d'])).run Tryz.prog w = .ok (decide ((a,b,c,d) = (a',b',c',d'))) w := by
 have u3 := Tryz.underlying3
 have a3 := Tryz.isAgg3
 have z3 := Tryz.sizeOf3
 rw [show (10000 : Nat) = 9999 + 1 from rfl,Op.equalIn]
 simp only [Sem.run_bind,run_underlying Tryz.underlying34,Result.andThen_ok]
 go_simp
 by_cases h1 : a = a' <;> by_cases h2 : b = b' <;> by_cases h3 : c = c' <;> by_cases h4 : d = d' <;> simp [h1,h2,h3,h4]
theorem CalmW.new {d : Nat → Prop} {a b c : World} {B : Nat} (h : CalmW d a b) (ho : Off (fun k => k = B) b c) (hB : a.heap.size ≤ B) : CalmW d a c :=
 ⟨ho.os.trans h.os,ho.tape.trans h.tape,ho.output.trans h.output,Nat.le_trans h.size ho.size,fun k cs t fr e n => (ho.block k (Array.getElem?_eq_some_iff.1 (h.block k cs t fr e n)).1 (by have := (Array.getElem?_eq_some_iff.1 e).1; omega)).trans (h.block k cs t fr e n),fun k h1 h2 => (ho.block k (Nat.lt_of_lt_of_le h2 h.size) (by omega)).trans (h.low k h1 h2)⟩
def AlikeP (tb tm : List (Int × Box)) (e : Ending) : Prop := ∃ r : Bool,e = .returned (.bool r) ∧ (r = true ↔ tb = tm)
set_option maxRecDepth 100000 in
set_option maxHeartbeats 4000000 in
theorem alike_gen (w : World) (N : Nat → Prop) (G p X n : Nat) (σ : PS) (sv : Value) (room : Int) (tb : List (Int × Box)) (hGw : Blk w G 62 (gameC p X sv room)) (hLw : LiveX w N p X n σ tb) (mv : Value) (tm : List (Int × Box)) (hm : TabV w 0 mv tm) :
  Calls Tryz.prog 17 #[.pointer (some ⟨G, 0,none⟩), .agg #[mv]] w fun e w' => AlikeP tb tm e ∧ CalmW N w w' ∧ ∃ σ',LiveX w' N p X n σ' tb := by
 obtain ⟨ma,mc,rfl,_,_,_⟩ := own_shape hm
 obtain ⟨W0,hW0⟩ : ∃ W0,w.alloc (.cells #[.slice ma tm.length mc] 60) = W0 := ⟨_,rfl⟩
 have hb0 : Below w.heap.size w W0 := by rw [← hW0]; exact (Below.refl _ w).alloc (Nat.le_refl _) _
 have B0 : Blk W0 w.heap.size 60 #[.slice ma tm.length mc] := by rw [← hW0]; exact Blk.new w 60 _
 have hG : Blk W0 G 62 (gameC p X sv room) := (hb0.block G hGw.lt).trans hGw
 have hL := hLw.below hb0
 have hM0 := own_below hm hb0
 have HW0 : Hid (w.alloc (.cells #[.slice ma tm.length mc] 60) = W0) := hW0
 have hup := hL.up
 have hlen := hup.2.2.2.1
 have HUP : Hid (Ups tb ∧ ∀ t ∈ tb,t.2.ok ∧ 0 ≤ t.1 ∧ t.1 ≤ 4611686018427387904) := ⟨hup.1,hup.2.2.2.2⟩
 have hc := live_win hL (r := ⟨0, 0, 65535, 65535⟩) ⟨by simp,by simp,by simp,by simp⟩
 rw [winL_all (fun t ht => (HUP.out.2 t ht).1)] at hc
 simp only [boxC,List.length_map] at hc
 have qX : W0.cell? ⟨G, 1,none⟩ = some (.pointer (some ⟨X, 0,none⟩)) := hG.cell 1
 have HG0 : Hid (Blk W0 G 62 (gameC p X sv room)) := hG
 have HB0 : Hid (Blk W0 w.heap.size 60 #[.slice ma tm.length mc]) := B0
 have HM0 : Hid (TabV W0 0 (.slice ma tm.length mc) tm) := hM0
 have HC0 : Hid (CalmW N w W0) := CalmW.below hb0
 clear hW0 hGw hLw hG B0 hb0 hL hup hm hM0
 go_enter Tryz.func17,Tryz.ntmps17
 go_upto_region 1 with fail
 rw [HW0.out]
 go_upto_region 2 with (go_at_call 11; refine hc.mono ?_; rintro e w1 ⟨lv,rfl,hrow1,hC1, σ1,hL1,_⟩; obtain ⟨la,lc,rfl,_,_,_⟩ := own_shape hrow1)
 have hcnt := live_count hL1
 have g1 := hC1.blk HG0.out (by unfold own5; omega)
 have qX1 : w1.cell? ⟨G, 1,none⟩ = some (.pointer (some ⟨X, 0,none⟩)) := g1.cell 1
 have HC1 : Hid (CalmW N W0 w1) := hC1
 have HR1 : Hid (w1.ownsRow W0.heap.size 3 1 (.slice la tb.length lc) tb.length (intsV (tb.map (·.1)))) := hrow1
 clear hc qX hL1 hrow1 hC1 g1
 go_upto_region 3 with (go_at_call 38; refine hcnt.mono ?_; rintro e w2 ⟨rfl,hC2, σ2,hL2⟩)
 have HC2 : Hid (CalmW N W0 w2) := HC1.out.trans hC2
 have HL2 : Hid (LiveX w2 N p X n σ2 tb) := hL2
 have b2 := HC2.out.blk HB0.out (by unfold own5; omega)
 have cM : w2.cell? ⟨w.heap.size, 0,none⟩ = some (.slice ma tm.length mc) := b2.cell 0
 have HR2 : Hid (w2.ownsRow W0.heap.size 3 1 (.slice la tb.length lc) tb.length (intsV (tb.map (·.1)))) := hC2.row HR1.out (by unfold own5; omega)
 clear hcnt qX1 hC2 hL2 HC1 HR1 b2
 by_cases hll : tb.length = tm.length
 rotate_left
 ·have hq1 : ((tb.length : Int) != (tm.length : Int)) = true := by simp; omega
  have HNE : Hid (¬ tb = tm) := fun h => hll (congrArg List.length h)
  have hll' : ¬ (tb.length : Int) = (tm.length : Int) := by omega
  go_wp2
  go_ret
  exact ⟨⟨false,rfl,by simp [HNE.out]⟩,HC0.out.trans HC2.out, σ2,HL2.out⟩
 have HLL : Hid (tb.length = tm.length) := hll
 rw [← hll] at cM
 have hq1 : ((tb.length : Int) != (tm.length : Int)) = false := by simp; omega
 clear hll
 go_wp2
 go_loopw [9] (fun x wr => ∃ (i : Nat) (σ' : PS),x = .int .i64 (i : Int) ∧ i ≤ tb.length ∧ tb.take i = tm.take i ∧ CalmW N W0 wr ∧ LiveX wr N p X n σ' tb ∧ wr.ownsRow W0.heap.size 3 1 (.slice la tb.length lc) tb.length (intsV (tb.map (·.1)))) (fun x _ => tb.length - (intOf x).toNat)
 case atStart => exact ⟨0, σ2,rfl,Nat.zero_le _,rfl,HC2.out,HL2.out,HR2.out⟩
 case round =>
  obtain ⟨i, σ',rfl,hi,htk,hC,hL,hR⟩ := hrel
  have HTK : Hid (tb.take i = tm.take i) := htk
  have HC : Hid (CalmW N W0 wr) := hC
  have HL : Hid (LiveX wr N p X n σ' tb) := hL
  have HR : Hid (wr.ownsRow W0.heap.size 3 1 (.slice la tb.length lc) tb.length (intsV (tb.map (·.1)))) := hR
  clear cM HC2 HL2 HR2 htk
  by_cases hlt : i < tb.length
  ·have hlt' : (i : Int) < (tb.length : Int) := by omega
   obtain ⟨x,hx⟩ : ∃ x,tb[i]? = some x := ⟨_,List.getElem?_eq_getElem hlt⟩
   have hxm := List.mem_of_getElem? hx
   obtain ⟨y,hy⟩ : ∃ y,tm[i]? = some y := ⟨_,List.getElem?_eq_getElem (by have := HLL.out; omega)⟩
   have HY : Hid (tm[i]? = some y) := hy
   clear hy
   have hget := live_get (hL.below ((Below.refl _ wr).drew)) (id := x.1) (HUP.out.2 x hxm).2
   have htg : tget x.1 tb = some x.2 := (tget_some HUP.out.1).2 hxm
   rw [htg] at hget
   simp only [foundR] at hget
   have hmap : (tb.map (·.1))[i]? = some x.1 := by rw [List.getElem?_map,hx]; rfl
   have hRl : wr.ownsRow W0.heap.size 3 1 (.slice la (tb.map (·.1)).length lc) (tb.map (·.1)).length (intsV (tb.map (·.1))) := by rw [List.length_map]; exact hR
   have hla : ∃ g,la = some ⟨g, 0,none⟩ := by
    obtain ⟨_,⟨e,hn⟩ | ⟨g,cap,cur,e,_⟩⟩ := hR
    ·omega
    ·cases e; exact ⟨g,rfl⟩
   obtain ⟨lg,rfl⟩ := hla
   have z0 : wr.cell? ⟨lg,i,none⟩ = some (.int .i64 x.1) := own_int hRl hmap
   have hma : ∃ g,ma = some ⟨g, 0,none⟩ := by
    obtain ⟨_,⟨e,hn⟩ | ⟨g,cap,cur,e,_⟩⟩ := HM0.out
    ·have := HLL.out; omega
    ·cases e; exact ⟨g,rfl⟩
   obtain ⟨mg,rfl⟩ := hma
   have g1 := hC.blk HG0.out (by unfold own5; omega)
   have qX : wr.cell? ⟨G, 1,none⟩ = some (.pointer (some ⟨X, 0,none⟩)) := g1.cell 1
   have HX : Hid (tb[i]? = some x) := hx
   have HRL : Hid (wr.ownsRow W0.heap.size 3 1 (.slice (some ⟨lg, 0,none⟩) (tb.map (·.1)).length lc) (tb.map (·.1)).length (intsV (tb.map (·.1)))) := hRl
   have HMAP : Hid ((tb.map (·.1))[i]? = some x.1) := hmap
   have HTG : Hid (tget x.1 tb = some x.2) := htg
   have HID : Hid (0 ≤ x.1 ∧ x.1 ≤ 4611686018427387904) := (HUP.out.2 x hxm).2
   clear hC hL hR hRl hmap hx hxm htg g1
   go_upto_region 8 with fail
   have hmx : Tryz.prog.follows .mixedOrders = true := by kernel_rfl
   have hba : Below wr.heap.size wr ((wr.alloc (.cells #[.int .i64 0, .int .i64 0, .int .i64 0, .int .i64 0] 34)).drew) := ((Below.refl _ wr).alloc (Nat.le_refl _) _).drew
   have hget2 := live_get (HL.out.below hba) (id := x.1) HID.out
   rw [HTG.out] at hget2
   simp only [foundR] at hget2
   have hBa : Blk ((wr.alloc (.cells #[.int .i64 0, .int .i64 0, .int .i64 0, .int .i64 0] 34)).drew) wr.heap.size 34 #[.int .i64 0, .int .i64 0, .int .i64 0, .int .i64 0] := (Blk.new wr 34 _).drew
   have qXl : G < wr.heap.size := Blk.lt (HC.out.blk HG0.out (by unfold own5; omega))
   have z0l : lg < wr.heap.size := (own_lt HRL.out).2
   have HKs : Hid (∀ W',CalmW N wr W' → W'.cell? ⟨G, 1,none⟩ = some (.pointer (some ⟨X, 0,none⟩)) ∧ W'.cell? ⟨lg,i,none⟩ = some (.int .i64 x.1)) := fun W' hc => ⟨Blk.cell ((HC.out.trans hc).blk HG0.out (by unfold own5; omega)) 1,own_int (hc.row HRL.out (by unfold own5; omega)) HMAP.out⟩
   go_cut [10, 11] (fun s10 s11 wx => ∃ B σ3,s10 = .pointer (some ⟨B, 0,none⟩) ∧ s11 = .int .i64 0 ∧ Blk wx B 34 (boxC x.2) ∧ CalmW N wr wx ∧ LiveX wx N p X n σ3 tb)
   case first =>
    go_region_held3 (fun W' => W'.cell? ⟨G, 1,none⟩ = some (.pointer (some ⟨X, 0,none⟩)) ∧ W'.cell? ⟨lg,i,none⟩ = some (.int .i64 x.1))
     (first
      | exact ⟨qX,z0⟩
      | exact HKs.out _ hC3'
      | exact HKs.out _ (CalmW.below ((Below.refl _ wr).alloc (Nat.le_refl _) _))
      | exact HKs.out _ (hC3'.trans (CalmW.below ((Below.refl _ w3).alloc (Nat.le_refl _) _)))
      | exact HKs.out _ (hC3'.new (B := wr.heap.size) (((((Off.refl (fun k => k = wr.heap.size) _).setCell _ (.inl rfl)).setCell _ (.inl rfl)).setCell _ (.inl rfl)).setCell _ (.inl rfl)) (Nat.le_refl _))
      | go_keep)
     (first
      | (go_at_call 37; refine hget.mono ?_; rintro e w3 ⟨rfl,hC3, σ3,hL3,hA3⟩; have hC3' : CalmW N wr w3 := (CalmW.below ((Below.refl _ wr).drew)).trans hC3)
      | (go_at_call 37; refine hget2.mono ?_; rintro e w3 ⟨rfl,hC3, σ3,hL3,hA3⟩; have hC3' : CalmW N wr w3 := (CalmW.below hba).trans hC3; have k3 := hC3.blk hBa (by unfold own5; omega); have e0 : w3.cell? ⟨wr.heap.size, 0,none⟩ = some (.int .i64 0) := k3.cell 0; have e1 : w3.cell? ⟨wr.heap.size, 1,none⟩ = some (.int .i64 0) := k3.cell 1; have e2 : w3.cell? ⟨wr.heap.size, 2,none⟩ = some (.int .i64 0) := k3.cell 2; have e3 : w3.cell? ⟨wr.heap.size, 3,none⟩ = some (.int .i64 0) := k3.cell 3; have f0 : w3.frozen? ⟨wr.heap.size, 0,none⟩ = false := k3.frozen 0; have f1 : w3.frozen? ⟨wr.heap.size, 1,none⟩ = false := k3.frozen 1; have f2 : w3.frozen? ⟨wr.heap.size, 2,none⟩ = false := k3.frozen 2; have f3 : w3.frozen? ⟨wr.heap.size, 3,none⟩ = false := k3.frozen 3))
    ·go_wp2
     go_meet
     have hb4 : Below w3.heap.size w3 (w3.alloc (.cells #[.int .i64 (x.2.a : Int), .int .i64 (x.2.b : Int), .int .i64 (x.2.c : Int), .int .i64 (x.2.d : Int)] 34)) := (Below.refl _ w3).alloc (Nat.le_refl _) _
     exact ⟨w3.heap.size, σ3,rfl,rfl,Blk.new w3 34 _,hC3'.trans (CalmW.below hb4),hL3.below hb4⟩
    ·go_wp2
     go_meet
     obtain ⟨qb,qo⟩ := put4 k3 (.int .i64 (x.2.a : Int)) (.int .i64 (x.2.b : Int)) (.int .i64 (x.2.c : Int)) (.int .i64 (x.2.d : Int))
     exact ⟨wr.heap.size, σ3,rfl,rfl,qb,hC3'.new qo (Nat.le_refl _),hL3.off k3 (by unfold own5; omega) (by decide) (by decide) qo⟩
   case rest =>
    obtain ⟨B, σ3,rfl,rfl,B4,hC4,hL4⟩ := hcut
    obtain ⟨W4,rfl⟩ : ∃ W4,W4 = wc := ⟨_,rfl⟩
    have hC04 := HC.out.trans hC4
    have b4 := hC04.blk HB0.out (by unfold own5; omega)
    have m4 := hC04.row HM0.out (by unfold own5; omega)
    have l4 := hC4.row HRL.out (by unfold own5; omega)
    have cM : W4.cell? ⟨w.heap.size, 0,none⟩ = some (.slice (some ⟨mg, 0,none⟩) tb.length mc) := (b4.cell 0).trans (by rw [HLL.out]; rfl)
    have z4 : W4.cell? ⟨lg,i,none⟩ = some (.int .i64 x.1) := own_int l4 HMAP.out
    have z := own_cellM m4 HY.out
    have y0 : W4.cell? ⟨mg,i * 5,none⟩ = some (.int .i64 y.1) := z 0 _ rfl
    have y1 : W4.cell? ⟨mg,i * 5 + 1,none⟩ = some (.int .i64 (y.2.a : Int)) := z 1 _ rfl
    have y2 : W4.cell? ⟨mg,i * 5 + 2,none⟩ = some (.int .i64 (y.2.b : Int)) := z 2 _ rfl
    have y3 : W4.cell? ⟨mg,i * 5 + 3,none⟩ = some (.int .i64 (y.2.c : Int)) := z 3 _ rfl
    have y4 : W4.cell? ⟨mg,i * 5 + 4,none⟩ = some (.int .i64 (y.2.d : Int)) := z 4 _ rfl
    have t0 : W4.cell? ⟨B, 0,none⟩ = some (.int .i64 (x.2.a : Int)) := B4.cell 0
    have t1 : W4.cell? ⟨B, 1,none⟩ = some (.int .i64 (x.2.b : Int)) := B4.cell 1
    have t2 : W4.cell? ⟨B, 2,none⟩ = some (.int .i64 (x.2.c : Int)) := B4.cell 2
    have t3 : W4.cell? ⟨B, 3,none⟩ = some (.int .i64 (x.2.d : Int)) := B4.cell 3
    have heq := eq34 (x.2.a : Int) (x.2.b : Int) (x.2.c : Int) (x.2.d : Int) (y.2.a : Int) (y.2.b : Int) (y.2.c : Int) (y.2.d : Int)
    have HL4 : Hid (LiveX W4 N p X n σ3 tb) := hL4
    have HC4 : Hid (CalmW N W0 W4) := hC04
    have HR4 : Hid (W4.ownsRow W0.heap.size 3 1 (.slice (some ⟨lg, 0,none⟩) tb.length lc) tb.length (intsV (tb.map (·.1)))) := hC4.row HR.out (by unfold own5; omega)
    clear B4 hC4 hC04 b4 m4 l4 z hL4 hget hget2 z0 qX hba hBa
    by_cases hxy : x.1 = y.1
    rotate_left
    ·have hq2 : (x.1 != y.1) = true := by simp [hxy]
     have HNE : Hid (¬ tb = tm) := fun h => hxy (by have := HX.out; rw [h,HY.out] at this; cases this; rfl)
     clear hxy
     go_upto_region 9 with fail
     go_quiet (fail)
     go_wp2
     go_ret
     exact ⟨⟨false,rfl,by simp [HNE.out]⟩,(HC0.out.trans HC4.out).trans (CalmW.below (below_drewN W4 nq _)), σ3,HL4.out.below (below_drewN W4 nq _)⟩
    have HXY : Hid (x.1 = y.1) := hxy
    have hq2 : (x.1 != y.1) = false := by simp [hxy]
    clear hxy
    by_cases hbx : ((x.2.a : Int),(x.2.b : Int),(x.2.c : Int),(x.2.d : Int)) = ((y.2.a : Int),(y.2.b : Int),(y.2.c : Int),(y.2.d : Int))
    rotate_left
    ·rw [decide_eq_false hbx] at heq
     have HNE : Hid (¬ tb = tm) := fun h => hbx (by have := HX.out; rw [h,HY.out] at this; cases this; rfl)
     clear hbx
     go_upto_region 9 with fail
     go_quiet (fail)
     go_wp2
     go_ret
     exact ⟨⟨false,rfl,by simp [HNE.out]⟩,(HC0.out.trans HC4.out).trans (CalmW.below (below_drewN W4 nq _)), σ3,HL4.out.below (below_drewN W4 nq _)⟩
    rw [decide_eq_true hbx] at heq
    have HE : Hid (tb.take (i + 1) = tm.take (i + 1)) := by
     have h1 := HXY.out
     simp only [Prod.mk.injEq,Int.ofNat_inj] at hbx
     have : x = y := by
      obtain ⟨x1,xa,xb,xc,xd⟩ := x
      obtain ⟨y1,ya,yb,yc,yd⟩ := y
      simp only at hbx h1
      obtain ⟨rfl,rfl,rfl,rfl⟩ := hbx
      subst h1
      rfl
     show tb.take (i + 1) = tm.take (i + 1)
     rw [take_get HX.out,take_get HY.out,HTK.out,this]
    clear hbx
    go_upto_region 9 with fail
    go_quiet (fail)
    go_wp2
    exact ⟨⟨i + 1, σ3,by go_num,by omega,HE.out,HC4.out.trans (CalmW.below (below_drewN W4 nq _)),HL4.out.below (below_drewN W4 nq _),own_below HR4.out (below_drewN W4 nq _)⟩,by simp [intOf]; omega⟩
  ·have hlt' : ¬ (i : Int) < (tb.length : Int) := by omega
   clear hC hL hR
   go_wp2
   have HEQ : Hid (tb = tm) := by
    have h1 := HTK.out
    have h2 := HLL.out
    rw [List.take_of_length_le (by omega),List.take_of_length_le (by omega)] at h1
    exact h1
   go_ret
   exact ⟨⟨true,rfl,by simp [HEQ.out]⟩,HC0.out.trans HC.out, σ',HL.out⟩
end
end Go.Proofs.YtdgbgmffpcooeaaGreat
