/- Xd4 -/
import Derived.Test.YtdgbgmffpcooeaaGreatU48
namespace Go.Proofs.YtdgbgmffpcooeaaGreat
open Go.RowKit Go.Lib
section
def PutGo (wv : Value) (n rm ge : Int) : Prop := wv = .pointer none ∨ ∃ ra,wv = .pointer (some ra) ∧ (n < rm ∨ ge ≠ 9)
set_option maxRecDepth 100000 in
set_option maxHeartbeats 4000000 in
theorem does_put_skip (w : World) (t B : Nat) (dv xv wv : Value) (rm : Int) (ht : Blk w t 31 #[dv,xv,wv, .int .i64 rm]) (wd ad : Int) (sd : ByteArray) (ak : Option Addr) (lk ck : Nat) (r1 r2 r3 r4 : Int) (ra : Addr) (hw : wv = .pointer (some ra)) (n ne : Int) (gv : Box) (ge : Int) (hfull : rm ≤ n) (hge : ge = 9) (R : World → Prop)
  (h0 : ∀ W,Below w.heap.size w W → Calls Tryz.prog 32 #[wv] W fun e w1 => e = .returned (.tuple #[.int .i64 n, .int .i64 ne]) ∧ Below W.heap.size W w1)
  (hg : ∀ W,Below w.heap.size w W → Calls Tryz.prog 33 #[wv, .int .i64 ad] W fun e w1 => e = .returned (.tuple #[.agg (boxC gv), .int .i64 ge]) ∧ Below W.heap.size W w1)
  (hR : ∀ W,Below w.heap.size w W → R W) :
  Calls Tryz.prog 13 #[.pointer (some ⟨t, 0,none⟩), .pointer (some ⟨B, 0,none⟩), .agg (opC 14 wd ad sd ak lk ck r1 r2 r3 r4)] w fun e w' => e = .returned (.bool true) ∧ R w' := by
 unfold opC
 obtain ⟨W0,hW0⟩ : ∃ W0,w.alloc (.cells #[.int .i64 14, .int .i64 wd, .int .i64 ad, .string sd, .slice ak lk ck, .int .i64 r1, .int .i64 r2, .int .i64 r3, .int .i64 r4] 46) = W0 := ⟨_,rfl⟩
 have hb0 : Below w.heap.size w W0 := by rw [← hW0]; exact (Below.refl _ w).alloc (Nat.le_refl _) _
 have B0 : Blk W0 w.heap.size 46 #[.int .i64 14, .int .i64 wd, .int .i64 ad, .string sd, .slice ak lk ck, .int .i64 r1, .int .i64 r2, .int .i64 r3, .int .i64 r4] := by rw [← hW0]; exact Blk.new w 46 _
 have T0 : Blk W0 t 31 #[dv,xv,wv, .int .i64 rm] := (hb0.block t ht.lt).trans ht
 have HW0 : Hid (w.alloc (.cells #[.int .i64 14, .int .i64 wd, .int .i64 ad, .string sd, .slice ak lk ck, .int .i64 r1, .int .i64 r2, .int .i64 r3, .int .i64 r4] 46) = W0) := hW0
 have HB0 : Hid (Below w.heap.size w W0) := hb0
 have q0 : W0.cell? ⟨w.heap.size, 0,none⟩ = some (.int .i64 14) := B0.cell 0
 have HK : Hid (∀ W',Mild W0 W' → (W'.cell? ⟨w.heap.size, 2,none⟩ = some (.int .i64 ad) ∧ W'.cell? ⟨w.heap.size, 5,none⟩ = some (.int .i64 r1) ∧ W'.cell? ⟨w.heap.size, 6,none⟩ = some (.int .i64 r2) ∧ W'.cell? ⟨w.heap.size, 7,none⟩ = some (.int .i64 r3) ∧ W'.cell? ⟨w.heap.size, 8,none⟩ = some (.int .i64 r4)) ∧ (W'.cell? ⟨t, 0,none⟩ = some dv ∧ W'.cell? ⟨t, 1,none⟩ = some xv ∧ W'.cell? ⟨t, 2,none⟩ = some wv ∧ W'.cell? ⟨t, 3,none⟩ = some (.int .i64 rm)) ∧ w.heap.size < W'.heap.size ∧ t < W'.heap.size) := fun W' hM => by
  have b := hM.blk B0 (.inr (.inl rfl))
  have c := hM.blk T0 (.inl rfl)
  exact ⟨⟨b.cell 2,b.cell 5,b.cell 6,b.cell 7,b.cell 8⟩,⟨c.cell 0,c.cell 1,c.cell 2,c.cell 3⟩,b.lt,c.lt⟩
 obtain ⟨⟨c2,c5,c6,c7,c8⟩,⟨t0,t1,t2,t3⟩,hl0,hl1⟩ := HK.out W0 (Mild.below (Below.refl _ _))
 have hba0 : Below w.heap.size w ((W0.alloc (.cells #[.int .i64 0, .int .i64 0, .int .i64 0, .int .i64 0] 34)).drew) := (hb0.alloc hb0.size _).drew
 have hcnt := h0 W0 hb0
 have HKt : Hid (∀ W',Mild W0 W' → W'.cell? ⟨w.heap.size, 2,none⟩ = some (.int .i64 ad) ∧ W'.cell? ⟨t, 2,none⟩ = some wv) := fun W' h => ⟨(HK.out W' h).1.1,(HK.out W' h).2.1.2.2.1⟩
 have HG : Hid (∀ W,Below w.heap.size w W → Calls Tryz.prog 33 #[wv, .int .i64 ad] W fun e w1 => e = .returned (.tuple #[.agg (boxC gv), .int .i64 ge]) ∧ Below W.heap.size W w1) := hg
 have hmx : Tryz.prog.follows .mixedOrders = true := by kernel_rfl
 have HWV : Hid (wv = .pointer (some ra)) := hw
 have hge2 : (ge == 9) = true := by simp [hge]
 have HR : Hid (∀ W,Below w.heap.size w W → R W) := hR
 clear hW0 ht h0 hg hR B0 T0 hb0 hba0 hw hge
 go_enter Tryz.func13,Tryz.ntmps13
 go_upto_region 3 with fail
 rw [HW0.out]
 go_upto_region 15 with (go_at_call 32; refine hcnt.mono ?_; rintro e w1 ⟨rfl,hB1⟩)
 have hb1 : Below w.heap.size w w1 := HB0.out.trans (hB1.mono HB0.out.size)
 have hM1 : Mild W0 w1 := Mild.below hB1
 have hba : Below w1.heap.size w1 ((w1.alloc (.cells #[.int .i64 0, .int .i64 0, .int .i64 0, .int .i64 0] 34)).drew) := ((Below.refl _ w1).alloc (Nat.le_refl _) _).drew
 have hget := HG.out w1.drew hb1.drew
 have hget2 := HG.out _ (hb1.trans (hba.mono hb1.size))
 have hBa : Blk ((w1.alloc (.cells #[.int .i64 0, .int .i64 0, .int .i64 0, .int .i64 0] 34)).drew) w1.heap.size 34 #[.int .i64 0, .int .i64 0, .int .i64 0, .int .i64 0] := (Blk.new w1 34 _).drew
 have HM1 : Hid (Mild W0 w1) := hM1
 have HBE1 : Hid (Below w.heap.size w w1) := hb1
 clear q0 c2 c5 c6 c7 c8 t0 t1 t2 t3 hl0 hl1 hcnt hB1
 obtain ⟨⟨c2,c5,c6,c7,c8⟩,⟨t0,t1,t2,t3⟩,hl0,hl1⟩ := HK.out w1 hM1
 go_cut [9, 11, 12] (fun s9 s11 s12 wx => s9 = .int .i64 n ∧ s12 = .int .i64 ge ∧ (∃ q : Nat,s11 = .pointer (some ⟨q, 0,none⟩)) ∧ Below w.heap.size w wx ∧ Mild W0 wx)
 case first =>
  go_region_held3 (fun W' => W'.cell? ⟨w.heap.size, 2,none⟩ = some (.int .i64 ad) ∧ W'.cell? ⟨t, 2,none⟩ = some wv)
   (first
    | exact ⟨c2,t2⟩
    | exact HKt.out _ (HM1.out.trans hC3')
    | exact HKt.out _ (HM1.out.trans (Mild.below ((Below.refl _ w1).alloc (Nat.le_refl _) _)))
    | exact HKt.out _ (HM1.out.trans (hC3'.trans (Mild.below ((Below.refl _ w3).alloc (Nat.le_refl _) _))))
    | exact HKt.out _ (HM1.out.trans (hC3'.new (B := w1.heap.size) (((((Off.refl (fun k => k = w1.heap.size) _).setCell _ (.inl rfl)).setCell _ (.inl rfl)).setCell _ (.inl rfl)).setCell _ (.inl rfl)) (Nat.le_refl _)))
    | go_keep)
   (first
    | (go_at_call 33; refine hget.mono ?_; rintro e w3 ⟨rfl,hC3⟩; have hb3' : Below w1.heap.size w1 w3 := (Below.refl _ w1).drew.trans hC3; have hC3' : Mild w1 w3 := Mild.below hb3')
    | (go_at_call 33; refine hget2.mono ?_; rintro e w3 ⟨rfl,hC3⟩; have hb3' : Below w1.heap.size w1 w3 := hba.trans (hC3.mono hba.size); have hC3' : Mild w1 w3 := Mild.below hb3'; have k3 := (Mild.below hC3).blk hBa (.inr (.inr rfl)); have e0 : w3.cell? ⟨w1.heap.size, 0,none⟩ = some (.int .i64 0) := k3.cell 0; have e1 : w3.cell? ⟨w1.heap.size, 1,none⟩ = some (.int .i64 0) := k3.cell 1; have e2 : w3.cell? ⟨w1.heap.size, 2,none⟩ = some (.int .i64 0) := k3.cell 2; have e3 : w3.cell? ⟨w1.heap.size, 3,none⟩ = some (.int .i64 0) := k3.cell 3; have f0 : w3.frozen? ⟨w1.heap.size, 0,none⟩ = false := k3.frozen 0; have f1 : w3.frozen? ⟨w1.heap.size, 1,none⟩ = false := k3.frozen 1; have f2 : w3.frozen? ⟨w1.heap.size, 2,none⟩ = false := k3.frozen 2; have f3 : w3.frozen? ⟨w1.heap.size, 3,none⟩ = false := k3.frozen 3))
  ·go_wp2
   go_meet
   have hb4 : Below w3.heap.size w3 (w3.alloc (.cells #[.int .i64 (gv.a : Int), .int .i64 (gv.b : Int), .int .i64 (gv.c : Int), .int .i64 (gv.d : Int)] 34)) := (Below.refl _ w3).alloc (Nat.le_refl _) _
   have hbb : Below w1.heap.size w1 _ := hb3'.trans (hb4.mono hb3'.size)
   exact ⟨rfl,rfl,⟨_,rfl⟩,HBE1.out.trans (hbb.mono HBE1.out.size),HM1.out.trans (Mild.below hbb)⟩
  ·go_wp2
   go_meet
   obtain ⟨qb,qo⟩ := put4m k3 (.int .i64 (gv.a : Int)) (.int .i64 (gv.b : Int)) (.int .i64 (gv.c : Int)) (.int .i64 (gv.d : Int))
   have hbb : Below w1.heap.size w1 _ := hb3'.trans (qo.below hb3'.size (fun k h => by omega))
   exact ⟨rfl,rfl,⟨_,rfl⟩,HBE1.out.trans (hbb.mono HBE1.out.size),HM1.out.trans (Mild.below hbb)⟩
 case rest =>
  obtain ⟨rfl,rfl,⟨q,rfl⟩,hb4,hM4⟩ := hcut
  obtain ⟨W4,rfl⟩ : ∃ W4,W4 = wc := ⟨_,rfl⟩
  clear c2 c5 c6 c7 c8 t0 t1 t2 t3 hl0 hl1 hget hget2 hBa hba hb1 hM1
  obtain ⟨⟨c2,c5,c6,c7,c8⟩,⟨t0,t1,t2,t3⟩,hl0,hl1⟩ := HK.out W4 hM4
  have hr := HR.out W4 hb4
  rw [HWV.out] at t2
  go_wp2
  go_ret
  exact ⟨rfl,hr⟩
set_option maxRecDepth 100000 in
set_option maxHeartbeats 4000000 in
theorem does_put (w : World) (t B : Nat) (dv xv wv : Value) (rm : Int) (ht : Blk w t 31 #[dv,xv,wv, .int .i64 rm]) (wd ad : Int) (sd : ByteArray) (ak : Option Addr) (lk ck : Nat) (r1 r2 r3 r4 : Int) (n ne : Int) (gv : Box) (ge : Int) (hgo : PutGo wv n rm ge) (M : Int → World → Prop) (R : World → Prop)
  (h0 : ∀ W,Below w.heap.size w W → Calls Tryz.prog 32 #[wv] W fun e w1 => e = .returned (.tuple #[.int .i64 n, .int .i64 ne]) ∧ Below W.heap.size W w1)
  (hg : ∀ W,Below w.heap.size w W → Calls Tryz.prog 33 #[wv, .int .i64 ad] W fun e w1 => e = .returned (.tuple #[.agg (boxC gv), .int .i64 ge]) ∧ Below W.heap.size W w1)
  (h1 : ∀ W,Below w.heap.size w W → Calls Tryz.prog 10 #[xv, .int .i64 ad, .agg #[.int .i64 r1, .int .i64 r2, .int .i64 r3, .int .i64 r4]] W fun e w1 => ∃ er : Int,e = .returned (.int .i64 er) ∧ Mild W w1 ∧ M er w1)
  (h2 : ∀ er w1 W,M er w1 → Below w1.heap.size w1 W → Calls Tryz.prog 34 #[wv, .int .i64 ad, .agg #[.int .i64 r1, .int .i64 r2, .int .i64 r3, .int .i64 r4]] W fun e w2 => e = .returned (.int .i64 er) ∧ Mild W w2 ∧ R w2) :
  Calls Tryz.prog 13 #[.pointer (some ⟨t, 0,none⟩), .pointer (some ⟨B, 0,none⟩), .agg (opC 14 wd ad sd ak lk ck r1 r2 r3 r4)] w fun e w' => e = .returned (.bool true) ∧ R w' := by
 unfold opC
 obtain ⟨W0,hW0⟩ : ∃ W0,w.alloc (.cells #[.int .i64 14, .int .i64 wd, .int .i64 ad, .string sd, .slice ak lk ck, .int .i64 r1, .int .i64 r2, .int .i64 r3, .int .i64 r4] 46) = W0 := ⟨_,rfl⟩
 have hb0 : Below w.heap.size w W0 := by rw [← hW0]; exact (Below.refl _ w).alloc (Nat.le_refl _) _
 have B0 : Blk W0 w.heap.size 46 #[.int .i64 14, .int .i64 wd, .int .i64 ad, .string sd, .slice ak lk ck, .int .i64 r1, .int .i64 r2, .int .i64 r3, .int .i64 r4] := by rw [← hW0]; exact Blk.new w 46 _
 have T0 : Blk W0 t 31 #[dv,xv,wv, .int .i64 rm] := (hb0.block t ht.lt).trans ht
 have HW0 : Hid (w.alloc (.cells #[.int .i64 14, .int .i64 wd, .int .i64 ad, .string sd, .slice ak lk ck, .int .i64 r1, .int .i64 r2, .int .i64 r3, .int .i64 r4] 46) = W0) := hW0
 have HB0 : Hid (Below w.heap.size w W0) := hb0
 have q0 : W0.cell? ⟨w.heap.size, 0,none⟩ = some (.int .i64 14) := B0.cell 0
 have HK : Hid (∀ W',Mild W0 W' → (W'.cell? ⟨w.heap.size, 2,none⟩ = some (.int .i64 ad) ∧ W'.cell? ⟨w.heap.size, 5,none⟩ = some (.int .i64 r1) ∧ W'.cell? ⟨w.heap.size, 6,none⟩ = some (.int .i64 r2) ∧ W'.cell? ⟨w.heap.size, 7,none⟩ = some (.int .i64 r3) ∧ W'.cell? ⟨w.heap.size, 8,none⟩ = some (.int .i64 r4)) ∧ (W'.cell? ⟨t, 0,none⟩ = some dv ∧ W'.cell? ⟨t, 1,none⟩ = some xv ∧ W'.cell? ⟨t, 2,none⟩ = some wv ∧ W'.cell? ⟨t, 3,none⟩ = some (.int .i64 rm)) ∧ w.heap.size < W'.heap.size ∧ t < W'.heap.size) := fun W' hM => by
  have b := hM.blk B0 (.inr (.inl rfl))
  have c := hM.blk T0 (.inl rfl)
  exact ⟨⟨b.cell 2,b.cell 5,b.cell 6,b.cell 7,b.cell 8⟩,⟨c.cell 0,c.cell 1,c.cell 2,c.cell 3⟩,b.lt,c.lt⟩
 obtain ⟨⟨c2,c5,c6,c7,c8⟩,⟨t0,t1,t2,t3⟩,hl0,hl1⟩ := HK.out W0 (Mild.below (Below.refl _ _))
 have hba0 : Below w.heap.size w ((W0.alloc (.cells #[.int .i64 0, .int .i64 0, .int .i64 0, .int .i64 0] 34)).drew) := (hb0.alloc hb0.size _).drew
 have hcnt := h0 W0 hb0
 have HKt : Hid (∀ W',Mild W0 W' → W'.cell? ⟨w.heap.size, 2,none⟩ = some (.int .i64 ad) ∧ W'.cell? ⟨t, 2,none⟩ = some wv) := fun W' h => ⟨(HK.out W' h).1.1,(HK.out W' h).2.1.2.2.1⟩
 have HG : Hid (∀ W,Below w.heap.size w W → Calls Tryz.prog 33 #[wv, .int .i64 ad] W fun e w1 => e = .returned (.tuple #[.agg (boxC gv), .int .i64 ge]) ∧ Below W.heap.size W w1) := hg
 have hmx : Tryz.prog.follows .mixedOrders = true := by kernel_rfl
 have H1 : Hid (∀ W,Below w.heap.size w W → Calls Tryz.prog 10 #[xv, .int .i64 ad, .agg #[.int .i64 r1, .int .i64 r2, .int .i64 r3, .int .i64 r4]] W fun e w1 => ∃ er : Int,e = .returned (.int .i64 er) ∧ Mild W w1 ∧ M er w1) := h1
 have HC2 : Hid (∀ er w1,M er w1 → Calls Tryz.prog 34 #[wv, .int .i64 ad, .agg #[.int .i64 r1, .int .i64 r2, .int .i64 r3, .int .i64 r4]] w1.drew fun e w2 => e = .returned (.int .i64 er) ∧ Mild w1.drew w2 ∧ R w2) := fun er w1 hm => h2 er w1 _ hm (Below.refl _ w1).drew
 have HGO : Hid (PutGo wv n rm ge) := hgo
 clear hW0 ht h0 hg h1 h2 B0 T0 hb0 hba0 hgo
 go_enter Tryz.func13,Tryz.ntmps13
 go_upto_region 3 with fail
 rw [HW0.out]
 go_upto_region 15 with (go_at_call 32; refine hcnt.mono ?_; rintro e w1 ⟨rfl,hB1⟩)
 have hb1 : Below w.heap.size w w1 := HB0.out.trans (hB1.mono HB0.out.size)
 have hM1 : Mild W0 w1 := Mild.below hB1
 have hba : Below w1.heap.size w1 ((w1.alloc (.cells #[.int .i64 0, .int .i64 0, .int .i64 0, .int .i64 0] 34)).drew) := ((Below.refl _ w1).alloc (Nat.le_refl _) _).drew
 have hget := HG.out w1.drew hb1.drew
 have hget2 := HG.out _ (hb1.trans (hba.mono hb1.size))
 have hBa : Blk ((w1.alloc (.cells #[.int .i64 0, .int .i64 0, .int .i64 0, .int .i64 0] 34)).drew) w1.heap.size 34 #[.int .i64 0, .int .i64 0, .int .i64 0, .int .i64 0] := (Blk.new w1 34 _).drew
 have HM1 : Hid (Mild W0 w1) := hM1
 have HBE1 : Hid (Below w.heap.size w w1) := hb1
 clear q0 c2 c5 c6 c7 c8 t0 t1 t2 t3 hl0 hl1 hcnt hB1
 obtain ⟨⟨c2,c5,c6,c7,c8⟩,⟨t0,t1,t2,t3⟩,hl0,hl1⟩ := HK.out w1 hM1
 go_cut [9, 11, 12] (fun s9 s11 s12 wx => s9 = .int .i64 n ∧ s12 = .int .i64 ge ∧ (∃ q : Nat,s11 = .pointer (some ⟨q, 0,none⟩)) ∧ Below w.heap.size w wx ∧ Mild W0 wx)
 case first =>
  go_region_held3 (fun W' => W'.cell? ⟨w.heap.size, 2,none⟩ = some (.int .i64 ad) ∧ W'.cell? ⟨t, 2,none⟩ = some wv)
   (first
    | exact ⟨c2,t2⟩
    | exact HKt.out _ (HM1.out.trans hC3')
    | exact HKt.out _ (HM1.out.trans (Mild.below ((Below.refl _ w1).alloc (Nat.le_refl _) _)))
    | exact HKt.out _ (HM1.out.trans (hC3'.trans (Mild.below ((Below.refl _ w3).alloc (Nat.le_refl _) _))))
    | exact HKt.out _ (HM1.out.trans (hC3'.new (B := w1.heap.size) (((((Off.refl (fun k => k = w1.heap.size) _).setCell _ (.inl rfl)).setCell _ (.inl rfl)).setCell _ (.inl rfl)).setCell _ (.inl rfl)) (Nat.le_refl _)))
    | go_keep)
   (first
    | (go_at_call 33; refine hget.mono ?_; rintro e w3 ⟨rfl,hC3⟩; have hb3' : Below w1.heap.size w1 w3 := (Below.refl _ w1).drew.trans hC3; have hC3' : Mild w1 w3 := Mild.below hb3')
    | (go_at_call 33; refine hget2.mono ?_; rintro e w3 ⟨rfl,hC3⟩; have hb3' : Below w1.heap.size w1 w3 := hba.trans (hC3.mono hba.size); have hC3' : Mild w1 w3 := Mild.below hb3'; have k3 := (Mild.below hC3).blk hBa (.inr (.inr rfl)); have e0 : w3.cell? ⟨w1.heap.size, 0,none⟩ = some (.int .i64 0) := k3.cell 0; have e1 : w3.cell? ⟨w1.heap.size, 1,none⟩ = some (.int .i64 0) := k3.cell 1; have e2 : w3.cell? ⟨w1.heap.size, 2,none⟩ = some (.int .i64 0) := k3.cell 2; have e3 : w3.cell? ⟨w1.heap.size, 3,none⟩ = some (.int .i64 0) := k3.cell 3; have f0 : w3.frozen? ⟨w1.heap.size, 0,none⟩ = false := k3.frozen 0; have f1 : w3.frozen? ⟨w1.heap.size, 1,none⟩ = false := k3.frozen 1; have f2 : w3.frozen? ⟨w1.heap.size, 2,none⟩ = false := k3.frozen 2; have f3 : w3.frozen? ⟨w1.heap.size, 3,none⟩ = false := k3.frozen 3))
  ·go_wp2
   go_meet
   have hb4 : Below w3.heap.size w3 (w3.alloc (.cells #[.int .i64 (gv.a : Int), .int .i64 (gv.b : Int), .int .i64 (gv.c : Int), .int .i64 (gv.d : Int)] 34)) := (Below.refl _ w3).alloc (Nat.le_refl _) _
   have hbb : Below w1.heap.size w1 _ := hb3'.trans (hb4.mono hb3'.size)
   exact ⟨rfl,rfl,⟨_,rfl⟩,HBE1.out.trans (hbb.mono HBE1.out.size),HM1.out.trans (Mild.below hbb)⟩
  ·go_wp2
   go_meet
   obtain ⟨qb,qo⟩ := put4m k3 (.int .i64 (gv.a : Int)) (.int .i64 (gv.b : Int)) (.int .i64 (gv.c : Int)) (.int .i64 (gv.d : Int))
   have hbb : Below w1.heap.size w1 _ := hb3'.trans (qo.below hb3'.size (fun k h => by omega))
   exact ⟨rfl,rfl,⟨_,rfl⟩,HBE1.out.trans (hbb.mono HBE1.out.size),HM1.out.trans (Mild.below hbb)⟩
 case rest =>
  obtain ⟨rfl,rfl,⟨q,rfl⟩,hb4,hM4⟩ := hcut
  obtain ⟨W4,rfl⟩ : ∃ W4,W4 = wc := ⟨_,rfl⟩
  clear c2 c5 c6 c7 c8 t0 t1 t2 t3 hl0 hl1 hget hget2 hBa hba hb1 hM1
  obtain ⟨⟨c2,c5,c6,c7,c8⟩,⟨t0,t1,t2,t3⟩,hl0,hl1⟩ := HK.out W4 hM4
  have hc := H1.out W4.drew hb4.drew
  have HM4 : Hid (Mild W0 W4) := hM4
  have HKX : Hid (∀ W',Mild W4.drew W' → W'.cell? ⟨w.heap.size, 2,none⟩ = some (.int .i64 ad) ∧ W'.cell? ⟨w.heap.size, 5,none⟩ = some (.int .i64 r1) ∧ W'.cell? ⟨w.heap.size, 6,none⟩ = some (.int .i64 r2) ∧ W'.cell? ⟨w.heap.size, 7,none⟩ = some (.int .i64 r3) ∧ W'.cell? ⟨w.heap.size, 8,none⟩ = some (.int .i64 r4) ∧ W'.cell? ⟨t, 1,none⟩ = some xv) := fun W' h => by
   obtain ⟨⟨c2,c5,c6,c7,c8⟩,⟨t0,t1,t2,t3⟩,_,_⟩ := HK.out W' (HM4.out.trans ((Mild.below ((Below.refl _ W4).drew)).trans h))
   exact ⟨c2,c5,c6,c7,c8,t1⟩
  clear hM4
  rcases HGO.out with hwv | ⟨ra,hwv,hlt | hne⟩
  ·clear HGO
   rw [hwv] at t2
   have HWV : Hid (wv = .pointer none) := hwv
   clear hwv
   go_upto_region 18 with fail
   go_region_held3 (fun W' => W'.cell? ⟨w.heap.size, 2,none⟩ = some (.int .i64 ad) ∧ W'.cell? ⟨w.heap.size, 5,none⟩ = some (.int .i64 r1) ∧ W'.cell? ⟨w.heap.size, 6,none⟩ = some (.int .i64 r2) ∧ W'.cell? ⟨w.heap.size, 7,none⟩ = some (.int .i64 r3) ∧ W'.cell? ⟨w.heap.size, 8,none⟩ = some (.int .i64 r4) ∧ W'.cell? ⟨t, 1,none⟩ = some xv)
    (first
     | exact ⟨c2,c5,c6,c7,c8,t1⟩
     | exact HKX.out _ hM5
     | go_keep)
    ((go_at_call 10; refine hc.mono ?_; rintro e w5 ⟨er,rfl,hM5,hm⟩))
   have hM05 : Mild W4 w5 := (Mild.below ((Below.refl _ W4).drew)).trans hM5
   have hc2 := HC2.out er w5 hm
   clear hM5 hc c2 c5 c6 c7 c8 t0 t1 t2 t3 hl0 hl1
   obtain ⟨⟨c2,c5,c6,c7,c8⟩,⟨t0,t1,t2,t3⟩,hl0,hl1⟩ := HK.out w5 (HM4.out.trans hM05)
   have HKY : Hid (∀ W',Mild w5.drew W' → W'.cell? ⟨w.heap.size, 2,none⟩ = some (.int .i64 ad) ∧ W'.cell? ⟨w.heap.size, 5,none⟩ = some (.int .i64 r1) ∧ W'.cell? ⟨w.heap.size, 6,none⟩ = some (.int .i64 r2) ∧ W'.cell? ⟨w.heap.size, 7,none⟩ = some (.int .i64 r3) ∧ W'.cell? ⟨w.heap.size, 8,none⟩ = some (.int .i64 r4) ∧ W'.cell? ⟨t, 2,none⟩ = some wv) := fun W' h => by
    obtain ⟨⟨c2,c5,c6,c7,c8⟩,⟨t0,t1,t2,t3⟩,_,_⟩ := HK.out W' (HM4.out.trans (hM05.trans ((Mild.below ((Below.refl _ w5).drew)).trans h)))
    exact ⟨c2,c5,c6,c7,c8,t2⟩
   go_upto_region 19 with fail
   go_region_held3 (fun W' => W'.cell? ⟨w.heap.size, 2,none⟩ = some (.int .i64 ad) ∧ W'.cell? ⟨w.heap.size, 5,none⟩ = some (.int .i64 r1) ∧ W'.cell? ⟨w.heap.size, 6,none⟩ = some (.int .i64 r2) ∧ W'.cell? ⟨w.heap.size, 7,none⟩ = some (.int .i64 r3) ∧ W'.cell? ⟨w.heap.size, 8,none⟩ = some (.int .i64 r4) ∧ W'.cell? ⟨t, 2,none⟩ = some wv)
    (first
     | exact ⟨c2,c5,c6,c7,c8,t2⟩
     | exact HKY.out _ hM6
     | go_keep)
    ((go_at_call 34; refine hc2.mono ?_; rintro e w6 ⟨rfl,hM6,hR⟩))
   go_wp2
   go_ret
   exact ⟨by simp,hR⟩
  ·clear HGO
   have hlt2 : decide (rm ≤ n) = false := by simp; omega
   rw [hwv] at t2
   have HWV : Hid (wv = .pointer (some ra)) := hwv
   clear hwv
   go_upto_region 18 with fail
   go_region_held3 (fun W' => W'.cell? ⟨w.heap.size, 2,none⟩ = some (.int .i64 ad) ∧ W'.cell? ⟨w.heap.size, 5,none⟩ = some (.int .i64 r1) ∧ W'.cell? ⟨w.heap.size, 6,none⟩ = some (.int .i64 r2) ∧ W'.cell? ⟨w.heap.size, 7,none⟩ = some (.int .i64 r3) ∧ W'.cell? ⟨w.heap.size, 8,none⟩ = some (.int .i64 r4) ∧ W'.cell? ⟨t, 1,none⟩ = some xv)
    (first
     | exact ⟨c2,c5,c6,c7,c8,t1⟩
     | exact HKX.out _ hM5
     | go_keep)
    ((go_at_call 10; refine hc.mono ?_; rintro e w5 ⟨er,rfl,hM5,hm⟩))
   have hM05 : Mild W4 w5 := (Mild.below ((Below.refl _ W4).drew)).trans hM5
   have hc2 := HC2.out er w5 hm
   clear hM5 hc c2 c5 c6 c7 c8 t0 t1 t2 t3 hl0 hl1
   obtain ⟨⟨c2,c5,c6,c7,c8⟩,⟨t0,t1,t2,t3⟩,hl0,hl1⟩ := HK.out w5 (HM4.out.trans hM05)
   have HKY : Hid (∀ W',Mild w5.drew W' → W'.cell? ⟨w.heap.size, 2,none⟩ = some (.int .i64 ad) ∧ W'.cell? ⟨w.heap.size, 5,none⟩ = some (.int .i64 r1) ∧ W'.cell? ⟨w.heap.size, 6,none⟩ = some (.int .i64 r2) ∧ W'.cell? ⟨w.heap.size, 7,none⟩ = some (.int .i64 r3) ∧ W'.cell? ⟨w.heap.size, 8,none⟩ = some (.int .i64 r4) ∧ W'.cell? ⟨t, 2,none⟩ = some wv) := fun W' h => by
    obtain ⟨⟨c2,c5,c6,c7,c8⟩,⟨t0,t1,t2,t3⟩,_,_⟩ := HK.out W' (HM4.out.trans (hM05.trans ((Mild.below ((Below.refl _ w5).drew)).trans h)))
    exact ⟨c2,c5,c6,c7,c8,t2⟩
   go_upto_region 19 with fail
   go_region_held3 (fun W' => W'.cell? ⟨w.heap.size, 2,none⟩ = some (.int .i64 ad) ∧ W'.cell? ⟨w.heap.size, 5,none⟩ = some (.int .i64 r1) ∧ W'.cell? ⟨w.heap.size, 6,none⟩ = some (.int .i64 r2) ∧ W'.cell? ⟨w.heap.size, 7,none⟩ = some (.int .i64 r3) ∧ W'.cell? ⟨w.heap.size, 8,none⟩ = some (.int .i64 r4) ∧ W'.cell? ⟨t, 2,none⟩ = some wv)
    (first
     | exact ⟨c2,c5,c6,c7,c8,t2⟩
     | exact HKY.out _ hM6
     | go_keep)
    ((go_at_call 34; refine hc2.mono ?_; rintro e w6 ⟨rfl,hM6,hR⟩))
   go_wp2
   go_ret
   exact ⟨by simp,hR⟩
  ·clear HGO
   have hne2 : (ge == 9) = false := by simp [hne]
   rw [hwv] at t2
   have HWV : Hid (wv = .pointer (some ra)) := hwv
   clear hwv
   by_cases hrm : rm ≤ n
   ·go_upto_region 18 with fail
    go_region_held3 (fun W' => W'.cell? ⟨w.heap.size, 2,none⟩ = some (.int .i64 ad) ∧ W'.cell? ⟨w.heap.size, 5,none⟩ = some (.int .i64 r1) ∧ W'.cell? ⟨w.heap.size, 6,none⟩ = some (.int .i64 r2) ∧ W'.cell? ⟨w.heap.size, 7,none⟩ = some (.int .i64 r3) ∧ W'.cell? ⟨w.heap.size, 8,none⟩ = some (.int .i64 r4) ∧ W'.cell? ⟨t, 1,none⟩ = some xv)
     (first
      | exact ⟨c2,c5,c6,c7,c8,t1⟩
      | exact HKX.out _ hM5
      | go_keep)
     ((go_at_call 10; refine hc.mono ?_; rintro e w5 ⟨er,rfl,hM5,hm⟩))
    have hM05 : Mild W4 w5 := (Mild.below ((Below.refl _ W4).drew)).trans hM5
    have hc2 := HC2.out er w5 hm
    clear hM5 hc c2 c5 c6 c7 c8 t0 t1 t2 t3 hl0 hl1
    obtain ⟨⟨c2,c5,c6,c7,c8⟩,⟨t0,t1,t2,t3⟩,hl0,hl1⟩ := HK.out w5 (HM4.out.trans hM05)
    have HKY : Hid (∀ W',Mild w5.drew W' → W'.cell? ⟨w.heap.size, 2,none⟩ = some (.int .i64 ad) ∧ W'.cell? ⟨w.heap.size, 5,none⟩ = some (.int .i64 r1) ∧ W'.cell? ⟨w.heap.size, 6,none⟩ = some (.int .i64 r2) ∧ W'.cell? ⟨w.heap.size, 7,none⟩ = some (.int .i64 r3) ∧ W'.cell? ⟨w.heap.size, 8,none⟩ = some (.int .i64 r4) ∧ W'.cell? ⟨t, 2,none⟩ = some wv) := fun W' h => by
     obtain ⟨⟨c2,c5,c6,c7,c8⟩,⟨t0,t1,t2,t3⟩,_,_⟩ := HK.out W' (HM4.out.trans (hM05.trans ((Mild.below ((Below.refl _ w5).drew)).trans h)))
     exact ⟨c2,c5,c6,c7,c8,t2⟩
    go_upto_region 19 with fail
    go_region_held3 (fun W' => W'.cell? ⟨w.heap.size, 2,none⟩ = some (.int .i64 ad) ∧ W'.cell? ⟨w.heap.size, 5,none⟩ = some (.int .i64 r1) ∧ W'.cell? ⟨w.heap.size, 6,none⟩ = some (.int .i64 r2) ∧ W'.cell? ⟨w.heap.size, 7,none⟩ = some (.int .i64 r3) ∧ W'.cell? ⟨w.heap.size, 8,none⟩ = some (.int .i64 r4) ∧ W'.cell? ⟨t, 2,none⟩ = some wv)
     (first
      | exact ⟨c2,c5,c6,c7,c8,t2⟩
      | exact HKY.out _ hM6
      | go_keep)
     ((go_at_call 34; refine hc2.mono ?_; rintro e w6 ⟨rfl,hM6,hR⟩))
    go_wp2
    go_ret
    exact ⟨by simp,hR⟩
   ·have hrm2 : decide (rm ≤ n) = false := by simp; omega
    go_upto_region 18 with fail
    go_region_held3 (fun W' => W'.cell? ⟨w.heap.size, 2,none⟩ = some (.int .i64 ad) ∧ W'.cell? ⟨w.heap.size, 5,none⟩ = some (.int .i64 r1) ∧ W'.cell? ⟨w.heap.size, 6,none⟩ = some (.int .i64 r2) ∧ W'.cell? ⟨w.heap.size, 7,none⟩ = some (.int .i64 r3) ∧ W'.cell? ⟨w.heap.size, 8,none⟩ = some (.int .i64 r4) ∧ W'.cell? ⟨t, 1,none⟩ = some xv)
     (first
      | exact ⟨c2,c5,c6,c7,c8,t1⟩
      | exact HKX.out _ hM5
      | go_keep)
     ((go_at_call 10; refine hc.mono ?_; rintro e w5 ⟨er,rfl,hM5,hm⟩))
    have hM05 : Mild W4 w5 := (Mild.below ((Below.refl _ W4).drew)).trans hM5
    have hc2 := HC2.out er w5 hm
    clear hM5 hc c2 c5 c6 c7 c8 t0 t1 t2 t3 hl0 hl1
    obtain ⟨⟨c2,c5,c6,c7,c8⟩,⟨t0,t1,t2,t3⟩,hl0,hl1⟩ := HK.out w5 (HM4.out.trans hM05)
    have HKY : Hid (∀ W',Mild w5.drew W' → W'.cell? ⟨w.heap.size, 2,none⟩ = some (.int .i64 ad) ∧ W'.cell? ⟨w.heap.size, 5,none⟩ = some (.int .i64 r1) ∧ W'.cell? ⟨w.heap.size, 6,none⟩ = some (.int .i64 r2) ∧ W'.cell? ⟨w.heap.size, 7,none⟩ = some (.int .i64 r3) ∧ W'.cell? ⟨w.heap.size, 8,none⟩ = some (.int .i64 r4) ∧ W'.cell? ⟨t, 2,none⟩ = some wv) := fun W' h => by
     obtain ⟨⟨c2,c5,c6,c7,c8⟩,⟨t0,t1,t2,t3⟩,_,_⟩ := HK.out W' (HM4.out.trans (hM05.trans ((Mild.below ((Below.refl _ w5).drew)).trans h)))
     exact ⟨c2,c5,c6,c7,c8,t2⟩
    go_upto_region 19 with fail
    go_region_held3 (fun W' => W'.cell? ⟨w.heap.size, 2,none⟩ = some (.int .i64 ad) ∧ W'.cell? ⟨w.heap.size, 5,none⟩ = some (.int .i64 r1) ∧ W'.cell? ⟨w.heap.size, 6,none⟩ = some (.int .i64 r2) ∧ W'.cell? ⟨w.heap.size, 7,none⟩ = some (.int .i64 r3) ∧ W'.cell? ⟨w.heap.size, 8,none⟩ = some (.int .i64 r4) ∧ W'.cell? ⟨t, 2,none⟩ = some wv)
     (first
      | exact ⟨c2,c5,c6,c7,c8,t2⟩
      | exact HKY.out _ hM6
      | go_keep)
     ((go_at_call 34; refine hc2.mono ?_; rintro e w6 ⟨rfl,hM6,hR⟩))
    go_wp2
    go_ret
    exact ⟨by simp,hR⟩
end
end Go.Proofs.YtdgbgmffpcooeaaGreat
