/- Xd3 -/
import Derived.Test.YtdgbgmffpcooeaaGreatU46
namespace Go.Proofs.YtdgbgmffpcooeaaGreat
open Go.RowKit Go.Lib
section
theorem put4m {W : World} {B4 : Nat} {z0 z1 z2 z3 : Value} (h4 : Blk W B4 34 #[z0,z1,z2,z3]) (v0 v1 v2 v3 : Value) :
  Blk ((((W.setCell ⟨B4, 0,none⟩ v0).setCell ⟨B4, 1,none⟩ v1).setCell ⟨B4, 2,none⟩ v2).setCell ⟨B4, 3,none⟩ v3) B4 34 #[v0,v1,v2,v3] ∧ Off (fun k => k = B4) W ((((W.setCell ⟨B4, 0,none⟩ v0).setCell ⟨B4, 1,none⟩ v1).setCell ⟨B4, 2,none⟩ v2).setCell ⟨B4, 3,none⟩ v3) :=
 ⟨(((h4.set 0 v0).set 1 v1).set 2 v2).set 3 v3,((((Off.refl (fun k => k = B4) W).setCell v0 (.inl rfl)).setCell v1 (.inl rfl)).setCell v2 (.inl rfl)).setCell v3 (.inl rfl)⟩
theorem Mild.new {a b c : World} {B : Nat} (h : Mild a b) (ho : Off (fun k => k = B) b c) (hB : a.heap.size ≤ B) : Mild a c :=
 ⟨Nat.le_trans h.size ho.size,fun k cs t hk ht => (ho.block k (Array.getElem?_eq_some_iff.1 (h.block k cs t hk ht)).1 (by have := (Array.getElem?_eq_some_iff.1 hk).1; omega)).trans (h.block k cs t hk ht)⟩
set_option maxRecDepth 100000 in
set_option maxHeartbeats 4000000 in
theorem does_get (w : World) (t B : Nat) (dv xv wv : Value) (rm : Int) (ht : Blk w t 31 #[dv,xv,wv, .int .i64 rm]) (wd ad : Int) (sd : ByteArray) (ak : Option Addr) (lk ck : Nat) (r1 r2 r3 r4 : Int) (M : Box → Int → World → Prop) (R : World → Prop)
  (h1 : ∀ W,Below w.heap.size w W → Calls Tryz.prog 37 #[xv, .int .i64 ad] W fun e w1 => ∃ (v : Box) (er : Int),e = .returned (.tuple #[.agg (boxC v), .int .i64 er]) ∧ Mild W w1 ∧ M v er w1)
  (hm1 : ∀ v er w1 W,M v er w1 → Below w1.heap.size w1 W → M v er W)
  (hm2 : ∀ v er w1 W b vs,M v er w1 → Blk w1 b 34 vs → w.heap.size ≤ b → Off (fun k => k = b) w1 W → M v er W)
  (h2 : ∀ v er w1 W,M v er w1 → Below w1.heap.size w1 W → Calls Tryz.prog 33 #[wv, .int .i64 ad] W fun e w2 => e = .returned (.tuple #[.agg (boxC v), .int .i64 er]) ∧ Below W.heap.size W w2)
  (h3 : ∀ v er w1,M v er w1 → R w1) :
  Calls Tryz.prog 13 #[.pointer (some ⟨t, 0,none⟩), .pointer (some ⟨B, 0,none⟩), .agg (opC 16 wd ad sd ak lk ck r1 r2 r3 r4)] w fun e w' => e = .returned (.bool true) ∧ R w' := by
 unfold opC
 obtain ⟨W0,hW0⟩ : ∃ W0,w.alloc (.cells #[.int .i64 16, .int .i64 wd, .int .i64 ad, .string sd, .slice ak lk ck, .int .i64 r1, .int .i64 r2, .int .i64 r3, .int .i64 r4] 46) = W0 := ⟨_,rfl⟩
 have hb0 : Below w.heap.size w W0 := by rw [← hW0]; exact (Below.refl _ w).alloc (Nat.le_refl _) _
 have B0 : Blk W0 w.heap.size 46 #[.int .i64 16, .int .i64 wd, .int .i64 ad, .string sd, .slice ak lk ck, .int .i64 r1, .int .i64 r2, .int .i64 r3, .int .i64 r4] := by rw [← hW0]; exact Blk.new w 46 _
 have T0 : Blk W0 t 31 #[dv,xv,wv, .int .i64 rm] := (hb0.block t ht.lt).trans ht
 have HW0 : Hid (w.alloc (.cells #[.int .i64 16, .int .i64 wd, .int .i64 ad, .string sd, .slice ak lk ck, .int .i64 r1, .int .i64 r2, .int .i64 r3, .int .i64 r4] 46) = W0) := hW0
 have HB0 : Hid (Below w.heap.size w W0) := hb0
 have q0 : W0.cell? ⟨w.heap.size, 0,none⟩ = some (.int .i64 16) := B0.cell 0
 have HK : Hid (∀ W',Mild W0 W' → (W'.cell? ⟨w.heap.size, 2,none⟩ = some (.int .i64 ad) ∧ W'.cell? ⟨w.heap.size, 5,none⟩ = some (.int .i64 r1) ∧ W'.cell? ⟨w.heap.size, 6,none⟩ = some (.int .i64 r2) ∧ W'.cell? ⟨w.heap.size, 7,none⟩ = some (.int .i64 r3) ∧ W'.cell? ⟨w.heap.size, 8,none⟩ = some (.int .i64 r4)) ∧ (W'.cell? ⟨t, 0,none⟩ = some dv ∧ W'.cell? ⟨t, 1,none⟩ = some xv ∧ W'.cell? ⟨t, 2,none⟩ = some wv ∧ W'.cell? ⟨t, 3,none⟩ = some (.int .i64 rm)) ∧ w.heap.size < W'.heap.size ∧ t < W'.heap.size) := fun W' hM => by
  have b := hM.blk B0 (.inr (.inl rfl))
  have c := hM.blk T0 (.inl rfl)
  exact ⟨⟨b.cell 2,b.cell 5,b.cell 6,b.cell 7,b.cell 8⟩,⟨c.cell 0,c.cell 1,c.cell 2,c.cell 3⟩,b.lt,c.lt⟩
 obtain ⟨⟨c2,c5,c6,c7,c8⟩,⟨t0,t1,t2,t3⟩,hl0,hl1⟩ := HK.out W0 (Mild.below (Below.refl _ _))
 have hba0 : Below w.heap.size w ((W0.alloc (.cells #[.int .i64 0, .int .i64 0, .int .i64 0, .int .i64 0] 34)).drew) := (hb0.alloc hb0.size _).drew
 have hget := h1 W0.drew hb0.drew
 have hget2 := h1 _ hba0
 have HC2 : Hid (∀ v er w1 W,M v er w1 → Below w1.heap.size w1 W → Calls Tryz.prog 33 #[wv, .int .i64 ad] W fun e w2 => e = .returned (.tuple #[.agg (boxC v), .int .i64 er]) ∧ Below W.heap.size W w2) := h2
 have HM1 : Hid (∀ v er w1 W,M v er w1 → Below w1.heap.size w1 W → M v er W) := hm1
 have HM2 : Hid (∀ v er w1 W b vs,M v er w1 → Blk w1 b 34 vs → w.heap.size ≤ b → Off (fun k => k = b) w1 W → M v er W) := hm2
 have H3 : Hid (∀ v er w1,M v er w1 → R w1) := h3
 have hmx : Tryz.prog.follows .mixedOrders = true := by kernel_rfl
 have hBa : Blk ((W0.alloc (.cells #[.int .i64 0, .int .i64 0, .int .i64 0, .int .i64 0] 34)).drew) W0.heap.size 34 #[.int .i64 0, .int .i64 0, .int .i64 0, .int .i64 0] := (Blk.new W0 34 _).drew
 have hba : Below W0.heap.size W0 ((W0.alloc (.cells #[.int .i64 0, .int .i64 0, .int .i64 0, .int .i64 0] 34)).drew) := ((Below.refl _ W0).alloc (Nat.le_refl _) _).drew
 have HKs : Hid (∀ W',Mild W0 W' → W'.cell? ⟨w.heap.size, 2,none⟩ = some (.int .i64 ad) ∧ W'.cell? ⟨t, 1,none⟩ = some xv) := fun W' h => ⟨(HK.out W' h).1.1,(HK.out W' h).2.1.2.1⟩
 have HKt : Hid (∀ W',Mild W0 W' → W'.cell? ⟨w.heap.size, 2,none⟩ = some (.int .i64 ad) ∧ W'.cell? ⟨t, 2,none⟩ = some wv) := fun W' h => ⟨(HK.out W' h).1.1,(HK.out W' h).2.1.2.2.1⟩
 clear hW0 ht h1 h2 h3 hm1 hm2 B0 T0 hb0 hba0
 go_enter Tryz.func13,Tryz.ntmps13
 go_upto_region 3 with fail
 rw [HW0.out]
 go_upto_region 24 with fail
 go_cut [13, 14] (fun s13 s14 wx => ∃ (B3 : Nat) (v : Box) (er : Int),s13 = .pointer (some ⟨B3, 0,none⟩) ∧ s14 = .int .i64 er ∧ Blk wx B3 34 (boxC v) ∧ Mild W0 wx ∧ M v er wx)
 case first =>
  go_region_held3 (fun W' => W'.cell? ⟨w.heap.size, 2,none⟩ = some (.int .i64 ad) ∧ W'.cell? ⟨t, 1,none⟩ = some xv)
   (first
    | exact ⟨c2,t1⟩
    | exact HKs.out _ hC3'
    | exact HKs.out _ (Mild.below ((Below.refl _ W0).alloc (Nat.le_refl _) _))
    | exact HKs.out _ (hC3'.trans (Mild.below ((Below.refl _ w3).alloc (Nat.le_refl _) _)))
    | exact HKs.out _ (hC3'.new (B := W0.heap.size) (((((Off.refl (fun k => k = W0.heap.size) _).setCell _ (.inl rfl)).setCell _ (.inl rfl)).setCell _ (.inl rfl)).setCell _ (.inl rfl)) (Nat.le_refl _))
    | go_keep)
   (first
    | (go_at_call 37; refine hget.mono ?_; rintro e w3 ⟨v,er,rfl,hC3,hm3⟩; have hC3' : Mild W0 w3 := (Mild.below ((Below.refl _ W0).drew)).trans hC3)
    | (go_at_call 37; refine hget2.mono ?_; rintro e w3 ⟨v,er,rfl,hC3,hm3⟩; have hC3' : Mild W0 w3 := (Mild.below hba).trans hC3; have k3 := hC3.blk hBa (.inr (.inr rfl)); have e0 : w3.cell? ⟨W0.heap.size, 0,none⟩ = some (.int .i64 0) := k3.cell 0; have e1 : w3.cell? ⟨W0.heap.size, 1,none⟩ = some (.int .i64 0) := k3.cell 1; have e2 : w3.cell? ⟨W0.heap.size, 2,none⟩ = some (.int .i64 0) := k3.cell 2; have e3 : w3.cell? ⟨W0.heap.size, 3,none⟩ = some (.int .i64 0) := k3.cell 3; have f0 : w3.frozen? ⟨W0.heap.size, 0,none⟩ = false := k3.frozen 0; have f1 : w3.frozen? ⟨W0.heap.size, 1,none⟩ = false := k3.frozen 1; have f2 : w3.frozen? ⟨W0.heap.size, 2,none⟩ = false := k3.frozen 2; have f3 : w3.frozen? ⟨W0.heap.size, 3,none⟩ = false := k3.frozen 3))
  ·go_wp2
   go_meet
   have hb4 : Below w3.heap.size w3 (w3.alloc (.cells #[.int .i64 (v.a : Int), .int .i64 (v.b : Int), .int .i64 (v.c : Int), .int .i64 (v.d : Int)] 34)) := (Below.refl _ w3).alloc (Nat.le_refl _) _
   exact ⟨w3.heap.size,v,er,rfl,rfl,Blk.new w3 34 _,hC3'.trans (Mild.below hb4),HM1.out _ _ _ _ hm3 hb4⟩
  ·go_wp2
   go_meet
   obtain ⟨qb,qo⟩ := put4m k3 (.int .i64 (v.a : Int)) (.int .i64 (v.b : Int)) (.int .i64 (v.c : Int)) (.int .i64 (v.d : Int))
   exact ⟨W0.heap.size,v,er,rfl,rfl,qb,hC3'.new qo (Nat.le_refl _),HM2.out _ _ _ _ _ _ hm3 k3 HB0.out.size qo⟩
 case rest =>
  obtain ⟨B3,v,er,rfl,rfl,b3,hM0,hm⟩ := hcut
  obtain ⟨W4,rfl⟩ : ∃ W4,W4 = wc := ⟨_,rfl⟩
  have HB3 : Hid (Blk W4 B3 34 (boxC v)) := b3
  have HM : Hid (M v er W4) := hm
  have hget3 := HC2.out v er W4 W4.drew hm (Below.refl _ W4).drew
  have hba4 : Below W4.heap.size W4 ((W4.alloc (.cells #[.int .i64 0, .int .i64 0, .int .i64 0, .int .i64 0] 34)).drew) := ((Below.refl _ W4).alloc (Nat.le_refl _) _).drew
  have hget4 := HC2.out v er W4 _ hm hba4
  have hBa4 : Blk ((W4.alloc (.cells #[.int .i64 0, .int .i64 0, .int .i64 0, .int .i64 0] 34)).drew) W4.heap.size 34 #[.int .i64 0, .int .i64 0, .int .i64 0, .int .i64 0] := (Blk.new W4 34 _).drew
  have HM0 : Hid (Mild W0 W4) := hM0
  clear q0 c2 c5 c6 c7 c8 t0 t1 t2 t3 hl0 hl1 hget hget2 hBa hba b3 hm
  obtain ⟨⟨c2,c5,c6,c7,c8⟩,⟨t0,t1,t2,t3⟩,hl0,hl1⟩ := HK.out W4 hM0
  go_upto_region 25 with fail
  go_cut [13, 14, 15, 16] (fun s13 s14 s15 s16 wx => s13 = .pointer (some ⟨B3, 0,none⟩) ∧ s14 = .int .i64 er ∧ ∃ (B5 : Nat),s15 = .pointer (some ⟨B5, 0,none⟩) ∧ s16 = .int .i64 er ∧ Blk wx B5 34 (boxC v) ∧ Blk wx B3 34 (boxC v) ∧ M v er wx)
  case first =>
   go_region_held3 (fun W' => W'.cell? ⟨w.heap.size, 2,none⟩ = some (.int .i64 ad) ∧ W'.cell? ⟨t, 2,none⟩ = some wv)
    (first
     | exact ⟨c2,t2⟩
     | exact HKt.out _ (HM0.out.trans hC3')
     | exact HKt.out _ (HM0.out.trans (Mild.below ((Below.refl _ W4).alloc (Nat.le_refl _) _)))
     | exact HKt.out _ (HM0.out.trans (hC3'.trans (Mild.below ((Below.refl _ w3).alloc (Nat.le_refl _) _))))
     | exact HKt.out _ (HM0.out.trans (hC3'.new (B := W4.heap.size) (((((Off.refl (fun k => k = W4.heap.size) _).setCell _ (.inl rfl)).setCell _ (.inl rfl)).setCell _ (.inl rfl)).setCell _ (.inl rfl)) (Nat.le_refl _)))
     | go_keep)
    (first
     | (go_at_call 33; refine hget3.mono ?_; rintro e w3 ⟨rfl,hC3⟩; have hb3' : Below W4.heap.size W4 w3 := (Below.refl _ W4).drew.trans hC3; have hC3' : Mild W4 w3 := Mild.below hb3')
     | (go_at_call 33; refine hget4.mono ?_; rintro e w3 ⟨rfl,hC3⟩; have hb3' : Below W4.heap.size W4 w3 := hba4.trans (hC3.mono hba4.size); have hC3' : Mild W4 w3 := Mild.below hb3'; have k3 := (Mild.below hC3).blk hBa4 (.inr (.inr rfl)); have e0 : w3.cell? ⟨W4.heap.size, 0,none⟩ = some (.int .i64 0) := k3.cell 0; have e1 : w3.cell? ⟨W4.heap.size, 1,none⟩ = some (.int .i64 0) := k3.cell 1; have e2 : w3.cell? ⟨W4.heap.size, 2,none⟩ = some (.int .i64 0) := k3.cell 2; have e3 : w3.cell? ⟨W4.heap.size, 3,none⟩ = some (.int .i64 0) := k3.cell 3; have f0 : w3.frozen? ⟨W4.heap.size, 0,none⟩ = false := k3.frozen 0; have f1 : w3.frozen? ⟨W4.heap.size, 1,none⟩ = false := k3.frozen 1; have f2 : w3.frozen? ⟨W4.heap.size, 2,none⟩ = false := k3.frozen 2; have f3 : w3.frozen? ⟨W4.heap.size, 3,none⟩ = false := k3.frozen 3))
   ·go_wp2
    go_meet
    have hb4 : Below w3.heap.size w3 (w3.alloc (.cells #[.int .i64 (v.a : Int), .int .i64 (v.b : Int), .int .i64 (v.c : Int), .int .i64 (v.d : Int)] 34)) := (Below.refl _ w3).alloc (Nat.le_refl _) _
    exact ⟨rfl,rfl,w3.heap.size,rfl,rfl,Blk.new w3 34 _,(hC3'.trans (Mild.below hb4)).blk HB3.out (.inr (.inr rfl)),HM1.out _ _ _ _ (HM1.out _ _ _ _ HM.out hb3') hb4⟩
   ·go_wp2
    go_meet
    obtain ⟨qb,qo⟩ := put4m k3 (.int .i64 (v.a : Int)) (.int .i64 (v.b : Int)) (.int .i64 (v.c : Int)) (.int .i64 (v.d : Int))
    exact ⟨rfl,rfl,W4.heap.size,rfl,rfl,qb,(hC3'.new qo (Nat.le_refl _)).blk HB3.out (.inr (.inr rfl)),HM2.out _ _ _ _ _ _ (HM1.out _ _ _ _ HM.out hb3') k3 (Nat.le_trans HB0.out.size HM0.out.size) qo⟩
  case rest =>
   obtain ⟨rfl,rfl,B5,rfl,rfl,b5,b3,hm5⟩ := hcut
   obtain ⟨W6,rfl⟩ : ∃ W6,W6 = wc := ⟨_,rfl⟩
   have x0 : W6.cell? ⟨B3, 0,none⟩ = some (.int .i64 (v.a : Int)) := b3.cell 0
   have x1 : W6.cell? ⟨B3, 1,none⟩ = some (.int .i64 (v.b : Int)) := b3.cell 1
   have x2 : W6.cell? ⟨B3, 2,none⟩ = some (.int .i64 (v.c : Int)) := b3.cell 2
   have x3 : W6.cell? ⟨B3, 3,none⟩ = some (.int .i64 (v.d : Int)) := b3.cell 3
   have y0 : W6.cell? ⟨B5, 0,none⟩ = some (.int .i64 (v.a : Int)) := b5.cell 0
   have y1 : W6.cell? ⟨B5, 1,none⟩ = some (.int .i64 (v.b : Int)) := b5.cell 1
   have y2 : W6.cell? ⟨B5, 2,none⟩ = some (.int .i64 (v.c : Int)) := b5.cell 2
   have y3 : W6.cell? ⟨B5, 3,none⟩ = some (.int .i64 (v.d : Int)) := b5.cell 3
   have heq := eq34 (v.a : Int) (v.b : Int) (v.c : Int) (v.d : Int) (v.a : Int) (v.b : Int) (v.c : Int) (v.d : Int)
   rw [decide_eq_true rfl] at heq
   have hR := H3.out v er W6 hm5
   clear b3 b5 hm5
   go_wp2
   go_ret
   exact ⟨by simp,hR⟩
end
end Go.Proofs.YtdgbgmffpcooeaaGreat
