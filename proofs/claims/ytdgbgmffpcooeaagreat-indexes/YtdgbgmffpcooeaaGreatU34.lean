/- Ix5 -/
import Derived.Test.YtdgbgmffpcooeaaGreatU33
namespace Go.Proofs.YtdgbgmffpcooeaaGreat
open Go.RowKit Go.Lib
section
theorem mindW_off (w : World) (x : Nat) (er : Int) : Off (fun k => k = x) w (mindW w x er) := by
 unfold mindW; split
 ·exact Off.one w _
 ·exact Off.refl _ _
theorem put4 {W : World} {B4 : Nat} {z0 z1 z2 z3 : Value} (h4 : Blk W B4 34 #[z0,z1,z2,z3]) (v0 v1 v2 v3 : Value) :
  Blk ((((W.setCell ⟨B4, 0,none⟩ v0).setCell ⟨B4, 1,none⟩ v1).setCell ⟨B4, 2,none⟩ v2).setCell ⟨B4, 3,none⟩ v3) B4 34 #[v0,v1,v2,v3] ∧ Off (fun k => k = B4) W ((((W.setCell ⟨B4, 0,none⟩ v0).setCell ⟨B4, 1,none⟩ v1).setCell ⟨B4, 2,none⟩ v2).setCell ⟨B4, 3,none⟩ v3) :=
 ⟨(((h4.set 0 v0).set 1 v1).set 2 v2).set 3 v3,((((Off.refl (fun k => k = B4) W).setCell v0 (.inl rfl)).setCell v1 (.inl rfl)).setCell v2 (.inl rfl)).setCell v3 (.inl rfl)⟩
set_option maxRecDepth 100000 in
set_option maxHeartbeats 2000000 in
theorem iget_no (w : World) (x t : Nat) (dead : Bool) (hx : IdxB w x t dead) (id : Int) (h : refuseE dead id ≠ 0) :
  Calls Tryz.prog 66 #[.pointer (some ⟨x, 0,none⟩), .int .i64 id] w fun e w' => e = .returned (.tuple #[.agg (boxC zeroBox), .int .i64 (refuseE dead id)]) ∧ Below w.heap.size w w' := by
 have hb0 : Below w.heap.size w (w.alloc (.cells #[.int .i64 0, .int .i64 0, .int .i64 0, .int .i64 0] 34)) := (Below.refl _ w).alloc (Nat.le_refl _) _
 have href := refuse_any _ x t dead ((hb0.block x hx.lt).trans hx) id
 have hr' : (refuseE dead id != 0) = true := by simpa using h
 have HB : Hid _ := hb0
 have B0 := Blk.new w 34 #[.int .i64 0, .int .i64 0, .int .i64 0, .int .i64 0]
 obtain ⟨W0,hW0⟩ : ∃ W0,w.alloc (.cells #[.int .i64 0, .int .i64 0, .int .i64 0, .int .i64 0] 34) = W0 := ⟨_,rfl⟩
 rw [hW0] at B0 href HB
 have HW0 : Hid (w.alloc (.cells #[.int .i64 0, .int .i64 0, .int .i64 0, .int .i64 0] 34) = W0) := hW0
 have HB0 : Hid (Blk W0 w.heap.size 34 #[.int .i64 0, .int .i64 0, .int .i64 0, .int .i64 0]) := B0
 have hs0 := HB.out.size
 have c0 : W0.cell? ⟨w.heap.size, 0,none⟩ = some (.int .i64 0) := B0.cell 0
 have c1 : W0.cell? ⟨w.heap.size, 1,none⟩ = some (.int .i64 0) := B0.cell 1
 have c2 : W0.cell? ⟨w.heap.size, 2,none⟩ = some (.int .i64 0) := B0.cell 2
 have c3 : W0.cell? ⟨w.heap.size, 3,none⟩ = some (.int .i64 0) := B0.cell 3
 have f0 : W0.frozen? ⟨w.heap.size, 0,none⟩ = false := B0.frozen 0
 have f1 : W0.frozen? ⟨w.heap.size, 1,none⟩ = false := B0.frozen 1
 have f2 : W0.frozen? ⟨w.heap.size, 2,none⟩ = false := B0.frozen 2
 have f3 : W0.frozen? ⟨w.heap.size, 3,none⟩ = false := B0.frozen 3
 clear h hb0 hW0 B0
 generalize refuseE dead id = er at href hr'
 go_enter Tryz.func66,Tryz.ntmps66
 go_upto_region 1 with fail
 rw [HW0.out]
 go_wp2_with (go_at_call 58; refine href.mono ?_; rintro e w1 ⟨rfl,rfl⟩)
 obtain ⟨qb,qo⟩ := put4 HB0.out (.int .i64 0) (.int .i64 0) (.int .i64 0) (.int .i64 0)
 have d0 := qb.cell 0
 have d1 := qb.cell 1
 have d2 := qb.cell 2
 have d3 := qb.cell 3
 refine bodyPost_ret (v := .tuple #[.agg (boxC zeroBox), .int .i64 er]) (by simp [results,Tryz.results66,go_sem,d0,d1,d2,d3,zeroBox]) rfl ⟨rfl, ?_⟩
 exact HB.out.trans (qo.below hs0 (fun k hk => by omega))
set_option maxRecDepth 100000 in
set_option maxHeartbeats 2000000 in
theorem iget_go (w : World) (A : PA) (x t : Nat) (hx : IdxB w x t false) (hF : ∀ k,A.F k → k < w.heap.size) (hFx : ¬ A.F x) (id : Int) (hid : idB id = true) (v : Box) (er : Int) (P : World → Prop)
  (hfind : ∀ W,Below w.heap.size w W → Calls Tryz.prog 80 #[.pointer (some ⟨x, 0,none⟩), .int .i64 id] W fun e w' => e = .returned (.tuple #[.agg (boxC v), .int .i64 er]) ∧ Off A.F W w' ∧ P w') :
  Calls Tryz.prog 66 #[.pointer (some ⟨x, 0,none⟩), .int .i64 id] w fun e w' => e = .returned (.tuple #[.agg (boxC v), .int .i64 er]) ∧ ∃ w1 w2,P w1 ∧ Off A.F w w1 ∧ Off (fun k => w.heap.size ≤ k) w1 w2 ∧ Off (fun k => w.heap.size ≤ k) (mindW w2 x er) w' := by
 have hb0 : Below w.heap.size w (w.alloc (.cells #[.int .i64 0, .int .i64 0, .int .i64 0, .int .i64 0] 34)) := (Below.refl _ w).alloc (Nat.le_refl _) _
 have B0 := Blk.new w 34 #[.int .i64 0, .int .i64 0, .int .i64 0, .int .i64 0]
 have hx0 : IdxB _ x t false := (hb0.block x hx.lt).trans hx
 have href := refuse_any _ x t false hx0 id
 have hr0 : refuseE false id = 0 := by unfold refuseE; rw [hid]; rfl
 rw [hr0] at href
 have hfi := hfind _ hb0
 obtain ⟨W0,hW0⟩ : ∃ W0,w.alloc (.cells #[.int .i64 0, .int .i64 0, .int .i64 0, .int .i64 0] 34) = W0 := ⟨_,rfl⟩
 rw [hW0] at hb0 B0 hx0 href hfi
 have HW0 : Hid (w.alloc (.cells #[.int .i64 0, .int .i64 0, .int .i64 0, .int .i64 0] 34) = W0) := hW0
 have hxl := hx.lt
 clear hr0 hid hx hfind hW0
 go_enter Tryz.func66,Tryz.ntmps66
 go_upto_region 1 with fail
 rw [HW0.out]
 go_upto_region 5 with (first
  | (go_at_call 58; refine href.mono ?_; rintro e w9 ⟨rfl,rfl⟩)
  | (go_at_call 80; refine hfi.mono ?_; rintro e w1 ⟨rfl,ho1,hP1⟩))
 have nF : ∀ k,w.heap.size ≤ k → ¬ A.F k := fun k hk h => by have := hF k h; omega
 have hs0 := hb0.size
 have B0l := B0.lt
 have hs1 := ho1.size
 have B1 := (ho1.block _ B0.lt (nF _ (Nat.le_refl _))).trans B0
 have hx1 : IdxB w1 x t false := (ho1.block _ hx0.lt hFx).trans hx0
 have hxl1 := hx1.lt
 obtain ⟨W5,hW5⟩ : ∃ W5,w1.alloc (.cells #[.int .i64 (v.a : Int), .int .i64 (v.b : Int), .int .i64 (v.c : Int), .int .i64 (v.d : Int)] 34) = W5 := ⟨_,rfl⟩
 have B7 : Blk W5 w1.heap.size 34 (boxC v) := by rw [← hW5]; exact Blk.new w1 34 _
 have o5 : Off (fun k => w.heap.size ≤ k) w1 W5 := by rw [← hW5]; exact Off.of_below ((Below.refl _ w1).alloc (Nat.le_refl _) _)
 have hx5 : IdxB W5 x t false := (o5.block _ hx1.lt (by omega)).trans hx1
 have B5 : Blk W5 w.heap.size 34 #[.int .i64 0, .int .i64 0, .int .i64 0, .int .i64 0] := by rw [← hW5]; exact Blk.alloc (show Blk w1 w.heap.size 34 _ from B1) _
 rw [hW5]
 have hmi := mind_any W5.drew x t false (hx5.drew) er
 have oM := mindW_off W5.drew x er
 have hs5 : w1.heap.size ≤ W5.heap.size := o5.size
 have B7l := B7.lt
 have M7 : Blk (mindW W5.drew x er) w1.heap.size 34 (boxC v) := (oM.block _ B7.drew.lt (by omega)).trans B7.drew
 have M5 : Blk (mindW W5.drew x er) w.heap.size 34 #[.int .i64 0, .int .i64 0, .int .i64 0, .int .i64 0] := (oM.block _ (show Blk W5.drew w.heap.size 34 _ from B5.drew).lt (by omega)).trans B5.drew
 have a0 : W5.cell? ⟨w1.heap.size, 0,none⟩ = some (.int .i64 (v.a : Int)) := B7.cell 0
 have a1 : W5.cell? ⟨w1.heap.size, 1,none⟩ = some (.int .i64 (v.b : Int)) := B7.cell 1
 have a2 : W5.cell? ⟨w1.heap.size, 2,none⟩ = some (.int .i64 (v.c : Int)) := B7.cell 2
 have a3 : W5.cell? ⟨w1.heap.size, 3,none⟩ = some (.int .i64 (v.d : Int)) := B7.cell 3
 have b0 : (mindW W5.drew x er).cell? ⟨w1.heap.size, 0,none⟩ = some (.int .i64 (v.a : Int)) := M7.cell 0
 have b1 : (mindW W5.drew x er).cell? ⟨w1.heap.size, 1,none⟩ = some (.int .i64 (v.b : Int)) := M7.cell 1
 have b2 : (mindW W5.drew x er).cell? ⟨w1.heap.size, 2,none⟩ = some (.int .i64 (v.c : Int)) := M7.cell 2
 have b3 : (mindW W5.drew x er).cell? ⟨w1.heap.size, 3,none⟩ = some (.int .i64 (v.d : Int)) := M7.cell 3
 have c0 : (mindW W5.drew x er).cell? ⟨w.heap.size, 0,none⟩ = some (.int .i64 0) := M5.cell 0
 have c1 : (mindW W5.drew x er).cell? ⟨w.heap.size, 1,none⟩ = some (.int .i64 0) := M5.cell 1
 have c2 : (mindW W5.drew x er).cell? ⟨w.heap.size, 2,none⟩ = some (.int .i64 0) := M5.cell 2
 have c3 : (mindW W5.drew x er).cell? ⟨w.heap.size, 3,none⟩ = some (.int .i64 0) := M5.cell 3
 have f0 : (mindW W5.drew x er).frozen? ⟨w.heap.size, 0,none⟩ = false := M5.frozen 0
 have f1 : (mindW W5.drew x er).frozen? ⟨w.heap.size, 1,none⟩ = false := M5.frozen 1
 have f2 : (mindW W5.drew x er).frozen? ⟨w.heap.size, 2,none⟩ = false := M5.frozen 2
 have f3 : (mindW W5.drew x er).frozen? ⟨w.heap.size, 3,none⟩ = false := M5.frozen 3
 obtain ⟨W6,hW6⟩ : ∃ W6,mindW W5.drew x er = W6 := ⟨_,rfl⟩
 rw [hW6] at hmi M5 M7 b0 b1 b2 b3 c0 c1 c2 c3 f0 f1 f2 f3
 have HW6 : Hid (mindW W5.drew x er = W6) := hW6
 have HW5 : Hid (w1.alloc (.cells #[.int .i64 (v.a : Int), .int .i64 (v.b : Int), .int .i64 (v.c : Int), .int .i64 (v.d : Int)] 34) = W5) := hW5
 have HM5 : Hid (Blk W6 w.heap.size 34 #[.int .i64 0, .int .i64 0, .int .i64 0, .int .i64 0]) := M5
 have HK : Hid (∀ W',Off (fun k => k = w.heap.size) W6 W' → W'.cell? ⟨w1.heap.size, 0,none⟩ = some (.int .i64 (v.a : Int)) ∧ W'.cell? ⟨w1.heap.size, 1,none⟩ = some (.int .i64 (v.b : Int)) ∧ W'.cell? ⟨w1.heap.size, 2,none⟩ = some (.int .i64 (v.c : Int)) ∧ W'.cell? ⟨w1.heap.size, 3,none⟩ = some (.int .i64 (v.d : Int))) := fun W' ho => by
  have M8 : Blk W' w1.heap.size 34 (boxC v) := (ho.block _ M7.lt (by omega)).trans M7
  exact ⟨M8.cell 0,M8.cell 1,M8.cell 2,M8.cell 3⟩
 have HO5 : Hid (Off (fun k => w.heap.size ≤ k) w1 W5.drew) := Off.drew o5
 have HO1 : Hid (Off A.F w w1) := (Off.of_below hb0).trans ho1
 clear hW6 hW5 M5 M7 oM B7 B5 hx5 o5 B1 hx1 ho1 hx0 B0 href hfi hb0 HW0
 go_region_held3 (fun W' => W'.cell? ⟨w1.heap.size, 0,none⟩ = some (.int .i64 (v.a : Int)) ∧ W'.cell? ⟨w1.heap.size, 1,none⟩ = some (.int .i64 (v.b : Int)) ∧ W'.cell? ⟨w1.heap.size, 2,none⟩ = some (.int .i64 (v.c : Int)) ∧ W'.cell? ⟨w1.heap.size, 3,none⟩ = some (.int .i64 (v.d : Int)))
  (first
   | exact ⟨a0,a1,a2,a3⟩
   | exact ⟨b0,b1,b2,b3⟩
   | exact HK.out _ (((((Off.refl (fun k => k = w.heap.size) _).setCell _ (.inl rfl)).setCell _ (.inl rfl)).setCell _ (.inl rfl)).setCell _ (.inl rfl))
   | go_keep)
  ((go_at_call 60; refine hmi.mono ?_; rintro e w6 ⟨rfl,rfl⟩))
 go_wp2
 obtain ⟨qb,qo⟩ := put4 HM5.out (.int .i64 (v.a : Int)) (.int .i64 (v.b : Int)) (.int .i64 (v.c : Int)) (.int .i64 (v.d : Int))
 have d0 := qb.cell 0
 have d1 := qb.cell 1
 have d2 := qb.cell 2
 have d3 := qb.cell 3
 refine bodyPost_ret (v := .tuple #[.agg (boxC v), .int .i64 er]) (by simp [results,Tryz.results66,go_sem,d0,d1,d2,d3]) rfl ⟨rfl,w1,W5.drew,hP1,HO1.out,HO5.out, ?_⟩
 rw [HW6.out]
 exact qo.mono (fun k _ h => by omega)
set_option maxRecDepth 100000 in
set_option maxHeartbeats 2000000 in
theorem icount_go (w : World) (x t : Nat) (hx : IdxB w x t false) (n er : Int) (P : World → Prop)
  (hcount : Calls Tryz.prog 96 #[.pointer (some ⟨x, 0,none⟩)] w fun e w' => e = .returned (.tuple #[.int .i64 n, .int .i64 er]) ∧ IdxB w' x t false ∧ P w') :
  Calls Tryz.prog 67 #[.pointer (some ⟨x, 0,none⟩)] w fun e w' => e = .returned (.tuple #[.int .i64 n, .int .i64 er]) ∧ ∃ w1,P w1 ∧ w' = mindW w1 x er := by
 have c1 : w.cell? ⟨x, 1,none⟩ = some (.bool false) := hx.cell 1
 clear hx
 go_enter Tryz.func67,Tryz.ntmps67
 go_wp2_with (first
  | (go_at_call 96; refine hcount.mono ?_; rintro e w1 ⟨rfl,hx1,hP1⟩; have hmi := mind_any w1 x t false hx1 er)
  | (go_at_call 60; refine hmi.mono ?_; rintro e w4 ⟨rfl,rfl⟩))
 go_ret2
 exact ⟨rfl,w1,hP1,rfl⟩
end
end Go.Proofs.YtdgbgmffpcooeaaGreat
