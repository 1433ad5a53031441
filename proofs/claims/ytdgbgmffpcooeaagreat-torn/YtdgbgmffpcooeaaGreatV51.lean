/- Tn2 -/
import Derived.Test.YtdgbgmffpcooeaaGreatV50
import Derived.Deep.CutBlock
namespace Go.Proofs.YtdgbgmffpcooeaaGreat
open Go.RowKit Go.Lib
section
set_option maxRecDepth 100000 in
set_option maxHeartbeats 1000000 in
theorem right2_any (a b c d : Int) (w : World) :
  Calls Tryz.prog 56 #[.agg #[.int .i64 a, .int .i64 b, .int .i64 c, .int .i64 d]] w fun e w' => e = .returned (.bool (rightB a b c d)) ∧ Below w.heap.size w w' := by
 have hs : (¬ 0 ≤ a) ∨ (0 ≤ a ∧ ¬ a ≤ c) ∨ (0 ≤ a ∧ a ≤ c ∧ ¬ c < 65536) ∨ (0 ≤ a ∧ a ≤ c ∧ c < 65536 ∧ ¬ 0 ≤ b) ∨ (0 ≤ a ∧ a ≤ c ∧ c < 65536 ∧ 0 ≤ b ∧ ¬ b ≤ d) ∨ (0 ≤ a ∧ a ≤ c ∧ c < 65536 ∧ 0 ≤ b ∧ b ≤ d ∧ ¬ d < 65536) ∨ (0 ≤ a ∧ a ≤ c ∧ c < 65536 ∧ 0 ≤ b ∧ b ≤ d ∧ d < 65536) := by omega
 rcases hs with h1 | ⟨h1,h2⟩ | ⟨h1,h2,h3⟩ | ⟨h1,h2,h3,h4⟩ | ⟨h1,h2,h3,h4,h5⟩ | ⟨h1,h2,h3,h4,h5,h6⟩ | ⟨h1,h2,h3,h4,h5,h6⟩
 all_goals
  go_enter Tryz.func56,Tryz.ntmps56
  go_wp2
  go_ret
  refine ⟨ret_bool ?_,(Below.refl _ _).alloc (Nat.le_refl _) _⟩
  unfold rightB
  simp only [Bool.true_eq,Bool.false_eq,decide_eq_true_eq,decide_eq_false_iff_not]
  omega
structure FallR where
 ma : Option Addr
 ml : Nat
 mc : Nat
 nn : Int
 ka : Option Addr
 kl : Nat
 kc : Nat
 early : Int
 kind : Int
 id : Int
 a : Int
 b : Int
 c : Int
 d : Int
abbrev fallC (F : FallR) : Array Value := #[.slice F.ma F.ml F.mc, .int .i64 F.nn, .slice F.ka F.kl F.kc, .int .i64 F.early, .int .i64 F.kind, .int .i64 F.id, .int .i64 F.a, .int .i64 F.b, .int .i64 F.c, .int .i64 F.d]
def wantE (dd : Bool) (F : FallR) : Int := rawE dd (pickI F.kind 5) F.id (rightB F.a F.b F.c F.d)
set_option maxRecDepth 100000 in
set_option maxHeartbeats 4000000 in
theorem refused_any (w : World) (N : Nat → Prop) (G p X n : Nat) (sv : Value) (room : Int) (hGw : Blk w G 62 (gameC p X sv room)) (dd : Bool) (tb tb' : List (Int × Box)) (hSw : Stt w N p X n dd tb tb') (F : FallR) (wk : (Lit.int .i64 F.kind).wf = true) :
  Calls Tryz.prog 54 #[.pointer (some ⟨G, 0,none⟩), .agg (fallC F), .bool dd] w fun e w' => e = .returned (.tuple #[.bool true, .bool (decide (wantE dd F ≠ 8 ∧ wantE dd F ≠ 6))]) ∧ CalmW N w w' ∧ Stt w' N p X n (dd || decide (wantE dd F = 4)) tb tb' := by
 obtain ⟨W0,hW0⟩ : ∃ W0,w.alloc (.cells (fallC F) 75) = W0 := ⟨_,rfl⟩
 have hb0 : Below w.heap.size w W0 := by rw [← hW0]; exact (Below.refl _ w).alloc (Nat.le_refl _) _
 have B0 : Blk W0 w.heap.size 75 (fallC F) := by rw [← hW0]; exact Blk.new w 75 _
 have hG : Blk W0 G 62 (gameC p X sv room) := (hb0.block G hGw.lt).trans hGw
 have hS := hSw.below hb0
 have HW0 : Hid (w.alloc (.cells (fallC F) 75) = W0) := hW0
 have HC0 : Hid (CalmW N w W0) := CalmW.below hb0
 have hpk := pick_eq F.kind 5 W0 (by omega) wk
 have hk5 := pickI_lt F.kind 5 (by omega)
 have hwd : wantE dd F = rawE dd (pickI F.kind 5) F.id (rightB F.a F.b F.c F.d) := rfl
 obtain ⟨kk,hkk⟩ : ∃ kk,pickI F.kind 5 = kk := ⟨_,rfl⟩
 rw [hkk] at hpk hk5 hwd
 rw [hwd]
 have qX : W0.cell? ⟨G, 1,none⟩ = some (.pointer (some ⟨X, 0,none⟩)) := hG.cell 1
 have q4 : W0.cell? ⟨w.heap.size, 4,none⟩ = some (.int .i64 F.kind) := B0.cell 4
 have q5 : W0.cell? ⟨w.heap.size, 5,none⟩ = some (.int .i64 F.id) := B0.cell 5
 have q6 : W0.cell? ⟨w.heap.size, 6,none⟩ = some (.int .i64 F.a) := B0.cell 6
 have q7 : W0.cell? ⟨w.heap.size, 7,none⟩ = some (.int .i64 F.b) := B0.cell 7
 have q8 : W0.cell? ⟨w.heap.size, 8,none⟩ = some (.int .i64 F.c) := B0.cell 8
 have q9 : W0.cell? ⟨w.heap.size, 9,none⟩ = some (.int .i64 F.d) := B0.cell 9
 have HS : Hid (Stt W0 N p X n dd tb tb') := hS
 have HB0 : Hid (Blk W0 w.heap.size 75 (fallC F)) := B0
 have HG0 : Hid (Blk W0 G 62 (gameC p X sv room)) := hG
 have hmx : Tryz.prog.follows .mixedOrders = true := by kernel_rfl
 have HK : Hid (∀ W',CalmW N W0 W' → W'.cell? ⟨G, 1,none⟩ = some (.pointer (some ⟨X, 0,none⟩)) ∧ W'.cell? ⟨w.heap.size, 5,none⟩ = some (.int .i64 F.id) ∧ W'.cell? ⟨w.heap.size, 6,none⟩ = some (.int .i64 F.a) ∧ W'.cell? ⟨w.heap.size, 7,none⟩ = some (.int .i64 F.b) ∧ W'.cell? ⟨w.heap.size, 8,none⟩ = some (.int .i64 F.c) ∧ W'.cell? ⟨w.heap.size, 9,none⟩ = some (.int .i64 F.d)) := fun W' hC => by
  have b := hC.blk HB0.out (by unfold own5; omega)
  have g := hC.blk HG0.out (by unfold own5; omega)
  exact ⟨g.cell 1,b.cell 5,b.cell 6,b.cell 7,b.cell 8,b.cell 9⟩
 clear hW0 hGw hSw hS hG B0 hb0 hkk hwd wk
 go_enter Tryz.func54,Tryz.ntmps54
 go_upto_region 1 with fail
 rw [HW0.out]
 clear HW0
 go_upto_block 0 with (go_at_call 24; refine hpk.mono ?_; rintro e w9 ⟨rfl,rfl⟩)
 go_cut [8, 9] (fun s8 s9 wx => s8 = .int .i64 (rawE dd kk F.id (rightB F.a F.b F.c F.d)) ∧ s9 = .bool true ∧ CalmW N w9 wx ∧ Stt wx N p X n (dd || decide (rawE dd kk F.id (rightB F.a F.b F.c F.d) = 4)) tb tb')
 case first =>
  have hb9 : Below w9.heap.size w9 w9.drew := (Below.refl _ w9).drew
  obtain rfl | rfl | rfl | rfl | rfl : kk = 0 ∨ kk = 1 ∨ kk = 2 ∨ kk = 3 ∨ kk = 4 := by omega
  ·have hc := raw_put (HS.out.below hb9) F.id F.a F.b F.c F.d
   go_upto_region 9 with fail
   go_region_held3 (fun W' => W'.cell? ⟨G, 1,none⟩ = some (.pointer (some ⟨X, 0,none⟩)) ∧ W'.cell? ⟨w.heap.size, 5,none⟩ = some (.int .i64 F.id) ∧ W'.cell? ⟨w.heap.size, 6,none⟩ = some (.int .i64 F.a) ∧ W'.cell? ⟨w.heap.size, 7,none⟩ = some (.int .i64 F.b) ∧ W'.cell? ⟨w.heap.size, 8,none⟩ = some (.int .i64 F.c) ∧ W'.cell? ⟨w.heap.size, 9,none⟩ = some (.int .i64 F.d))
    (first
     | exact ⟨qX,q5,q6,q7,q8,q9⟩
     | exact HK.out _ hC1
     | go_keep)
    ((go_at_call 10; refine hc.mono ?_; rintro e w1 ⟨rfl,hC1',hS1⟩; have hC1 : CalmW N w9 w1 := (CalmW.below hb9).trans hC1'))
   go_wp2
   go_meet
   exact ⟨rfl,rfl,hC1,hS1⟩
  ·have hc := raw_del (HS.out.below hb9) F.id (rightB F.a F.b F.c F.d)
   go_upto_region 11 with fail
   go_region_held3 (fun W' => W'.cell? ⟨G, 1,none⟩ = some (.pointer (some ⟨X, 0,none⟩)) ∧ W'.cell? ⟨w.heap.size, 5,none⟩ = some (.int .i64 F.id))
    (first
     | exact ⟨qX,q5⟩
     | exact ⟨(HK.out _ hC1).1,(HK.out _ hC1).2.1⟩
     | go_keep)
    ((go_at_call 35; refine hc.mono ?_; rintro e w1 ⟨rfl,hC1',hS1⟩; have hC1 : CalmW N w9 w1 := (CalmW.below hb9).trans hC1'))
   go_wp2
   go_meet
   exact ⟨rfl,rfl,hC1,hS1⟩
  ·have hz : boxC zeroBox = #[.int .i64 0, .int .i64 0, .int .i64 0, .int .i64 0] := rfl
   have hba : Below w9.heap.size w9 ((w9.alloc (.cells #[.int .i64 0, .int .i64 0, .int .i64 0, .int .i64 0] 34)).drew) := ((Below.refl _ w9).alloc (Nat.le_refl _) _).drew
   have hget := raw_get (HS.out.below hb9) F.id (rightB F.a F.b F.c F.d)
   have hget2 := raw_get (HS.out.below hba) F.id (rightB F.a F.b F.c F.d)
   rw [hz] at hget hget2
   have heq := eq34 0 0 0 0 0 0 0 0
   rw [decide_eq_true rfl] at heq
   have hBa : Blk ((w9.alloc (.cells #[.int .i64 0, .int .i64 0, .int .i64 0, .int .i64 0] 34)).drew) w9.heap.size 34 #[.int .i64 0, .int .i64 0, .int .i64 0, .int .i64 0] := (Blk.new w9 34 _).drew
   have qXl : G < w9.heap.size := HG0.out.lt
   have q5l : w.heap.size < w9.heap.size := HB0.out.lt
   have HK2 : Hid (∀ W',CalmW N w9 W' → W'.cell? ⟨G, 1,none⟩ = some (.pointer (some ⟨X, 0,none⟩)) ∧ W'.cell? ⟨w.heap.size, 5,none⟩ = some (.int .i64 F.id)) := fun W' hC => ⟨(HK.out W' hC).1,(HK.out W' hC).2.1⟩
   clear hz
   go_upto_region 13 with fail
   go_region_held3 (fun W' => W'.cell? ⟨G, 1,none⟩ = some (.pointer (some ⟨X, 0,none⟩)) ∧ W'.cell? ⟨w.heap.size, 5,none⟩ = some (.int .i64 F.id))
    (first
     | exact ⟨qX,q5⟩
     | exact HK2.out _ hC3'
     | exact HK2.out _ (CalmW.below ((Below.refl _ w9).alloc (Nat.le_refl _) _))
     | exact HK2.out _ (hC3'.trans (CalmW.below ((Below.refl _ w3).alloc (Nat.le_refl _) _)))
     | exact HK2.out _ (hC3'.new (B := w9.heap.size) (((((Off.refl (fun k => k = w9.heap.size) _).setCell _ (.inl rfl)).setCell _ (.inl rfl)).setCell _ (.inl rfl)).setCell _ (.inl rfl)) (Nat.le_refl _))
     | go_keep)
    (first
     | (go_at_call 37; refine hget.mono ?_; rintro e w3 ⟨rfl,hC3,hS3⟩; have hC3' : CalmW N w9 w3 := (CalmW.below hb9).trans hC3)
     | (go_at_call 37; refine hget2.mono ?_; rintro e w3 ⟨rfl,hC3,hS3⟩; have hC3' : CalmW N w9 w3 := (CalmW.below hba).trans hC3; have k3 := hC3.blk hBa (by unfold own5; omega); have e0 : w3.cell? ⟨w9.heap.size, 0,none⟩ = some (.int .i64 0) := k3.cell 0; have e1 : w3.cell? ⟨w9.heap.size, 1,none⟩ = some (.int .i64 0) := k3.cell 1; have e2 : w3.cell? ⟨w9.heap.size, 2,none⟩ = some (.int .i64 0) := k3.cell 2; have e3 : w3.cell? ⟨w9.heap.size, 3,none⟩ = some (.int .i64 0) := k3.cell 3; have f0 : w3.frozen? ⟨w9.heap.size, 0,none⟩ = false := k3.frozen 0; have f1 : w3.frozen? ⟨w9.heap.size, 1,none⟩ = false := k3.frozen 1; have f2 : w3.frozen? ⟨w9.heap.size, 2,none⟩ = false := k3.frozen 2; have f3 : w3.frozen? ⟨w9.heap.size, 3,none⟩ = false := k3.frozen 3))
   ·go_wp2
    go_meet
    have hb4 : Below w3.heap.size w3 (w3.alloc (.cells #[.int .i64 0, .int .i64 0, .int .i64 0, .int .i64 0] 34)) := (Below.refl _ w3).alloc (Nat.le_refl _) _
    exact ⟨rfl,rfl,hC3'.trans (CalmW.below hb4),hS3.below hb4⟩
   ·go_wp2
    go_meet
    obtain ⟨qb,qo⟩ := put4 k3 (.int .i64 0) (.int .i64 0) (.int .i64 0) (.int .i64 0)
    exact ⟨rfl,rfl,hC3'.new qo (Nat.le_refl _),hS3.off k3 (by unfold own5; omega) (by decide) (by decide) qo⟩
  ·have hc := raw_win (HS.out.below hb9) F.id F.a F.b F.c F.d
   go_upto_region 17 with fail
   go_region_held3 (fun W' => W'.cell? ⟨G, 1,none⟩ = some (.pointer (some ⟨X, 0,none⟩)) ∧ W'.cell? ⟨w.heap.size, 6,none⟩ = some (.int .i64 F.a) ∧ W'.cell? ⟨w.heap.size, 7,none⟩ = some (.int .i64 F.b) ∧ W'.cell? ⟨w.heap.size, 8,none⟩ = some (.int .i64 F.c) ∧ W'.cell? ⟨w.heap.size, 9,none⟩ = some (.int .i64 F.d))
    (first
     | exact ⟨qX,q6,q7,q8,q9⟩
     | exact ⟨(HK.out _ hC1).1,(HK.out _ hC1).2.2⟩
     | go_keep)
    ((go_at_call 11; refine hc.mono ?_; rintro e w1 ⟨rfl,hC1',hS1⟩; have hC1 : CalmW N w9 w1 := (CalmW.below hb9).trans hC1'))
   go_wp2
   go_meet
   exact ⟨rfl,rfl,hC1,hS1⟩
  ·have hc := raw_cnt HS.out F.id (rightB F.a F.b F.c F.d)
   go_wp2_with (go_at_call 38; refine hc.mono ?_; rintro e w1 ⟨rfl,hC1,hS1⟩)
   go_meet
   exact ⟨rfl,rfl,hC1,hS1⟩
 case rest =>
  obtain ⟨rfl,rfl,hC,hS1⟩ := hcut
  obtain ⟨W1,rfl⟩ : ∃ W1,W1 = wc := ⟨_,rfl⟩
  have b1 := hC.blk HB0.out (by unfold own5; omega)
  have r5 : W1.cell? ⟨w.heap.size, 5,none⟩ = some (.int .i64 F.id) := b1.cell 5
  have r6 : W1.cell? ⟨w.heap.size, 6,none⟩ = some (.int .i64 F.a) := b1.cell 6
  have r7 : W1.cell? ⟨w.heap.size, 7,none⟩ = some (.int .i64 F.b) := b1.cell 7
  have r8 : W1.cell? ⟨w.heap.size, 8,none⟩ = some (.int .i64 F.c) := b1.cell 8
  have r9 : W1.cell? ⟨w.heap.size, 9,none⟩ = some (.int .i64 F.d) := b1.cell 9
  have hri := right2_any F.a F.b F.c F.d W1
  have HF : Hid (∀ W',Below W1.heap.size W1 W' → CalmW N w W' ∧ Stt W' N p X n (dd || decide (rawE dd kk F.id (rightB F.a F.b F.c F.d) = 4)) tb tb') := fun W' hb => ⟨(HC0.out.trans hC).trans (CalmW.below hb),hS1.below hb⟩
  have HB1 : Hid (Blk W1 w.heap.size 75 (fallC F)) := b1
  clear q4 q5 q6 q7 q8 q9 qX hpk hC hS1 b1
  have hcs : dd = true ∨ (dd = false ∧ kk < 3 ∧ F.id < 0) ∨ (dd = false ∧ kk < 3 ∧ ¬ F.id < 0 ∧ 4611686018427387904 < F.id) ∨ (dd = false ∧ kk = 0 ∧ ¬ F.id < 0 ∧ ¬ 4611686018427387904 < F.id ∧ rightB F.a F.b F.c F.d = true) ∨ (dd = false ∧ kk = 0 ∧ ¬ F.id < 0 ∧ ¬ 4611686018427387904 < F.id ∧ rightB F.a F.b F.c F.d = false) ∨ (dd = false ∧ (kk = 1 ∨ kk = 2) ∧ ¬ F.id < 0 ∧ ¬ 4611686018427387904 < F.id) ∨ (dd = false ∧ kk = 3 ∧ rightB F.a F.b F.c F.d = true) ∨ (dd = false ∧ kk = 3 ∧ rightB F.a F.b F.c F.d = false) ∨ (dd = false ∧ kk = 4) := by
   cases dd with
   | true => exact .inl rfl
   | false =>
    right
    by_cases h1 : F.id < 0 <;> by_cases h2 : 4611686018427387904 < F.id <;> cases rightB F.a F.b F.c F.d <;> simp [h1,h2] <;> omega
  have hidb : idB F.id = decide (¬ F.id < 0 ∧ ¬ 4611686018427387904 < F.id) := by
   unfold idB
   rw [Bool.eq_iff_iff]
   simp
  generalize hR : rightB F.a F.b F.c F.d = ri at hri hcs HF ⊢
  generalize hE : rawE dd kk F.id ri = er at HF ⊢
  have HE : Hid (rawE dd kk F.id ri = er) := hE
  have HE2 : Hid (rawE dd kk F.id (rightB F.a F.b F.c F.d) = er) := by
   rw [hR]
   exact hE
  clear hE hR
  rcases hcs with rfl | ⟨rfl,h1,h2⟩ | ⟨rfl,h1,h2,h3⟩ | ⟨rfl,rfl,h2,h3,rfl⟩ | ⟨rfl,rfl,h2,h3,rfl⟩ | ⟨rfl,h1 | h1,h2,h3⟩ | ⟨rfl,rfl,rfl⟩ | ⟨rfl,rfl,rfl⟩ | ⟨rfl,rfl⟩
  all_goals
   try subst h1
   have he := HE.out
   unfold rawE at he
   rw [hidb] at he
   simp [*] at he
   subst he
   clear HE hidb
   go_wp2_with (go_at_call 56; refine hri.mono ?_; rintro e w2 ⟨rfl,hb2⟩; have r5' : w2.cell? ⟨w.heap.size, 5,none⟩ = some (.int .i64 F.id) := Blk.cell (HB1.out.below hb2 HB1.out.lt) 5)
   go_ret2
   rw [HE2.out]
   exact ⟨rfl,HF.out _ hb2⟩
end
end Go.Proofs.YtdgbgmffpcooeaaGreat
