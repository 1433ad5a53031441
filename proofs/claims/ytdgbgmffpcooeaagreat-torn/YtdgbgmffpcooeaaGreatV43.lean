/- Kp1 -/
import Derived.Test.YtdgbgmffpcooeaaGreatV05
import Derived.Deep.DeepCutAuto
namespace Go.Proofs.YtdgbgmffpcooeaaGreat
open Go.RowKit Go.Lib
section
set_option maxHeartbeats 400000 in
theorem number_any (c : Int) (w : World) (h : (Lit.int .i64 c).wf = true) :
  Calls Tryz.prog 43 #[.int .i64 c] w fun e w' => (∃ k : Nat,k < 400 ∧ e = .returned (.int .i64 (k : Int))) ∧ w' = w := by
 have hp := pick_any c 1073741824 w (by omega) h
 rw [show ((1073741824 : Nat) : Int) = 1073741824 from rfl] at hp
 go_enter Tryz.func43,Tryz.ntmps43
 go_wp2_with (go_at_call 24; refine hp.mono ?_; rintro e w1 ⟨⟨k,hk,rfl⟩,rfl⟩)
 go_ret
 exact ⟨⟨k % 400,by omega,by simp⟩,rfl⟩
theorem put4b {W : World} {B4 : Nat} {z0 z1 z2 z3 : Value} (h4 : Blk W B4 34 #[z0,z1,z2,z3]) (v0 v1 v2 v3 : Value) :
  Blk ((((W.setCell ⟨B4, 0,none⟩ v0).setCell ⟨B4, 1,none⟩ v1).setCell ⟨B4, 2,none⟩ v2).setCell ⟨B4, 3,none⟩ v3) B4 34 #[v0,v1,v2,v3] ∧ Off (fun k => k = B4) W ((((W.setCell ⟨B4, 0,none⟩ v0).setCell ⟨B4, 1,none⟩ v1).setCell ⟨B4, 2,none⟩ v2).setCell ⟨B4, 3,none⟩ v3) :=
 ⟨(((h4.set 0 v0).set 1 v1).set 2 v2).set 3 v3,((((Off.refl (fun k => k = B4) W).setCell v0 (.inl rfl)).setCell v1 (.inl rfl)).setCell v2 (.inl rfl)).setCell v3 (.inl rfl)⟩
set_option maxRecDepth 100000 in
set_option maxHeartbeats 2000000 in
theorem rect_any (w : World) (c : Int) (h : (Lit.int .i64 c).wf = true) :
  Calls Tryz.prog 26 #[.int .i64 c] w fun e w' => (∃ v : Box,v.ok ∧ e = .returned (.agg #[.int .i64 v.a, .int .i64 v.b, .int .i64 v.c, .int .i64 v.d])) ∧ Below w.heap.size w w' := by
 have hp := pick_any c 1125899906842624 (w.alloc (.cells #[.int .i64 0, .int .i64 0, .int .i64 0, .int .i64 0] 34)) (by omega) h
 rw [show ((1125899906842624 : Nat) : Int) = 1125899906842624 from rfl] at hp
 go_enter Tryz.func26,Tryz.ntmps26
 go_upto_region 2 with (go_at_call 24; refine hp.mono ?_; rintro e w1 ⟨⟨k,hk,rfl⟩,rfl⟩)
 clear hp
 have h6 : k / 19 % 6 = 0 ∨ k / 19 % 6 = 1 ∨ k / 19 % 6 = 2 ∨ k / 19 % 6 = 3 ∨ k / 19 % 6 = 4 ∨ k / 19 % 6 = 5 := by omega
 have h7 : k / 29 % 6 = 0 ∨ k / 29 % 6 = 1 ∨ k / 29 % 6 = 2 ∨ k / 29 % 6 = 3 ∨ k / 29 % 6 = 4 ∨ k / 29 % 6 = 5 := by omega
 by_cases h3 : k % 3 = 0
 ·have h3' : (k : Int) % 3 = 0 := by omega
  go_upto_region 7 with fail
  go_cut [6] (fun s6 wx => ∃ a : Nat,a ≤ 65536 ∧ s6 = .int .i64 (a : Int) ∧ Below (w.heap.size + 1) (w.alloc (.cells #[.int .i64 0, .int .i64 0, .int .i64 0, .int .i64 0] 34)) wx)
  case first =>
   rcases h6 with h | h | h | h | h | h
   ·have h' : (k : Int) / 19 % 6 = 0 := by omega
    go_wp2
    go_meet
    exact ⟨0,by omega,by simp,(Below.refl _ _).alloc (by simp) _⟩
   ·have h' : (k : Int) / 19 % 6 = 1 := by omega
    go_wp2
    go_meet
    exact ⟨1,by omega,by simp,(Below.refl _ _).alloc (by simp) _⟩
   ·have h' : (k : Int) / 19 % 6 = 2 := by omega
    go_wp2
    go_meet
    exact ⟨3,by omega,by simp,(Below.refl _ _).alloc (by simp) _⟩
   ·have h' : (k : Int) / 19 % 6 = 3 := by omega
    go_wp2
    go_meet
    exact ⟨k / 17 % 50,by omega,by simp,(Below.refl _ _).alloc (by simp) _⟩
   ·have h' : (k : Int) / 19 % 6 = 4 := by omega
    go_wp2
    go_meet
    exact ⟨k / 17 % 3000,by omega,by simp,(Below.refl _ _).alloc (by simp) _⟩
   ·have h' : (k : Int) / 19 % 6 = 5 := by omega
    go_wp2
    go_meet
    exact ⟨65536,by omega,by simp,(Below.refl _ _).alloc (by simp) _⟩
  case rest =>
   obtain ⟨W1,rfl⟩ : ∃ W1,W1 = wc := ⟨_,rfl⟩
   obtain ⟨a,ha,rfl,hb1⟩ := hcut
   have HB1 : Hid _ := hb1
   clear hb1 h6
   go_upto_region 8 with fail
   go_cut [7] (fun s7 wx => ∃ b : Nat,b ≤ 65536 ∧ s7 = .int .i64 (b : Int) ∧ Below W1.heap.size W1 wx)
   case first =>
    rcases h7 with h | h | h | h | h | h
    ·have h' : (k : Int) / 29 % 6 = 0 := by omega
     go_wp2
     go_meet
     exact ⟨0,by omega,by simp,(Below.refl _ _).alloc (by simp) _⟩
    ·have h' : (k : Int) / 29 % 6 = 1 := by omega
     go_wp2
     go_meet
     exact ⟨1,by omega,by simp,(Below.refl _ _).alloc (by simp) _⟩
    ·have h' : (k : Int) / 29 % 6 = 2 := by omega
     go_wp2
     go_meet
     exact ⟨3,by omega,by simp,(Below.refl _ _).alloc (by simp) _⟩
    ·have h' : (k : Int) / 29 % 6 = 3 := by omega
     go_wp2
     go_meet
     exact ⟨k / 23 % 50,by omega,by simp,(Below.refl _ _).alloc (by simp) _⟩
    ·have h' : (k : Int) / 29 % 6 = 4 := by omega
     go_wp2
     go_meet
     exact ⟨k / 23 % 3000,by omega,by simp,(Below.refl _ _).alloc (by simp) _⟩
    ·have h' : (k : Int) / 29 % 6 = 5 := by omega
     go_wp2
     go_meet
     exact ⟨65536,by omega,by simp,(Below.refl _ _).alloc (by simp) _⟩
   case rest =>
    obtain ⟨b,hb,rfl,hb2⟩ := hcut
    have hsz := HB1.out.size
    simp only [World.size_alloc] at hsz
    have B0 : Blk (w.alloc (.cells #[.int .i64 0, .int .i64 0, .int .i64 0, .int .i64 0] 34)) w.heap.size 34 #[.int .i64 0, .int .i64 0, .int .i64 0, .int .i64 0] := Blk.new w 34 _
    have B2 := (B0.below HB1.out (by omega)).below hb2 (by omega)
    have hbel : Below w.heap.size w wc := (((Below.refl _ w).alloc (Nat.le_refl _) _).trans (HB1.out.mono (by omega))).trans (hb2.mono (by omega))
    obtain ⟨X,hX,hX2⟩ : ∃ X : Nat, 32760 + (k : Int) / 11 % 16 = (X : Int) ∧ X < 65536 := ⟨32760 + k / 11 % 16,by omega,by omega⟩
    obtain ⟨Y,hY,hY2⟩ : ∃ Y : Nat, 32760 + (k : Int) / 13 % 16 = (Y : Int) ∧ Y < 65536 := ⟨32760 + k / 13 % 16,by omega,by omega⟩
    rw [hX,hY]
    have m1 : min ((X : Int) + (a : Int)) 65535 = ((min (X + a) 65535 : Nat) : Int) := by omega
    have m2 : min ((Y : Int) + (b : Int)) 65535 = ((min (Y + b) 65535 : Nat) : Int) := by omega
    clear hX hY h7 h3 h3'
    have c0 : wc.cell? ⟨w.heap.size, 0,none⟩ = some (.int .i64 0) := B2.cell 0
    have c1 : wc.cell? ⟨w.heap.size, 1,none⟩ = some (.int .i64 0) := B2.cell 1
    have c2 : wc.cell? ⟨w.heap.size, 2,none⟩ = some (.int .i64 0) := B2.cell 2
    have c3 : wc.cell? ⟨w.heap.size, 3,none⟩ = some (.int .i64 0) := B2.cell 3
    have f0 : wc.frozen? ⟨w.heap.size, 0,none⟩ = false := B2.frozen 0
    have f1 : wc.frozen? ⟨w.heap.size, 1,none⟩ = false := B2.frozen 1
    have f2 : wc.frozen? ⟨w.heap.size, 2,none⟩ = false := B2.frozen 2
    have f3 : wc.frozen? ⟨w.heap.size, 3,none⟩ = false := B2.frozen 3
    have HB2 : Hid _ := B2
    clear B2 B0 hb2 HB1
    go_wp2
    obtain ⟨k4,ko⟩ := put4b HB2.out (.int .i64 (X : Int)) (.int .i64 (Y : Int)) (.int .i64 ((min (X + a) 65535 : Nat) : Int)) (.int .i64 ((min (Y + b) 65535 : Nat) : Int))
    have d0 := k4.cell 0
    have d1 := k4.cell 1
    have d2 := k4.cell 2
    have d3 := k4.cell 3
    simp only [List.getElem?_toArray,List.getElem?_cons_zero,List.getElem?_cons_succ] at d0 d1 d2 d3
    refine bodyPost_ret (v := .agg #[.int .i64 (X : Int), .int .i64 (Y : Int), .int .i64 ((min (X + a) 65535 : Nat) : Int), .int .i64 ((min (Y + b) 65535 : Nat) : Int)]) (by simp [results,Tryz.results26,go_sem,d0,d1,d2,d3]) rfl ?_
    exact ⟨⟨⟨X,Y,min (X + a) 65535,min (Y + b) 65535⟩,⟨by simp only; omega,by simp only; omega,by simp only; omega,by simp only; omega⟩,rfl⟩,hbel.trans (ko.below (by have := hbel.size; omega) (fun k h => by omega))⟩
 ·have h3' : ¬ (k : Int) % 3 = 0 := by omega
  go_upto_region 7 with fail
  go_cut [6] (fun s6 wx => ∃ a : Nat,a ≤ 65536 ∧ s6 = .int .i64 (a : Int) ∧ Below (w.heap.size + 1) (w.alloc (.cells #[.int .i64 0, .int .i64 0, .int .i64 0, .int .i64 0] 34)) wx)
  case first =>
   rcases h6 with h | h | h | h | h | h
   ·have h' : (k : Int) / 19 % 6 = 0 := by omega
    go_wp2
    go_meet
    exact ⟨0,by omega,by simp,(Below.refl _ _).alloc (by simp) _⟩
   ·have h' : (k : Int) / 19 % 6 = 1 := by omega
    go_wp2
    go_meet
    exact ⟨1,by omega,by simp,(Below.refl _ _).alloc (by simp) _⟩
   ·have h' : (k : Int) / 19 % 6 = 2 := by omega
    go_wp2
    go_meet
    exact ⟨3,by omega,by simp,(Below.refl _ _).alloc (by simp) _⟩
   ·have h' : (k : Int) / 19 % 6 = 3 := by omega
    go_wp2
    go_meet
    exact ⟨k / 17 % 50,by omega,by simp,(Below.refl _ _).alloc (by simp) _⟩
   ·have h' : (k : Int) / 19 % 6 = 4 := by omega
    go_wp2
    go_meet
    exact ⟨k / 17 % 3000,by omega,by simp,(Below.refl _ _).alloc (by simp) _⟩
   ·have h' : (k : Int) / 19 % 6 = 5 := by omega
    go_wp2
    go_meet
    exact ⟨65536,by omega,by simp,(Below.refl _ _).alloc (by simp) _⟩
  case rest =>
   obtain ⟨W1,rfl⟩ : ∃ W1,W1 = wc := ⟨_,rfl⟩
   obtain ⟨a,ha,rfl,hb1⟩ := hcut
   have HB1 : Hid _ := hb1
   clear hb1 h6
   go_upto_region 8 with fail
   go_cut [7] (fun s7 wx => ∃ b : Nat,b ≤ 65536 ∧ s7 = .int .i64 (b : Int) ∧ Below W1.heap.size W1 wx)
   case first =>
    rcases h7 with h | h | h | h | h | h
    ·have h' : (k : Int) / 29 % 6 = 0 := by omega
     go_wp2
     go_meet
     exact ⟨0,by omega,by simp,(Below.refl _ _).alloc (by simp) _⟩
    ·have h' : (k : Int) / 29 % 6 = 1 := by omega
     go_wp2
     go_meet
     exact ⟨1,by omega,by simp,(Below.refl _ _).alloc (by simp) _⟩
    ·have h' : (k : Int) / 29 % 6 = 2 := by omega
     go_wp2
     go_meet
     exact ⟨3,by omega,by simp,(Below.refl _ _).alloc (by simp) _⟩
    ·have h' : (k : Int) / 29 % 6 = 3 := by omega
     go_wp2
     go_meet
     exact ⟨k / 23 % 50,by omega,by simp,(Below.refl _ _).alloc (by simp) _⟩
    ·have h' : (k : Int) / 29 % 6 = 4 := by omega
     go_wp2
     go_meet
     exact ⟨k / 23 % 3000,by omega,by simp,(Below.refl _ _).alloc (by simp) _⟩
    ·have h' : (k : Int) / 29 % 6 = 5 := by omega
     go_wp2
     go_meet
     exact ⟨65536,by omega,by simp,(Below.refl _ _).alloc (by simp) _⟩
   case rest =>
    obtain ⟨b,hb,rfl,hb2⟩ := hcut
    have hsz := HB1.out.size
    simp only [World.size_alloc] at hsz
    have B0 : Blk (w.alloc (.cells #[.int .i64 0, .int .i64 0, .int .i64 0, .int .i64 0] 34)) w.heap.size 34 #[.int .i64 0, .int .i64 0, .int .i64 0, .int .i64 0] := Blk.new w 34 _
    have B2 := (B0.below HB1.out (by omega)).below hb2 (by omega)
    have hbel : Below w.heap.size w wc := (((Below.refl _ w).alloc (Nat.le_refl _) _).trans (HB1.out.mono (by omega))).trans (hb2.mono (by omega))
    obtain ⟨X,hX,hX2⟩ : ∃ X : Nat,(k : Int) % 65536 = (X : Int) ∧ X < 65536 := ⟨k % 65536,by omega,by omega⟩
    obtain ⟨Y,hY,hY2⟩ : ∃ Y : Nat,(k : Int) / 7 % 65536 = (Y : Int) ∧ Y < 65536 := ⟨k / 7 % 65536,by omega,by omega⟩
    rw [hX,hY]
    have m1 : min ((X : Int) + (a : Int)) 65535 = ((min (X + a) 65535 : Nat) : Int) := by omega
    have m2 : min ((Y : Int) + (b : Int)) 65535 = ((min (Y + b) 65535 : Nat) : Int) := by omega
    clear hX hY h7 h3 h3'
    have c0 : wc.cell? ⟨w.heap.size, 0,none⟩ = some (.int .i64 0) := B2.cell 0
    have c1 : wc.cell? ⟨w.heap.size, 1,none⟩ = some (.int .i64 0) := B2.cell 1
    have c2 : wc.cell? ⟨w.heap.size, 2,none⟩ = some (.int .i64 0) := B2.cell 2
    have c3 : wc.cell? ⟨w.heap.size, 3,none⟩ = some (.int .i64 0) := B2.cell 3
    have f0 : wc.frozen? ⟨w.heap.size, 0,none⟩ = false := B2.frozen 0
    have f1 : wc.frozen? ⟨w.heap.size, 1,none⟩ = false := B2.frozen 1
    have f2 : wc.frozen? ⟨w.heap.size, 2,none⟩ = false := B2.frozen 2
    have f3 : wc.frozen? ⟨w.heap.size, 3,none⟩ = false := B2.frozen 3
    have HB2 : Hid _ := B2
    clear B2 B0 hb2 HB1
    go_wp2
    obtain ⟨k4,ko⟩ := put4b HB2.out (.int .i64 (X : Int)) (.int .i64 (Y : Int)) (.int .i64 ((min (X + a) 65535 : Nat) : Int)) (.int .i64 ((min (Y + b) 65535 : Nat) : Int))
    have d0 := k4.cell 0
    have d1 := k4.cell 1
    have d2 := k4.cell 2
    have d3 := k4.cell 3
    simp only [List.getElem?_toArray,List.getElem?_cons_zero,List.getElem?_cons_succ] at d0 d1 d2 d3
    refine bodyPost_ret (v := .agg #[.int .i64 (X : Int), .int .i64 (Y : Int), .int .i64 ((min (X + a) 65535 : Nat) : Int), .int .i64 ((min (Y + b) 65535 : Nat) : Int)]) (by simp [results,Tryz.results26,go_sem,d0,d1,d2,d3]) rfl ?_
    exact ⟨⟨⟨X,Y,min (X + a) 65535,min (Y + b) 65535⟩,⟨by simp only; omega,by simp only; omega,by simp only; omega,by simp only; omega⟩,rfl⟩,hbel.trans (ko.below (by have := hbel.size; omega) (fun k h => by omega))⟩
end
end Go.Proofs.YtdgbgmffpcooeaaGreat
