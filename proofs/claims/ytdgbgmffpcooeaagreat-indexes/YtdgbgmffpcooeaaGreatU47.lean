/- Xn1 Xm1 Xw0 Xd2 -/
import Derived.Test.YtdgbgmffpcooeaaGreatU46
namespace Go.Proofs.YtdgbgmffpcooeaaGreat
open Go.RowKit Go.Lib
section
set_option maxHeartbeats 1000000 in
theorem put_nil (w : World) (id a b c d : Int) : Calls Tryz.prog 10 #[.pointer none, .int .i64 id, .agg #[.int .i64 a, .int .i64 b, .int .i64 c, .int .i64 d]] w fun e w' => e = .returned (.int .i64 1) ∧ Below w.heap.size w w' := by
 go_enter Tryz.func10,Tryz.ntmps10
 go_wp2
 go_ret
 exact ⟨rfl,(Below.refl _ w).alloc (Nat.le_refl _) _⟩
theorem del_nil (w : World) (id : Int) : Calls Tryz.prog 35 #[.pointer none, .int .i64 id] w fun e w' => e = .returned (.int .i64 1) ∧ Below w.heap.size w w' := by
 go_enter Tryz.func35,Tryz.ntmps35
 go_wp2
 go_ret
 exact ⟨rfl,Below.refl _ w⟩
theorem count_nil (w : World) : Calls Tryz.prog 38 #[.pointer none] w fun e w' => e = .returned (.tuple #[.int .i64 0, .int .i64 1]) ∧ Below w.heap.size w w' := by
 go_enter Tryz.func38,Tryz.ntmps38
 go_wp2
 go_ret2
 exact ⟨rfl,Below.refl _ w⟩
set_option maxHeartbeats 1000000 in
theorem win_nil (w : World) (a b c d : Int) : Calls Tryz.prog 11 #[.pointer none, .agg #[.int .i64 a, .int .i64 b, .int .i64 c, .int .i64 d]] w fun e w' => e = .returned (.tuple #[.slice none 0 0, .int .i64 1]) ∧ Below w.heap.size w w' := by
 go_enter Tryz.func11,Tryz.ntmps11
 go_wp2
 go_ret2
 exact ⟨rfl,(Below.refl _ w).alloc (Nat.le_refl _) _⟩
theorem open_nil (w : World) : Calls Tryz.prog 21 #[.pointer none] w fun e w' => e = .returned (.tuple #[.pointer none, .int .i64 1]) ∧ Below w.heap.size w w' := by
 go_enter Tryz.func21,Tryz.ntmps21
 go_wp2
 go_ret2
 exact ⟨rfl,Below.refl _ w⟩
set_option maxHeartbeats 1000000 in
theorem rput_nil (w : World) (id a b c d : Int) : Calls Tryz.prog 34 #[.pointer none, .int .i64 id, .agg #[.int .i64 a, .int .i64 b, .int .i64 c, .int .i64 d]] w fun e w' => e = .returned (.int .i64 1) ∧ Below w.heap.size w w' := by
 have b1 := Blk.new w 34 #[.int .i64 a, .int .i64 b, .int .i64 c, .int .i64 d]
 have hb1 : Below w.heap.size w (w.alloc (.cells #[.int .i64 a, .int .i64 b, .int .i64 c, .int .i64 d] 34)) := (Below.refl _ w).alloc (Nat.le_refl _) _
 have hr := rright_any a b c d (w.alloc (.cells #[.int .i64 a, .int .i64 b, .int .i64 c, .int .i64 d] 34))
 have HB : Hid (Below w.heap.size w (w.alloc (.cells #[.int .i64 a, .int .i64 b, .int .i64 c, .int .i64 d] 34))) := hb1
 clear hb1 b1
 go_enter Tryz.func34,Tryz.ntmps34
 go_wp2_with (go_at_call 64; refine hr.mono ?_; rintro e w2 ⟨rfl,hb2⟩)
 go_ret
 exact ⟨rfl,HB.out.trans (hb2.mono HB.out.size)⟩
theorem rdel_nil (w : World) (id : Int) : Calls Tryz.prog 36 #[.pointer none, .int .i64 id] w fun e w' => e = .returned (.int .i64 1) ∧ Below w.heap.size w w' := by
 go_enter Tryz.func36,Tryz.ntmps36
 go_wp2
 go_ret
 exact ⟨rfl,Below.refl _ w⟩
set_option maxHeartbeats 1000000 in
theorem rwin_nil (w : World) (a b c d : Int) : Calls Tryz.prog 39 #[.pointer none, .agg #[.int .i64 a, .int .i64 b, .int .i64 c, .int .i64 d]] w fun e w' => e = .returned (.tuple #[.slice none 0 0, .int .i64 1]) ∧ Below w.heap.size w w' := by
 have hb1 : Below w.heap.size w (w.alloc (.cells #[.int .i64 a, .int .i64 b, .int .i64 c, .int .i64 d] 34)) := (Below.refl _ w).alloc (Nat.le_refl _) _
 have hr := rright_any a b c d (w.alloc (.cells #[.int .i64 a, .int .i64 b, .int .i64 c, .int .i64 d] 34))
 have HB : Hid (Below w.heap.size w (w.alloc (.cells #[.int .i64 a, .int .i64 b, .int .i64 c, .int .i64 d] 34))) := hb1
 clear hb1
 go_enter Tryz.func39,Tryz.ntmps39
 go_wp2_with (go_at_call 64; refine hr.mono ?_; rintro e w2 ⟨rfl,hb2⟩)
 go_ret2
 exact ⟨rfl,HB.out.trans (hb2.mono HB.out.size)⟩
set_option maxRecDepth 100000 in
set_option maxHeartbeats 1000000 in
theorem get_nil (w : World) (id : Int) : Calls Tryz.prog 37 #[.pointer none, .int .i64 id] w fun e w' => e = .returned (.tuple #[.agg (boxC zeroBox), .int .i64 1]) ∧ Below w.heap.size w w' := by
 obtain ⟨W0,hW0⟩ : ∃ W0,w.alloc (.cells #[.int .i64 0, .int .i64 0, .int .i64 0, .int .i64 0] 34) = W0 := ⟨_,rfl⟩
 have hb0 : Below w.heap.size w W0 := by rw [← hW0]; exact (Below.refl _ w).alloc (Nat.le_refl _) _
 have B0 : Blk W0 w.heap.size 34 #[.int .i64 0, .int .i64 0, .int .i64 0, .int .i64 0] := by rw [← hW0]; exact Blk.new w 34 _
 have HW0 : Hid (w.alloc (.cells #[.int .i64 0, .int .i64 0, .int .i64 0, .int .i64 0] 34) = W0) := hW0
 have HB : Hid (Below w.heap.size w W0) := hb0
 have HB0 : Hid (Blk W0 w.heap.size 34 #[.int .i64 0, .int .i64 0, .int .i64 0, .int .i64 0]) := B0
 have c0 : W0.cell? ⟨w.heap.size, 0,none⟩ = some (.int .i64 0) := B0.cell 0
 have c1 : W0.cell? ⟨w.heap.size, 1,none⟩ = some (.int .i64 0) := B0.cell 1
 have c2 : W0.cell? ⟨w.heap.size, 2,none⟩ = some (.int .i64 0) := B0.cell 2
 have c3 : W0.cell? ⟨w.heap.size, 3,none⟩ = some (.int .i64 0) := B0.cell 3
 have f0 : W0.frozen? ⟨w.heap.size, 0,none⟩ = false := B0.frozen 0
 have f1 : W0.frozen? ⟨w.heap.size, 1,none⟩ = false := B0.frozen 1
 have f2 : W0.frozen? ⟨w.heap.size, 2,none⟩ = false := B0.frozen 2
 have f3 : W0.frozen? ⟨w.heap.size, 3,none⟩ = false := B0.frozen 3
 clear hW0 hb0 B0
 go_enter Tryz.func37,Tryz.ntmps37
 go_upto_region 1 with fail
 rw [HW0.out]
 go_wp2
 obtain ⟨qb,qo⟩ := put4c HB0.out (.int .i64 0) (.int .i64 0) (.int .i64 0) (.int .i64 0)
 have d0 := qb.cell 0
 have d1 := qb.cell 1
 have d2 := qb.cell 2
 have d3 := qb.cell 3
 exact bodyPost_ret (v := .tuple #[.agg #[.int .i64 0, .int .i64 0, .int .i64 0, .int .i64 0], .int .i64 1]) (by simp [results,Tryz.results37,go_sem,d0,d1,d2,d3]) rfl ⟨rfl,HB.out.trans (qo.below HB.out.size (fun k h => by omega))⟩
set_option maxRecDepth 100000 in
set_option maxHeartbeats 1000000 in
theorem rget_nil (w : World) (id : Int) : Calls Tryz.prog 33 #[.pointer none, .int .i64 id] w fun e w' => e = .returned (.tuple #[.agg (boxC zeroBox), .int .i64 1]) ∧ Below w.heap.size w w' := by
 obtain ⟨W0,hW0⟩ : ∃ W0,w.alloc (.cells #[.int .i64 0, .int .i64 0, .int .i64 0, .int .i64 0] 34) = W0 := ⟨_,rfl⟩
 have hb0 : Below w.heap.size w W0 := by rw [← hW0]; exact (Below.refl _ w).alloc (Nat.le_refl _) _
 have B0 : Blk W0 w.heap.size 34 #[.int .i64 0, .int .i64 0, .int .i64 0, .int .i64 0] := by rw [← hW0]; exact Blk.new w 34 _
 have HW0 : Hid (w.alloc (.cells #[.int .i64 0, .int .i64 0, .int .i64 0, .int .i64 0] 34) = W0) := hW0
 have HB : Hid (Below w.heap.size w W0) := hb0
 have HB0 : Hid (Blk W0 w.heap.size 34 #[.int .i64 0, .int .i64 0, .int .i64 0, .int .i64 0]) := B0
 have c0 : W0.cell? ⟨w.heap.size, 0,none⟩ = some (.int .i64 0) := B0.cell 0
 have c1 : W0.cell? ⟨w.heap.size, 1,none⟩ = some (.int .i64 0) := B0.cell 1
 have c2 : W0.cell? ⟨w.heap.size, 2,none⟩ = some (.int .i64 0) := B0.cell 2
 have c3 : W0.cell? ⟨w.heap.size, 3,none⟩ = some (.int .i64 0) := B0.cell 3
 have f0 : W0.frozen? ⟨w.heap.size, 0,none⟩ = false := B0.frozen 0
 have f1 : W0.frozen? ⟨w.heap.size, 1,none⟩ = false := B0.frozen 1
 have f2 : W0.frozen? ⟨w.heap.size, 2,none⟩ = false := B0.frozen 2
 have f3 : W0.frozen? ⟨w.heap.size, 3,none⟩ = false := B0.frozen 3
 clear hW0 hb0 B0
 go_enter Tryz.func33,Tryz.ntmps33
 go_upto_region 1 with fail
 rw [HW0.out]
 go_wp2
 obtain ⟨qb,qo⟩ := put4c HB0.out (.int .i64 0) (.int .i64 0) (.int .i64 0) (.int .i64 0)
 have d0 := qb.cell 0
 have d1 := qb.cell 1
 have d2 := qb.cell 2
 have d3 := qb.cell 3
 exact bodyPost_ret (v := .tuple #[.agg #[.int .i64 0, .int .i64 0, .int .i64 0, .int .i64 0], .int .i64 1]) (by simp [results,Tryz.results33,go_sem,d0,d1,d2,d3]) rfl ⟨rfl,HB.out.trans (qo.below HB.out.size (fun k h => by omega))⟩
def pickN (c : Int) (n : Nat) : Nat := ((if c < 0 then -(c + 1) else c).tmod (n : Int)).toNat
theorem pickN_lt (c : Int) (n : Nat) (hn : 0 < n) : pickN c n < n := by
 have h2 := Int.tmod_lt_of_pos (if c < 0 then -(c + 1) else c) (show (0 : Int) < (n : Int) by omega)
 unfold pickN; omega
theorem pick_law (w : World) (c : Int) (n : Nat) (hn : 0 < n) (hc : -9223372036854775808 ≤ c ∧ c ≤ 9223372036854775807) :
  Calls Tryz.prog 12 #[.int .i64 c, .int .i64 (n : Int)] w fun e w' => e = .returned (.int .i64 (pickN c n : Int)) ∧ w' = w := by
 have key : ∀ d : Int, 0 ≤ d → d.tmod (n : Int) = ((d.tmod (n : Int)).toNat : Int) := fun d hd => by
  have h1 := Int.tmod_nonneg (n : Int) hd
  omega
 have hn0 : (n : Int) ≠ 0 := by omega
 by_cases h : c < 0
 ·have hp : pickN c n = ((-(c + 1)).tmod (n : Int)).toNat := by unfold pickN; rw [if_pos h]
  have hj := key (-(c + 1)) (by omega)
  rw [← hp] at hj
  generalize pickN c n = j at hj ⊢
  clear hp key
  go_enter Tryz.func12,Tryz.ntmps12
  go_wp2
  go_ret
  exact ⟨rfl,rfl⟩
 ·have h0 : decide (c < 0) = false := by simp; omega
  have hp : pickN c n = (c.tmod (n : Int)).toNat := by unfold pickN; rw [if_neg h]
  have hj := key c (by omega)
  rw [← hp] at hj
  generalize pickN c n = j at hj ⊢
  clear hp key
  go_enter Tryz.func12,Tryz.ntmps12
  go_wp2
  go_ret
  exact ⟨rfl,rfl⟩
end
section
theorem PD.base0 {W : World} {base : Nat} {A : PA} {s : PS} (h : PD W base A s) : PD W 0 A s := ⟨⟨Nat.zero_le _,Nat.zero_le _,Nat.zero_le _,Nat.zero_le _⟩,h.blkP,h.blkQ,h.sec,h.map,h.n1,h.n2⟩
theorem PD.les {W : World} {base : Nat} {A : PA} {s : PS} (h : PD W base A s) : ∀ k,A.F k → base ≤ k := fun k hk => by
 obtain ⟨a,b,c,d⟩ := h.le
 rcases hk with rfl | rfl | rfl | rfl
 ·exact a
 ·exact b
 ·exact c
 ·exact d
def MadeP (w : World) (t p X n R : Nat) (f : Value) (F : Nat → Prop) (w' : World) : Prop :=
 LiveI w' w.heap.size t p X n R f (.slice none 0 0) [] F ∧ (w.heap.size ≤ t ∧ w.heap.size ≤ X ∧ w.heap.size ≤ R ∧ (∀ k,F k → w.heap.size ≤ k) ∧ ∀ g,f.ownBlock = some g → w.heap.size ≤ g) ∧ Below w.heap.size w w'
set_option maxRecDepth 100000 in
set_option maxHeartbeats 2000000 in
theorem made_any (w : World) (ad : Int) (had : -9223372036854775808 ≤ ad ∧ ad ≤ 9223372036854775807) :
  Calls Tryz.prog 9 #[.int .i64 ad] w fun e w' => ∃ t p X n R f F,e = .returned (.tuple #[.pointer (some ⟨t, 0,none⟩), .bool true]) ∧ MadeP w t p X n R f F w' := by
 have hpk := pick_law w ad 3841 (by omega) had
 have hpl := pickN_lt ad 3841 (by omega)
 obtain ⟨k,hk⟩ : ∃ k,pickN ad 3841 = k := ⟨_,rfl⟩
 rw [hk] at hpk hpl
 rw [show ((3841 : Nat) : Int) = 3841 from rfl] at hpk
 obtain ⟨n,hn⟩ : ∃ n : Nat,n = 256 + k := ⟨_,rfl⟩
 have hnI : (256 : Int) + (k : Int) = (n : Int) := by omega
 have hn1 : 256 ≤ n := by omega
 have hn2 : n ≤ 4096 := by omega
 have hnd := qnewd_ok w n hn1 hn2
 have HOP : Hid (∀ w1 A,PD w1 w.heap.size A (PS.fresh n (fun _ => zeros 256)) → Below w.heap.size w w1 → Calls Tryz.prog 21 #[.pointer (some ⟨A.p, 0,none⟩)] w1 fun e w2 => ∃ X' f',e = .returned (.tuple #[.pointer (some ⟨X', 0,none⟩), .int .i64 0]) ∧ CalmW (fun k => k < w.heap.size) w1 w2 ∧ LiveV w2 (fun k => k < w.heap.size) A.p X' n f' [] ∧ w.heap.size ≤ X' ∧ ∀ g,f'.ownBlock = some g → w.heap.size ≤ g) := fun w1 A hP hb => by
  refine (v_open_on (N := fun k => k < w.heap.size) hP.base0 (tr_fresh n) idx_nil ⟨rfl,rfl⟩ ⟨fun k hk h => by have := hP.les k hk; omega,fun k hk => by have := hb.size; omega⟩).mono ?_
  rintro e w2 ⟨hc,X',f',rfl,hL,hf,hx⟩
  exact ⟨X',f',rfl,hc,hL,Nat.le_trans hb.size hx,fun g hg => Nat.le_trans hb.size (hf g hg)⟩
 have q1 : ((n : Int) - 200).tdiv 4 = (((n - 200) / 4 : Nat) : Int) := by
  rw [show (n : Int) - 200 = ((n - 200 : Nat) : Int) by omega]
  rw [Int.tdiv_eq_ediv_of_nonneg (by omega)]
  omega
 have q2 : ((n : Int) - 200) / 4 = (((n - 200) / 4 : Nat) : Int) := by omega
 obtain ⟨rm,hrm⟩ : ∃ rm : Int,(((n - 200) / 4 : Nat) : Int) = rm := ⟨_,rfl⟩
 rw [hrm] at q1 q2
 have HRM : Hid ((((n - 200) / 4 : Nat) : Int) = rm) := hrm
 clear hk hn hpl had hrm
 go_enter Tryz.func9,Tryz.ntmps9
 go_upto_region 2 with (go_at_call 12; refine hpk.mono ?_; rintro e wp ⟨rfl,hwp⟩; have hwp' := hwp.symm; clear hwp; subst hwp')
 go_upto_region 5 with (go_at_call 29; refine hnd.mono ?_; rintro e w1 ⟨A,rfl,hP,hb1⟩)
 have hop := HOP.out w1 A hP hb1
 have HB1 : Hid (Below w.heap.size w w1) := hb1
 clear hP hb1 hnd hpk
 go_upto_region 6 with (go_at_call 21; refine hop.mono ?_; rintro e w2 ⟨X,f,rfl,hC,hL,hX,hf⟩)
 have hB2 : Below w.heap.size w w2 := ⟨hC.os.trans HB1.out.os,hC.tape.trans HB1.out.tape,hC.output.trans HB1.out.output,Nat.le_trans HB1.out.size hC.size,fun k hk => (hC.low k hk (Nat.lt_of_lt_of_le hk HB1.out.size)).trans (HB1.out.block k hk)⟩
 have HB2 : Hid (Below w.heap.size w w2) := hB2
 have HL : Hid (LiveV w2 (fun k => k < w.heap.size) A.p X n f []) := hL
 have HF : Hid (∀ g,f.ownBlock = some g → w.heap.size ≤ g) := hf
 have HX : Hid (w.heap.size ≤ X) := hX
 clear hop hC hL hX hf hB2
 go_wp2
 go_ret2
 obtain ⟨F,h1,h2,h3⟩ := HL.out.own
 have hb3 : Below w2.heap.size w2 ((w2.alloc (.cells #[.slice none 0 0] 88)).alloc (.cells #[.pointer (some ⟨A.p, 0,none⟩), .pointer (some ⟨X, 0,none⟩), .pointer (some ⟨w2.heap.size, 0,none⟩), .int .i64 rm] 31)) := ((Below.refl _ w2).alloc (Nat.le_refl _) _).alloc (by simp) _
 have ho : Off (fun _ => False) w2 _ := Off.of_below hb3
 have hs := HB2.out.size
 have bR := (Blk.new w2 88 #[.slice none 0 0]).alloc (.cells #[.pointer (some ⟨A.p, 0,none⟩), .pointer (some ⟨X, 0,none⟩), .pointer (some ⟨w2.heap.size, 0,none⟩), .int .i64 rm] 31)
 have bT := Blk.new (w2.alloc (.cells #[.slice none 0 0] 88)) 31 #[.pointer (some ⟨A.p, 0,none⟩), .pointer (some ⟨X, 0,none⟩), .pointer (some ⟨w2.heap.size, 0,none⟩), .int .i64 rm]
 rw [World.size_alloc] at bT
 refine ⟨w2.heap.size + 1,A.p,X,n,w2.heap.size,f,F,rfl,⟨?_,h1.keep ho (fun _ _ h => h) (fun h => h) (fun _ _ h => h),h2.keep ho (fun _ _ h => h),⟨bR,World.ownsRow_nil _ _ _ _⟩,Nat.zero_le _⟩,⟨by omega,HX.out,hs,fun k hk => Nat.not_lt.1 (h3 k hk),HF.out⟩,HB2.out.trans (hb3.mono hs)⟩
 show Blk _ _ 31 #[.pointer (some ⟨A.p, 0,none⟩), .pointer (some ⟨X, 0,none⟩), .pointer (some ⟨w2.heap.size, 0,none⟩), .int .i64 (((n - 200) / 4 : Nat) : Int)]
 rw [HRM.out]
 exact bT
end
section
theorem info23 : (Tryz.prog.info? 23).map (fun i => (i.zero,i.size,i.bytes)) = some (some (.pointer none), 1, 8) := by kernel_rfl
structure Ixe where
 t : Nat
 G : Nat → Prop
def rowX (L : List Ixe) : List Value := L.map fun e => .pointer (some ⟨e.t, 0,none⟩)
structure Sts (w : World) (B i : Nat) (v : Value) (L : List Ixe) (OB : Nat → Prop) (W : World) : Prop where
 row : W.ownsRow w.heap.size 23 1 v L.length (rowX L)
 len : L.length ≤ i
 ix : ∀ e ∈ L,IxOk W w.heap.size e.t e.G
 pw : L.Pairwise fun a b => ∀ k,a.G k → ¬ b.G k
 vG : ∀ j,v.ownBlock = some j → (∀ e ∈ L, ¬ e.G j) ∧ ¬ OB j
 bk : Bks W w.heap.size B i OB
 dis : ∀ e ∈ L, ∀ k,e.G k → ¬ OB k
 bl : Below w.heap.size w W
section
variable {w W W' : World} {B i : Nat} {v : Value} {L : List Ixe} {OB : Nat → Prop}
theorem Sts.below (h : Sts w B i v L OB W) (hb : Below W.heap.size W W') : Sts w B i v L OB W' :=
 ⟨own_below h.row hb,h.len,fun e he => (h.ix e he).below hb,h.pw,h.vG,h.bk.below hb,h.dis,h.bl.trans (hb.mono h.bl.size)⟩
theorem Sts.idle (h : Sts w B i v L OB W) : Sts w B (i + 1) v L OB W := ⟨h.row,by have := h.len; omega,h.ix,h.pw,h.vG,h.bk.more (by omega),h.dis,h.bl⟩
theorem Sts.add (h : Sts w B i v L OB W) (e : Ixe) (hI : IxOk W w.heap.size e.t e.G) (h1 : ∀ a ∈ L, ∀ k,a.G k → ¬ e.G k) (h2 : ∀ k,e.G k → ¬ OB k) (h3 : ∀ j,v.ownBlock = some j → ¬ e.G j) {ob : Obj} {w2 : World} {g cap : Nat} (hg : (W.alloc ob).grownBy w2 v.ownBlock) (hat : v.ownBlock = some g ∨ g = W.heap.size + 1) (hC : w2.ownsRow w.heap.size 23 1 (.slice (some ⟨g, 0,none⟩) (L.length + 1) cap) (L.length + 1) (rowX L ++ [.pointer (some ⟨e.t, 0,none⟩)])) :
  Sts w B (i + 1) (.slice (some ⟨g, 0,none⟩) (L.length + 1) cap) (L ++ [e]) OB w2 := by
 have ho : Off (fun j => v.ownBlock = some j) W w2 := ((Off.refl _ W).alloc ob).grown hg (fun j hj => .inl hj)
 have hs := ho.size
 have hlt : ∀ a ∈ L ++ [e], ∀ k,a.G k → k < W.heap.size := fun a ha k hk => by
  rcases List.mem_append.1 ha with g1 | g1
  ·exact ((h.ix a g1).2.1 k hk).2
  ·rw [List.mem_singleton.1 g1] at hk; exact (hI.2.1 k hk).2
 have hvn : ∀ a ∈ L ++ [e], ∀ j,v.ownBlock = some j → ¬ a.G j := fun a ha j hj => by
  rcases List.mem_append.1 ha with g1 | g1
  ·exact (h.vG j hj).1 a g1
  ·rw [List.mem_singleton.1 g1]; exact h3 j hj
 have hdis : ∀ a ∈ L ++ [e], ∀ k,a.G k → ¬ OB k := fun a ha => by
  rcases List.mem_append.1 ha with g1 | g1
  ·exact h.dis a g1
  ·rw [List.mem_singleton.1 g1]; exact h2
 refine ⟨by rw [List.length_append,show rowX (L ++ [e]) = rowX L ++ [.pointer (some ⟨e.t, 0,none⟩)] by simp [rowX]]; exact hC,by rw [List.length_append]; have := h.len; simp; omega,fun a ha => ?_, ?_,fun j hj => ?_,(h.bk.off ho (fun k hk hj => (h.vG k hj).2 hk)).more (by omega),hdis,h.bl.trans (ho.below h.bl.size (fun j hj => (own_tagged h.row hj).1))⟩
 ·have hx : IxOk W w.heap.size a.t a.G := by
   rcases List.mem_append.1 ha with g1 | g1
   ·exact h.ix a g1
   ·rw [List.mem_singleton.1 g1]; exact hI
  exact hx.off ho (fun k hk hj => hvn a ha k hj hk)
 ·rw [List.pairwise_append]
  exact ⟨h.pw,List.pairwise_singleton _ _,fun a ha b hb => by rw [List.mem_singleton.1 hb]; exact h1 a ha⟩
 ·simp only [Value.ownBlock,Option.some.injEq] at hj
  subst hj
  rcases hat with hh | hh
  ·exact ⟨fun a ha => hvn a ha g hh,(h.vG g hh).2⟩
  ·exact ⟨fun a ha hk => by have := hlt a ha g hk; omega,fun hk => by have := (h.bk.lt g hk).2; omega⟩
theorem Sts.done (h : Sts w B i v L OB W) {j : Nat} (hj : j < L.length) {w' : World} (hd : DoesP W w.heap.size B i L[j].t L[j].G OB w') : ∃ L' OB',Sts w B (i + 1) v L' OB' w' := by
 obtain ⟨G',OB',d1,d2,d3,d4,d5,d6⟩ := hd
 have hm := List.getElem_mem hj
 have hs := d4.size
 have hget : ∀ a ∈ L.set j ⟨L[j].t,G'⟩,a = ⟨L[j].t,G'⟩ ∨ ∃ b, ∃ hb : b < L.length,b ≠ j ∧ a = L[b] := fun a ha => by
  obtain ⟨b,hb,rfl⟩ := List.mem_iff_getElem.1 ha
  rw [List.length_set] at hb
  by_cases e : j = b
  ·subst e; left; rw [List.getElem_set_self]
  ·right; exact ⟨b,hb,fun h => e h.symm,by rw [List.getElem_set_ne e]⟩
 have hpw : ∀ b, ∀ hb : b < L.length,b ≠ j → ∀ k,L[b].G k → ¬ L[j].G k := fun b hb hne k hk hk2 => by
  rcases Nat.lt_or_ge b j with g | g
  ·exact List.pairwise_iff_getElem.1 h.pw b j hb hj g k hk hk2
  ·exact List.pairwise_iff_getElem.1 h.pw j b hj hb (by omega) k hk2 hk
 have hnew : ∀ b, ∀ hb : b < L.length,b ≠ j → ∀ k,L[b].G k → ¬ G' k := fun b hb hne k hk hk2 => by
  rcases d5 k hk2 with g | g
  ·exact hpw b hb hne k hk g
  ·have := ((h.ix _ (List.getElem_mem hb)).2.1 k hk).2; omega
 have hvlt : ∀ g,v.ownBlock = some g → g < W.heap.size := fun g hg => own_lt2 h.row hg
 have hvn : ∀ g,v.ownBlock = some g → ¬ (L[j].G g ∨ OB g) := fun g hg hh => hh.elim ((h.vG g hg).1 _ hm) (h.vG g hg).2
 refine ⟨L.set j ⟨L[j].t,G'⟩,OB', ?_,by rw [List.length_set]; have := h.len; omega,fun a ha => ?_, ?_,fun g hg => ⟨fun a ha hk => ?_,fun hk => ?_⟩,d2,fun a ha k hk ho => ?_,h.bl.trans (d4.below h.bl.size (fun k hk => ?_))⟩
 ·have hr := own_offv h.row d4 hvn
  have e : rowX (L.set j ⟨L[j].t,G'⟩) = rowX L := by
   unfold rowX
   rw [List.map_set]
   apply List.ext_getElem?
   intro k
   by_cases e : j = k
   ·subst e
    rw [List.getElem?_set_self (by simpa using hj),List.getElem?_map,List.getElem?_eq_getElem hj]; rfl
   ·rw [List.getElem?_set_ne e]
  rw [List.length_set,e]; exact hr
 ·rcases hget a ha with rfl | ⟨b,hb,hne,rfl⟩
  ·exact d1
  ·exact (h.ix _ (List.getElem_mem hb)).off d4 (fun k hk hh => hh.elim (hpw b hb hne k hk) (h.dis _ (List.getElem_mem hb) k hk))
 ·rw [List.pairwise_iff_getElem]
  intro a b ha hb hab k hk
  rw [List.length_set] at ha hb
  by_cases e1 : j = a
  ·subst e1
   rw [List.getElem_set_self] at hk
   rw [List.getElem_set_ne (by omega)]
   exact fun hk2 => hnew b hb (by omega) k hk2 hk
  ·rw [List.getElem_set_ne e1] at hk
   by_cases e2 : j = b
   ·subst e2
    rw [List.getElem_set_self]
    exact hnew a ha (fun h => e1 h.symm) k hk
   ·rw [List.getElem_set_ne e2]
    exact List.pairwise_iff_getElem.1 h.pw a b ha hb hab k hk
 ·rcases hget a ha with rfl | ⟨b,hb,hne,rfl⟩
  ·rcases d5 g hk with hh | hh
   ·exact (h.vG g hg).1 _ hm hh
   ·have := hvlt g hg; omega
  ·exact (h.vG g hg).1 _ (List.getElem_mem hb) hk
 ·rcases d6 g hk with hh | hh
  ·exact (h.vG g hg).2 hh
  ·have := hvlt g hg; omega
 ·rcases hget a ha with rfl | ⟨b,hb,hne,rfl⟩
  ·exact d3 k hk ho
  ·rcases d6 k ho with hh | hh
   ·exact h.dis _ (List.getElem_mem hb) k hk hh
   ·have := ((h.ix _ (List.getElem_mem hb)).2.1 k hk).2; omega
 ·rcases hk with hk | hk
  ·exact ((h.ix _ hm).2.1 k hk).1
  ·exact (h.bk.lt k hk).1
end
theorem MadeP.ix {w W w' : World} {t p X n R : Nat} {f : Value} {F : Nat → Prop} (h : MadeP W t p X n R f F w') (hb : w.heap.size ≤ W.heap.size) : ∃ G : Nat → Prop,IxOk w' w.heap.size t G ∧ ∀ k,G k → W.heap.size ≤ k := by
 obtain ⟨hl,⟨l1,l2,l3,l4,l5⟩,hbl⟩ := h
 obtain ⟨⟨x,hX⟩,hft⟩ := hl.live.tag
 have hge : ∀ k,(k = t ∨ k = X ∨ k = R ∨ F k ∨ f.ownBlock = some k) → W.heap.size ≤ k := fun k hk => by
  rcases hk with rfl | rfl | rfl | hk | hk
  ·exact l1
  ·exact l2
  ·exact l3
  ·exact l4 k hk
  ·exact l5 k hk
 refine ⟨fun k => k = t ∨ k = X ∨ k = R ∨ F k ∨ f.ownBlock = some k,⟨.inl rfl,fun k hk => ⟨Nat.le_trans hb (hge k hk), ?_⟩,fun k cs hk hc => ?_, .inr ⟨p,X,n,R,f,_, [],F,⟨hl.blk,hl.live,hl.own,⟨hl.ref.blk,World.ownsRow_nil _ _ _ _⟩,hl.room⟩,⟨.inl rfl, .inr (.inl rfl), .inr (.inr (.inl rfl)),fun k hk => .inr (.inr (.inr (.inl hk))),fun k hk => .inr (.inr (.inr (.inr hk))),fun g hg => by cases hg⟩⟩⟩,hge⟩
 ·rcases hk with rfl | rfl | rfl | hk | hk
  ·exact hl.blk.lt
  ·exact hX.lt
  ·exact hl.ref.blk.lt
  ·exact hl.own.1 k hk
  ·exact hl.live.lt k hk
 ·rcases hk with rfl | rfl | rfl | hk | hk
  ·rw [show w'.heap[k]? = _ from hl.blk] at hc; simp at hc
  ·rw [show w'.heap[k]? = _ from hX] at hc; simp at hc
  ·rw [show w'.heap[k]? = _ from hl.ref.blk] at hc; simp at hc
  ·have := hl.own.2 k _ _ _ hk hc; revert this; unfold own5; omega
  ·obtain ⟨cs',hc'⟩ := hft k hk; rw [hc] at hc'; simp at hc'
theorem ix_none {w W : World} (hb : w.heap.size ≤ W.heap.size) : IxOk (W.alloc (.cells #[.pointer none, .pointer none, .pointer none, .int .i64 0] 31)) w.heap.size W.heap.size (fun k => k = W.heap.size) := by
 have b := Blk.new W 31 #[.pointer none, .pointer none, .pointer none, .int .i64 0]
 refine ⟨rfl,fun k hk => ⟨by omega,by rw [show k = W.heap.size from hk]; exact b.lt⟩,fun k cs hk hc => ?_, .inl b⟩
 rw [show k = W.heap.size from hk,show (W.alloc (.cells #[.pointer none, .pointer none, .pointer none, .int .i64 0] 31)).heap[W.heap.size]? = _ from b] at hc
 simp at hc
theorem bks_new (w W : World) (hb : w.heap.size ≤ W.heap.size) : Bks (W.alloc (.cells (bkI 0 0 (.slice none 0 0) (.slice none 0 0) (.slice none 0 0) (.slice none 0 0)) 44)) w.heap.size W.heap.size 0 (fun k => k = W.heap.size) := by
 have b := Blk.new W 44 (bkI 0 0 (.slice none 0 0) (.slice none 0 0) (.slice none 0 0) (.slice none 0 0))
 exact ⟨0, 0,_,_,_,_, [], [],⟨⟨hb,b,World.ownsRow_nil _ _ _ _,World.ownsRow_nil _ _ _ _,fun e he => (by cases he),fun e he => (by cases he)⟩,by simp,World.ownsRow_nil _ _ _ _,World.ownsRow_nil _ _ _ _,fun e he => (by cases he),fun j hj => (by cases hj),rfl,fun j hj => (by cases hj),fun j hj => (by cases hj),fun j hj => (by cases hj),fun j hj => (by cases hj),fun e he => (by cases he),fun j hj => ⟨by omega,by rw [show j = W.heap.size from hj]; exact b.lt⟩⟩,by omega,by simp,by omega⟩
theorem win37 : winL ⟨15, 12, 15, 12⟩ (tput 3 ⟨15, 0, 15, 65535⟩ (tput 7 ⟨10, 10, 20, 20⟩ [])) = [3, 7] := by decide
theorem len37 : (tput (7 : Int) (⟨10, 10, 20, 20⟩ : Box) []).length = 1 ∧ (tput (3 : Int) (⟨15, 0, 15, 65535⟩ : Box) (tput 7 ⟨10, 10, 20, 20⟩ [])).length = 2 := by decide
end
section
set_option maxRecDepth 100000 in
set_option maxHeartbeats 4000000 in
theorem does_win (w : World) (t B : Nat) (dv xv wv : Value) (rm : Int) (ht : Blk w t 31 #[dv,xv,wv, .int .i64 rm]) (wd ad : Int) (sd : ByteArray) (ak : Option Addr) (lk ck : Nat) (r1 r2 r3 r4 : Int) (L : List Int) (er : Int) (hL : L.length ≤ 1000) (M : Value → World → Prop) (R : World → Prop)
  (h1 : ∀ W,Below w.heap.size w W → Calls Tryz.prog 11 #[xv, .agg #[.int .i64 r1, .int .i64 r2, .int .i64 r3, .int .i64 r4]] W fun e w1 => ∃ v,e = .returned (.tuple #[v, .int .i64 er]) ∧ w1.ownsRow W.heap.size 3 1 v L.length (intsV L) ∧ Mild W w1 ∧ M v w1)
  (h2 : ∀ v w1 W,M v w1 → Below w1.heap.size w1 W → Calls Tryz.prog 39 #[wv, .agg #[.int .i64 r1, .int .i64 r2, .int .i64 r3, .int .i64 r4]] W fun e w2 => ∃ u,e = .returned (.tuple #[u, .int .i64 er]) ∧ w2.ownsRow W.heap.size 3 1 u L.length (intsV L) ∧ Below W.heap.size W w2)
  (h3 : ∀ v w1 W,M v w1 → Below w1.heap.size w1 W → Calls Tryz.prog 40 #[.pointer (some ⟨B, 0,none⟩),v] W fun e w3 => e = .returned (.tuple #[]) ∧ R w3) :
  Calls Tryz.prog 13 #[.pointer (some ⟨t, 0,none⟩), .pointer (some ⟨B, 0,none⟩), .agg (opC 17 wd ad sd ak lk ck r1 r2 r3 r4)] w fun e w' => e = .returned (.bool true) ∧ R w' := by
 unfold opC
 obtain ⟨W0,hW0⟩ : ∃ W0,w.alloc (.cells #[.int .i64 17, .int .i64 wd, .int .i64 ad, .string sd, .slice ak lk ck, .int .i64 r1, .int .i64 r2, .int .i64 r3, .int .i64 r4] 46) = W0 := ⟨_,rfl⟩
 have hb0 : Below w.heap.size w W0 := by rw [← hW0]; exact (Below.refl _ w).alloc (Nat.le_refl _) _
 have B0 : Blk W0 w.heap.size 46 #[.int .i64 17, .int .i64 wd, .int .i64 ad, .string sd, .slice ak lk ck, .int .i64 r1, .int .i64 r2, .int .i64 r3, .int .i64 r4] := by rw [← hW0]; exact Blk.new w 46 _
 have T0 : Blk W0 t 31 #[dv,xv,wv, .int .i64 rm] := (hb0.block t ht.lt).trans ht
 have HW0 : Hid (w.alloc (.cells #[.int .i64 17, .int .i64 wd, .int .i64 ad, .string sd, .slice ak lk ck, .int .i64 r1, .int .i64 r2, .int .i64 r3, .int .i64 r4] 46) = W0) := hW0
 have HB0 : Hid (Below w.heap.size w W0) := hb0
 have q0 : W0.cell? ⟨w.heap.size, 0,none⟩ = some (.int .i64 17) := B0.cell 0
 have HK : Hid (∀ W',Mild W0 W' → (W'.cell? ⟨w.heap.size, 2,none⟩ = some (.int .i64 ad) ∧ W'.cell? ⟨w.heap.size, 5,none⟩ = some (.int .i64 r1) ∧ W'.cell? ⟨w.heap.size, 6,none⟩ = some (.int .i64 r2) ∧ W'.cell? ⟨w.heap.size, 7,none⟩ = some (.int .i64 r3) ∧ W'.cell? ⟨w.heap.size, 8,none⟩ = some (.int .i64 r4)) ∧ (W'.cell? ⟨t, 0,none⟩ = some dv ∧ W'.cell? ⟨t, 1,none⟩ = some xv ∧ W'.cell? ⟨t, 2,none⟩ = some wv ∧ W'.cell? ⟨t, 3,none⟩ = some (.int .i64 rm)) ∧ w.heap.size < W'.heap.size ∧ t < W'.heap.size) := fun W' hM => by
  have b := hM.blk B0 (.inr (.inl rfl))
  have c := hM.blk T0 (.inl rfl)
  exact ⟨⟨b.cell 2,b.cell 5,b.cell 6,b.cell 7,b.cell 8⟩,⟨c.cell 0,c.cell 1,c.cell 2,c.cell 3⟩,b.lt,c.lt⟩
 obtain ⟨⟨c2,c5,c6,c7,c8⟩,⟨t0,t1,t2,t3⟩,hl0,hl1⟩ := HK.out W0 (Mild.below (Below.refl _ _))
 have hc := h1 W0.drew hb0.drew
 have HC2 : Hid (∀ v w1,M v w1 → Calls Tryz.prog 39 #[wv, .agg #[.int .i64 r1, .int .i64 r2, .int .i64 r3, .int .i64 r4]] w1.drew fun e w2 => ∃ u,e = .returned (.tuple #[u, .int .i64 er]) ∧ w2.ownsRow w1.drew.heap.size 3 1 u L.length (intsV L) ∧ Below w1.drew.heap.size w1.drew w2) := fun v w1 hm => h2 v w1 _ hm (Below.refl _ w1).drew
 have HC3 : Hid (∀ v w1 W,M v w1 → Below w1.heap.size w1 W → Calls Tryz.prog 40 #[.pointer (some ⟨B, 0,none⟩),v] W fun e w3 => e = .returned (.tuple #[]) ∧ R w3) := h3
 clear hW0 ht h1 h2 h3 B0 T0 hb0
 go_enter Tryz.func13,Tryz.ntmps13
 go_upto_region 3 with fail
 rw [HW0.out]
 go_upto_region 4 with fail
 go_region_held3 (fun W' => W'.cell? ⟨w.heap.size, 5,none⟩ = some (.int .i64 r1) ∧ W'.cell? ⟨w.heap.size, 6,none⟩ = some (.int .i64 r2) ∧ W'.cell? ⟨w.heap.size, 7,none⟩ = some (.int .i64 r3) ∧ W'.cell? ⟨w.heap.size, 8,none⟩ = some (.int .i64 r4) ∧ W'.cell? ⟨t, 1,none⟩ = some xv)
  (first
   | exact ⟨c5,c6,c7,c8,t1⟩
   | exact ⟨(HK.out _ ((Mild.below ((Below.refl _ W0).drew)).trans hM1)).1.2.1,(HK.out _ ((Mild.below ((Below.refl _ W0).drew)).trans hM1)).1.2.2.1,(HK.out _ ((Mild.below ((Below.refl _ W0).drew)).trans hM1)).1.2.2.2.1,(HK.out _ ((Mild.below ((Below.refl _ W0).drew)).trans hM1)).1.2.2.2.2,(HK.out _ ((Mild.below ((Below.refl _ W0).drew)).trans hM1)).2.1.2.1⟩
   | go_keep)
  ((go_at_call 11; refine hc.mono ?_; rintro e w1 ⟨v,rfl,hv1,hM1,hm⟩))
 have hM01 : Mild W0 w1 := (Mild.below ((Below.refl _ W0).drew)).trans hM1
 have hc2 := HC2.out v w1 hm
 obtain ⟨va,vc,rfl,_,_,_⟩ := own_shape hv1
 have HM : Hid (M (.slice va L.length vc) w1) := hm
 have HV1 : Hid (w1.ownsRow W0.drew.heap.size 3 1 (.slice va L.length vc) L.length (intsV L)) := hv1
 clear q0 c2 c5 c6 c7 c8 t0 t1 t2 t3 hl0 hl1 hM1 hm hv1 hc
 obtain ⟨⟨c2,c5,c6,c7,c8⟩,⟨t0,t1,t2,t3⟩,hl0,hl1⟩ := HK.out w1 hM01
 go_upto_region 5 with fail
 go_region_held3 (fun W' => W'.cell? ⟨w.heap.size, 5,none⟩ = some (.int .i64 r1) ∧ W'.cell? ⟨w.heap.size, 6,none⟩ = some (.int .i64 r2) ∧ W'.cell? ⟨w.heap.size, 7,none⟩ = some (.int .i64 r3) ∧ W'.cell? ⟨w.heap.size, 8,none⟩ = some (.int .i64 r4) ∧ W'.cell? ⟨t, 2,none⟩ = some wv)
  (first
   | exact ⟨c5,c6,c7,c8,t2⟩
   | exact ⟨(HK.out _ ((hM01.trans (Mild.below ((Below.refl _ w1).drew))).trans (Mild.below hB2))).1.2.1,(HK.out _ ((hM01.trans (Mild.below ((Below.refl _ w1).drew))).trans (Mild.below hB2))).1.2.2.1,(HK.out _ ((hM01.trans (Mild.below ((Below.refl _ w1).drew))).trans (Mild.below hB2))).1.2.2.2.1,(HK.out _ ((hM01.trans (Mild.below ((Below.refl _ w1).drew))).trans (Mild.below hB2))).1.2.2.2.2,(HK.out _ ((hM01.trans (Mild.below ((Below.refl _ w1).drew))).trans (Mild.below hB2))).2.1.2.2.1⟩
   | go_keep)
  ((go_at_call 39; refine hc2.mono ?_; rintro e w2 ⟨u,rfl,hu2,hB2⟩))
 have hB12 : Below w1.heap.size w1 w2 := (Below.refl _ w1).drew.trans hB2
 obtain ⟨ua,uc,rfl,_,_,_⟩ := own_shape hu2
 have HU2 : Hid (w2.ownsRow w1.drew.heap.size 3 1 (.slice ua L.length uc) L.length (intsV L)) := hu2
 have HV2 : Hid (w2.ownsRow W0.drew.heap.size 3 1 (.slice va L.length vc) L.length (intsV L)) := own_below HV1.out hB12
 have HB12 : Hid (Below w1.heap.size w1 w2) := hB12
 clear c2 c5 c6 c7 c8 t0 t1 t2 t3 hl0 hl1 hu2 hB2 hc2 hB12
 obtain ⟨N,hN⟩ : ∃ N,L.length = N := ⟨_,rfl⟩
 have HN : Hid (L.length = N) := hN
 rw [hN] at hL ⊢
 clear hN
 go_wp2
 go_loopw [27, 28] (fun s x wr => s = .bool true ∧ ∃ i : Nat,x = .int .i64 (i : Int) ∧ i ≤ N ∧ Below w2.heap.size w2 wr) (fun _ x _ => N - (intOf x).toNat)
 case atStart => exact ⟨by simp, 0,rfl,Nat.zero_le _,Below.refl _ _⟩
 case round =>
  obtain ⟨rfl,i,rfl,hi,hB⟩ := hrel
  have hs := hB.size
  by_cases hlt : i < N
  ·have hlt' : (i : Int) < (N : Int) := by omega
   have hlL : i < L.length := by rw [HN.out]; exact hlt
   obtain ⟨g,c1,e1,_,hg⟩ := HV2.out.form (by omega)
   obtain ⟨g',c2,e2,_,hg'⟩ := HU2.out.form (by omega)
   cases e1
   cases e2
   obtain ⟨x,hx⟩ : ∃ x,L[i]? = some x := ⟨_,List.getElem?_eq_getElem hlL⟩
   have a0 := (own_cell (own_below HV2.out hB) i (by omega)).1
   have b0 := (own_cell (own_below HU2.out hB) i (by omega)).1
   rw [List.getElem?_map,hx] at a0 b0
   have a1 : wr.cell? ⟨g,i,none⟩ = some (.int .i64 x) := a0
   have b1 : wr.cell? ⟨g',i,none⟩ = some (.int .i64 x) := b0
   have hgW : g < wr.heap.size := by omega
   have hgW' : g' < wr.heap.size := by omega
   clear hx a0 b0 hlL
   go_wp2
   go_quiet (fail)
   go_wp2
   go_roundw
   case rel => exact ⟨by simp,i + 1,by go_num,by omega,hB.trans ⟨rfl,rfl,rfl,Nat.le_refl _,fun _ _ => rfl⟩⟩
   case measure => simp [intOf]; omega
  ·have hlt' : decide ((i : Int) < (N : Int)) = false := by simp; omega
   have hlt2 : decide (i < N) = false := by simp; omega
   have hc3 := HC3.out _ w1 wr HM.out (HB12.out.trans (hB.mono HB12.out.size))
   rw [HN.out] at hc3
   go_wp2_with (go_at_call 40; refine hc3.mono ?_; rintro e w3 ⟨rfl,hR⟩)
   go_ret
   exact ⟨rfl,hR⟩
end
end Go.Proofs.YtdgbgmffpcooeaaGreat
