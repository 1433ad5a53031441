/- Nm2 Nm3 Xi1 Kp2 -/
import Derived.Test.YtdgbgmffpcooeaaGreatU41
namespace Go.Proofs.YtdgbgmffpcooeaaGreat
open Go.RowKit Go.Lib
section
set_option maxRecDepth 100000 in
set_option maxHeartbeats 2000000 in
theorem qput_go (w : World) (N : Nat → Prop) (X x : Nat) (hX : Blk w X 91 #[.pointer (some ⟨x, 0,none⟩)]) (id : Int) (va vb vc vd : Int) (R : Ending → World → Prop)
  (h : ∀ W,Below w.heap.size w W → Calls Tryz.prog 30 #[.pointer (some ⟨x, 0,none⟩), .int .i64 id, .agg #[.int .i64 va, .int .i64 vb, .int .i64 vc, .int .i64 vd]] W fun e w' => ∃ er : Int,e = .returned (.int .i64 er) ∧ CalmW N W w' ∧ R e w') :
  Calls Tryz.prog 10 #[.pointer (some ⟨X, 0,none⟩), .int .i64 id, .agg #[.int .i64 va, .int .i64 vb, .int .i64 vc, .int .i64 vd]] w R := by
 obtain ⟨W0,hW0⟩ : ∃ W0,w.alloc (.cells #[.int .i64 va, .int .i64 vb, .int .i64 vc, .int .i64 vd] 34) = W0 := ⟨_,rfl⟩
 have hb0 : Below w.heap.size w W0 := by rw [← hW0]; exact (Below.refl _ w).alloc (Nat.le_refl _) _
 have B0 : Blk W0 w.heap.size 34 #[.int .i64 va, .int .i64 vb, .int .i64 vc, .int .i64 vd] := by rw [← hW0]; exact Blk.new w 34 #[.int .i64 va, .int .i64 vb, .int .i64 vc, .int .i64 vd]
 have X0 : Blk W0 X 91 #[.pointer (some ⟨x, 0,none⟩)] := (hb0.block X hX.lt).trans hX
 have HW0 : Hid (w.alloc (.cells #[.int .i64 va, .int .i64 vb, .int .i64 vc, .int .i64 vd] 34) = W0) := hW0
 have hc := h W0.drew hb0.drew
 have q0 : W0.cell? ⟨w.heap.size, 0,none⟩ = some (.int .i64 va) := B0.cell 0
 have q1 : W0.cell? ⟨w.heap.size, 1,none⟩ = some (.int .i64 vb) := B0.cell 1
 have q2 : W0.cell? ⟨w.heap.size, 2,none⟩ = some (.int .i64 vc) := B0.cell 2
 have q3 : W0.cell? ⟨w.heap.size, 3,none⟩ = some (.int .i64 vd) := B0.cell 3
 have qX : W0.cell? ⟨X, 0,none⟩ = some (.pointer (some ⟨x, 0,none⟩)) := X0.cell 0
 have HK : Hid (∀ W',CalmW N W0.drew W' → W'.cell? ⟨X, 0,none⟩ = some (.pointer (some ⟨x, 0,none⟩)) ∧ W'.cell? ⟨w.heap.size, 0,none⟩ = some (.int .i64 va) ∧ W'.cell? ⟨w.heap.size, 1,none⟩ = some (.int .i64 vb) ∧ W'.cell? ⟨w.heap.size, 2,none⟩ = some (.int .i64 vc) ∧ W'.cell? ⟨w.heap.size, 3,none⟩ = some (.int .i64 vd)) := fun W' hC => by
  have b := hC.blk B0.drew (by unfold own5; omega)
  have bx := hC.blk X0.drew (by unfold own5; omega)
  exact ⟨bx.cell 0,b.cell 0,b.cell 1,b.cell 2,b.cell 3⟩
 clear hW0 h hX X0 B0 hb0
 go_enter Tryz.func10,Tryz.ntmps10
 go_upto_region 3 with fail
 rw [HW0.out]
 go_region_held3 (fun W' => W'.cell? ⟨X, 0,none⟩ = some (.pointer (some ⟨x, 0,none⟩)) ∧ W'.cell? ⟨w.heap.size, 0,none⟩ = some (.int .i64 va) ∧ W'.cell? ⟨w.heap.size, 1,none⟩ = some (.int .i64 vb) ∧ W'.cell? ⟨w.heap.size, 2,none⟩ = some (.int .i64 vc) ∧ W'.cell? ⟨w.heap.size, 3,none⟩ = some (.int .i64 vd))
  (first
   | exact ⟨qX,q0,q1,q2,q3⟩
   | exact HK.out _ hC1
   | go_keep)
  ((go_at_call 30; refine hc.mono ?_; rintro e w1 ⟨er,rfl,hC1,hR⟩))
 go_wp2
 exact hR
set_option maxHeartbeats 2000000 in
theorem qdel_go (w : World) (X x : Nat) (hX : Blk w X 91 #[.pointer (some ⟨x, 0,none⟩)]) (id : Int) (R : Ending → World → Prop)
  (h : Calls Tryz.prog 65 #[.pointer (some ⟨x, 0,none⟩), .int .i64 id] w fun e w' => ∃ er : Int,e = .returned (.int .i64 er) ∧ R e w') :
  Calls Tryz.prog 35 #[.pointer (some ⟨X, 0,none⟩), .int .i64 id] w R := by
 have qX : w.cell? ⟨X, 0,none⟩ = some (.pointer (some ⟨x, 0,none⟩)) := hX.cell 0
 clear hX
 go_enter Tryz.func35,Tryz.ntmps35
 go_wp2_with (go_at_call 65; refine h.mono ?_; rintro e w1 ⟨er,rfl,hR⟩)
 exact hR
set_option maxHeartbeats 2000000 in
theorem qcount_go (w : World) (X x : Nat) (hX : Blk w X 91 #[.pointer (some ⟨x, 0,none⟩)]) (R : Ending → World → Prop)
  (h : Calls Tryz.prog 67 #[.pointer (some ⟨x, 0,none⟩)] w fun e w' => ∃ n er : Int,e = .returned (.tuple #[.int .i64 n, .int .i64 er]) ∧ R e w') :
  Calls Tryz.prog 38 #[.pointer (some ⟨X, 0,none⟩)] w R := by
 have qX : w.cell? ⟨X, 0,none⟩ = some (.pointer (some ⟨x, 0,none⟩)) := hX.cell 0
 clear hX
 go_enter Tryz.func38,Tryz.ntmps38
 go_wp2_with (go_at_call 67; refine h.mono ?_; rintro e w1 ⟨n,er,rfl,hR⟩)
 exact hR
set_option maxRecDepth 100000 in
set_option maxHeartbeats 2000000 in
theorem qget_go (w : World) (N : Nat → Prop) (X x : Nat) (hX : Blk w X 91 #[.pointer (some ⟨x, 0,none⟩)]) (id : Int) (R : Ending → World → Prop)
  (h : ∀ W,Below w.heap.size w W → Calls Tryz.prog 66 #[.pointer (some ⟨x, 0,none⟩), .int .i64 id] W fun e w' => ∃ (v : Box) (er : Int),e = .returned (.tuple #[.agg (boxC v), .int .i64 er]) ∧ CalmW N W w' ∧ ∀ W',Off (fun k => k = w.heap.size) w' W' → R e W') :
  Calls Tryz.prog 37 #[.pointer (some ⟨X, 0,none⟩), .int .i64 id] w R := by
 obtain ⟨W0,hW0⟩ : ∃ W0,w.alloc (.cells #[.int .i64 0, .int .i64 0, .int .i64 0, .int .i64 0] 34) = W0 := ⟨_,rfl⟩
 have hb0 : Below w.heap.size w W0 := by rw [← hW0]; exact (Below.refl _ w).alloc (Nat.le_refl _) _
 have B0 : Blk W0 w.heap.size 34 #[.int .i64 0, .int .i64 0, .int .i64 0, .int .i64 0] := by rw [← hW0]; exact Blk.new w 34 _
 have qX : W0.cell? ⟨X, 0,none⟩ = some (.pointer (some ⟨x, 0,none⟩)) := Blk.cell ((hb0.block X hX.lt).trans hX) 0
 have HW0 : Hid (w.alloc (.cells #[.int .i64 0, .int .i64 0, .int .i64 0, .int .i64 0] 34) = W0) := hW0
 have hc := h W0 hb0
 clear hW0 h hX hb0
 go_enter Tryz.func37,Tryz.ntmps37
 go_upto_region 1 with fail
 rw [HW0.out]
 go_wp2_with (go_at_call 66; refine hc.mono ?_; rintro e w1 ⟨v,er,rfl,hC1,hR⟩; have B1 := hC1.blk B0 (by unfold own5; omega); have c0 : w1.cell? ⟨w.heap.size, 0,none⟩ = some (.int .i64 0) := B1.cell 0; have c1 : w1.cell? ⟨w.heap.size, 1,none⟩ = some (.int .i64 0) := B1.cell 1; have c2 : w1.cell? ⟨w.heap.size, 2,none⟩ = some (.int .i64 0) := B1.cell 2; have c3 : w1.cell? ⟨w.heap.size, 3,none⟩ = some (.int .i64 0) := B1.cell 3; have f0 : w1.frozen? ⟨w.heap.size, 0,none⟩ = false := B1.frozen 0; have f1 : w1.frozen? ⟨w.heap.size, 1,none⟩ = false := B1.frozen 1; have f2 : w1.frozen? ⟨w.heap.size, 2,none⟩ = false := B1.frozen 2; have f3 : w1.frozen? ⟨w.heap.size, 3,none⟩ = false := B1.frozen 3)
 obtain ⟨qb,qo⟩ := put4 B1 (.int .i64 (v.a : Int)) (.int .i64 (v.b : Int)) (.int .i64 (v.c : Int)) (.int .i64 (v.d : Int))
 have d0 := qb.cell 0
 have d1 := qb.cell 1
 have d2 := qb.cell 2
 have d3 := qb.cell 3
 exact bodyPost_ret (v := .tuple #[.agg (boxC v), .int .i64 er]) (by simp [results,Tryz.results37,go_sem,d0,d1,d2,d3]) rfl (hR _ qo)
set_option maxRecDepth 100000 in
set_option maxHeartbeats 2000000 in
theorem qwin_go (w : World) (N : Nat → Prop) (X x : Nat) (hX : Blk w X 91 #[.pointer (some ⟨x, 0,none⟩)]) (va vb vc vd : Int) (R : Ending → World → Prop)
  (h : ∀ W,Below w.heap.size w W → Calls Tryz.prog 31 #[.pointer (some ⟨x, 0,none⟩), .agg #[.int .i64 va, .int .i64 vb, .int .i64 vc, .int .i64 vd]] W fun e w' => ∃ (a : Option Addr) (n c : Nat) (er : Int),e = .returned (.tuple #[.slice a n c, .int .i64 er]) ∧ CalmW N W w' ∧ R e w') :
  Calls Tryz.prog 11 #[.pointer (some ⟨X, 0,none⟩), .agg #[.int .i64 va, .int .i64 vb, .int .i64 vc, .int .i64 vd]] w R := by
 obtain ⟨W0,hW0⟩ : ∃ W0,w.alloc (.cells #[.int .i64 va, .int .i64 vb, .int .i64 vc, .int .i64 vd] 34) = W0 := ⟨_,rfl⟩
 have hb0 : Below w.heap.size w W0 := by rw [← hW0]; exact (Below.refl _ w).alloc (Nat.le_refl _) _
 have B0 : Blk W0 w.heap.size 34 #[.int .i64 va, .int .i64 vb, .int .i64 vc, .int .i64 vd] := by rw [← hW0]; exact Blk.new w 34 #[.int .i64 va, .int .i64 vb, .int .i64 vc, .int .i64 vd]
 have X0 : Blk W0 X 91 #[.pointer (some ⟨x, 0,none⟩)] := (hb0.block X hX.lt).trans hX
 have HW0 : Hid (w.alloc (.cells #[.int .i64 va, .int .i64 vb, .int .i64 vc, .int .i64 vd] 34) = W0) := hW0
 have hc := h W0.drew hb0.drew
 have q0 : W0.cell? ⟨w.heap.size, 0,none⟩ = some (.int .i64 va) := B0.cell 0
 have q1 : W0.cell? ⟨w.heap.size, 1,none⟩ = some (.int .i64 vb) := B0.cell 1
 have q2 : W0.cell? ⟨w.heap.size, 2,none⟩ = some (.int .i64 vc) := B0.cell 2
 have q3 : W0.cell? ⟨w.heap.size, 3,none⟩ = some (.int .i64 vd) := B0.cell 3
 have qX : W0.cell? ⟨X, 0,none⟩ = some (.pointer (some ⟨x, 0,none⟩)) := X0.cell 0
 have HK : Hid (∀ W',CalmW N W0.drew W' → W'.cell? ⟨X, 0,none⟩ = some (.pointer (some ⟨x, 0,none⟩)) ∧ W'.cell? ⟨w.heap.size, 0,none⟩ = some (.int .i64 va) ∧ W'.cell? ⟨w.heap.size, 1,none⟩ = some (.int .i64 vb) ∧ W'.cell? ⟨w.heap.size, 2,none⟩ = some (.int .i64 vc) ∧ W'.cell? ⟨w.heap.size, 3,none⟩ = some (.int .i64 vd)) := fun W' hC => by
  have b := hC.blk B0.drew (by unfold own5; omega)
  have bx := hC.blk X0.drew (by unfold own5; omega)
  exact ⟨bx.cell 0,b.cell 0,b.cell 1,b.cell 2,b.cell 3⟩
 clear hW0 h hX X0 B0 hb0
 go_enter Tryz.func11,Tryz.ntmps11
 go_upto_region 3 with fail
 rw [HW0.out]
 go_region_held3 (fun W' => W'.cell? ⟨X, 0,none⟩ = some (.pointer (some ⟨x, 0,none⟩)) ∧ W'.cell? ⟨w.heap.size, 0,none⟩ = some (.int .i64 va) ∧ W'.cell? ⟨w.heap.size, 1,none⟩ = some (.int .i64 vb) ∧ W'.cell? ⟨w.heap.size, 2,none⟩ = some (.int .i64 vc) ∧ W'.cell? ⟨w.heap.size, 3,none⟩ = some (.int .i64 vd))
  (first
   | exact ⟨qX,q0,q1,q2,q3⟩
   | exact HK.out _ hC1
   | go_keep)
  ((go_at_call 31; refine hc.mono ?_; rintro e w1 ⟨sa,sn,sc,er,rfl,hC1,hR⟩))
 go_wp2
 exact hR
set_option maxHeartbeats 2000000 in
theorem qopen_go (w : World) (D q : Nat) (hD : Blk w D 109 #[.pointer (some ⟨q, 0,none⟩)]) (R : Ending → World → Prop)
  (h : Calls Tryz.prog 51 #[.pointer (some ⟨q, 0,none⟩)] w fun e w' => (∃ x,e = .returned (.tuple #[.pointer (some ⟨x, 0,none⟩), .int .i64 0]) ∧ R (.returned (.tuple #[.pointer (some ⟨w'.heap.size, 0,none⟩), .int .i64 0])) (w'.alloc (.cells #[.pointer (some ⟨x, 0,none⟩)] 91))) ∨ (∃ er : Int,er ≠ 0 ∧ e = .returned (.tuple #[.pointer none, .int .i64 er]) ∧ R (.returned (.tuple #[.pointer none, .int .i64 er])) w')) :
  Calls Tryz.prog 21 #[.pointer (some ⟨D, 0,none⟩)] w R := by
 have qX : w.cell? ⟨D, 0,none⟩ = some (.pointer (some ⟨q, 0,none⟩)) := hD.cell 0
 clear hD
 go_enter Tryz.func21,Tryz.ntmps21
 go_wp2_with (go_at_call 51; refine h.mono ?_; rintro e w1 (⟨x,rfl,hR⟩ | ⟨er,her,rfl,hR⟩))
 ·exact hR
 ·exact hR
end
section
def LiveB (W : World) (N : Nat → Prop) (p X n : Nat) (σ : PS) (tb : List (Int × Box)) : Prop :=
 ∃ (A : PA) (x t : Nat) (f : Value) (fr : List Nat) (root : Nat) (es : List (Key × Box)) (us : List Nat),A.p = p ∧ σ.n = n ∧ Blk W X 91 #[.pointer (some ⟨x, 0,none⟩)] ∧ IxS W 0 A σ x t false f fr ∧ Gd σ fr root es us tb ∧ σ.broken = false ∧ (∀ k,A.F k → ¬ N k) ∧ ¬ N t ∧ ¬ N x ∧ ∀ k,N k → k < W.heap.size
section
variable {w : World} {N : Nat → Prop} {p X n : Nat} {σ : PS} {tb : List (Int × Box)}
theorem newm {A : PA} {m' : Nat} {W : World} (h1 : ∀ k,A.F k → ¬ N k) (h2 : ∀ k,N k → k < W.heap.size) (hm : m' = A.m ∨ W.heap.size ≤ m') : ∀ k,({ A with m := m' } : PA).F k → ¬ N k := fun k hk hN => by
 rcases hk with e | e | e | e
 ·exact h1 k (.inl e) hN
 ·exact h1 k (.inr (.inl e)) hN
 ·exact h1 k (.inr (.inr (.inl e))) hN
 ·rcases hm with g | g
  ·exact h1 k (.inr (.inr (.inr (e.trans g)))) hN
  ·have := h2 k hN
   have : k = m' := e
   omega
theorem Gd.still {fr : List Nat} {root : Nat} {es : List (Key × Box)} {us : List Nat} (hG : Gd σ fr root es us tb) (tb' : List (Int × Box)) : Torn2 σ.asked tb tb' := fun c hc => by
 have h1 : ∀ t,c.now t = σ.now t := fun t => (hc.2 t).elim id (fun h => by have := hG.old t; rw [show σ.asked.old t = σ.old t from rfl,this] at h; cases h)
 exact ⟨root,es,us,hG.tr.congr hc.1 (h1 0) (fun t _ => h1 t), .inl hG.idx⟩
theorem LiveX.b (h : LiveX w N p X n σ tb) : LiveB w N p X n σ tb ∧ Free σ := by
 obtain ⟨A,x,t,f,fr,root,es,us,h1,h2,h3,h4,h5,h6,h7⟩ := h
 exact ⟨⟨A,x,t,f,fr,root,es,us,h1,h2,h3,h4,h5,h6.2,h7⟩,h6⟩
theorem LiveB.x (h : LiveB w N p X n σ tb) (hf : Free σ) : LiveX w N p X n σ tb := by
 obtain ⟨A,x,t,f,fr,root,es,us,h1,h2,h3,h4,h5,h6,h7⟩ := h
 exact ⟨A,x,t,f,fr,root,es,us,h1,h2,h3,h4,h5,hf,h7⟩
theorem fromK_of {es : List (Key × Box)} (h : Idx plc tb es) : FromK es := fun x hx => by
 obtain ⟨⟨a,_⟩,b⟩ := ent_kind h hx
 unfold klt
 rcases b with b | ⟨c,_,b⟩
 ·left; rw [b]; simp only [NUM]; omega
 ·rw [b]
  simp only
  omega
end
theorem PI.held {W : World} {base q g m : Nat} {s : PS} (h : PI W base q g m s) (hb : base ≤ W.heap.size) : PD (W.alloc (.cells #[.pointer (some ⟨q, 0,none⟩)] 109)) base ⟨W.heap.size,q,g,m⟩ s := by
 obtain ⟨l1,l2,l3⟩ := h.le
 obtain ⟨k,D,m1,m2,m3⟩ := h.map
 have ho : Off (fun _ => False) W (W.alloc (.cells #[.pointer (some ⟨q, 0,none⟩)] 109)) := (Off.refl _ _).alloc _
 exact ⟨⟨hb,l1,l2,l3⟩,Blk.new W 109 _,h.blkQ.off ho (fun h => h),h.sec.off ho (fun h => h),⟨k,D,map_off m1 ho (fun h => h),m2,m3⟩,h.n1,h.n2⟩
theorem qhold_ok (w : World) (base q g m : Nat) (s : PS) (h : PI w base q g m s) (hb : base ≤ w.heap.size) :
  Calls Tryz.prog 48 #[.pointer (some ⟨q, 0,none⟩), .int .i64 0] w fun e w' => ∃ A : PA,e = .returned (.tuple #[.pointer (some ⟨A.p, 0,none⟩), .int .i64 0]) ∧ PD w' base A s ∧ Below w.heap.size w w' := by
 have hR := h.held hb
 go_enter Tryz.func48,Tryz.ntmps48
 go_wp2
 go_ret2
 exact ⟨⟨w.heap.size,q,g,m⟩,rfl,hR,(Below.refl _ _).alloc (Nat.le_refl _) _⟩
theorem qnewd_ok (w : World) (n : Nat) (h1 : 256 ≤ n) (h2 : n ≤ 4096) :
  Calls Tryz.prog 29 #[.int .i64 (n : Int)] w fun e w' => ∃ A : PA,e = .returned (.tuple #[.pointer (some ⟨A.p, 0,none⟩), .int .i64 0]) ∧ PD w' w.heap.size A (PS.fresh n (fun _ => zeros 256)) ∧ Below w.heap.size w w' := by
 have hcon := pnew_ok w n h1 h2
 go_enter Tryz.func29,Tryz.ntmps29
 go_wp2_with (first
  | (go_at_call 57; refine hcon.mono ?_; rintro e w1 ⟨q,g,m,rfl,hI,hb1⟩; have hcon2 := qhold_ok w1 w.heap.size q g m _ hI hb1.size)
  | (go_at_call 48; refine hcon2.mono ?_; rintro e w2 ⟨A,rfl,hR,hb2⟩))
 go_ret2
 exact ⟨A,rfl,hR,hb1.trans (hb2.mono hb1.size)⟩
theorem tr_fresh (n : Nat) : Tr (PS.fresh n (fun _ => zeros 256)) 0 [] [] := by
 refine ⟨?_, .inl ⟨rfl,rfl,rfl⟩,List.nodup_nil,fun t ht => (by cases ht),List.Pairwise.nil⟩
 have : (zeros 256).data.toList = headB 0 := by rw [headB_zero]; rfl
 show headOf (zeros 256).data.toList = some 0
 rw [this]
 exact headOf_B (by omega)
theorem idx_nil : Idx plc [] ([] : List (Key × Box)) := ⟨List.Pairwise.nil,fun x => by simp,List.Pairwise.nil,fun t ht => (by cases ht),fun t ht => (by cases ht)⟩
end
section
def NF (W : World) (F : Nat → Prop) (k : Nat) : Prop := k < W.heap.size ∧ ¬ F k
def Fown (W : World) (F : Nat → Prop) : Prop := (∀ k,F k → k < W.heap.size) ∧ ∀ k cs ty g,F k → W.heap[k]? = some (.cells cs ty g) → own5 ty
section
variable {w w' : World} {F F1 F2 : Nat → Prop}
theorem old_new {k : Nat} (h : ¬ NF w F k) : F k ∨ w.heap.size ≤ k := Classical.byContradiction fun g => h ⟨by omega,fun e => g (.inl e)⟩
theorem Fown.keep (h : Fown w F1) (ho : Off F2 w w') (hd : ∀ k,F1 k → ¬ F2 k) : Fown w' F1 :=
 ⟨fun k hk => Nat.lt_of_lt_of_le (h.1 k hk) ho.size,fun k cs ty g hk e => h.2 k cs ty g hk ((ho.block k (h.1 k hk) (hd k hk)).symm.trans e)⟩
end
def LiveV (W : World) (N : Nat → Prop) (p X n : Nat) (f : Value) (tb : List (Int × Box)) : Prop :=
 ∃ (A : PA) (σ : PS) (x t : Nat) (fr : List Nat) (root : Nat) (es : List (Key × Box)) (us : List Nat),A.p = p ∧ σ.n = n ∧ Blk W X 91 #[.pointer (some ⟨x, 0,none⟩)] ∧ IxS W 0 A σ x t false f fr ∧ Gd σ fr root es us tb ∧ Free σ ∧ (∀ k,A.F k → ¬ N k) ∧ ¬ N t ∧ ¬ N x ∧ ∀ k,N k → k < W.heap.size
def putE (id a b c d : Int) : Int := if idB id = false then 8 else if rightB a b c d = false then 6 else 0
section
variable {w W w' : World} {N : Nat → Prop} {p X n : Nat} {σ : PS} {f : Value} {tb tb' : List (Int × Box)}
theorem LiveV.x (h : LiveV w N p X n f tb) : ∃ σ,LiveX w N p X n σ tb := by
 obtain ⟨A, σ,x,t,fr,root,es,us,h⟩ := h
 exact ⟨σ,A,x,t,f,fr,root,es,us,h⟩
theorem LiveV.lt (h : LiveV w N p X n f tb) : ∀ g,f.ownBlock = some g → g < w.heap.size := by
 obtain ⟨A, σ,x,t,fr,root,es,us,h1,h2,h3,h4,_⟩ := h
 exact fun g hg => own_lt2 h4.row hg
theorem FreshV.up {w W : World} (h : FreshV W f) (hs : w.heap.size ≤ W.heap.size) : FreshV w f := fun g hg => Nat.le_trans hs (h g hg)
theorem LiveV.high (h : LiveV w N p X n f tb) (ho : Off (fun k => w.heap.size ≤ k) w W) : LiveV W N p X n f tb := by
 obtain ⟨A, σ,x,t,fr,root,es,us,h1,h2,h3,h4,h5,h6,h7,h8,h9,h10⟩ := h
 have h3l := h3.lt
 have h4l := h4.ix.lt
 have h4t := h4.tr.lt
 exact ⟨A, σ,x,t,fr,root,es,us,h1,h2,h3.off ho (by omega),⟨h4.pd.off ho (fun k hk e => by have := (h4.pd.lt k hk).2; omega),h4.tr.off ho (by omega),own_offv h4.row ho (fun g hg e => by have := own_lt2 h4.row hg; omega),h4.ix.off ho (by omega)⟩,h5,h6,h7,h8,h9,fun k hk => Nat.lt_of_lt_of_le (h10 k hk) ho.size⟩
theorem LiveV.below (h : LiveV w N p X n f tb) (hb : Below w.heap.size w W) : LiveV W N p X n f tb := h.high (Off.of_below hb)
theorem v_fin {A : PA} {x t : Nat} {fr : List Nat} {e : Ending} (hX : Blk W X 91 #[.pointer (some ⟨x, 0,none⟩)]) (hI : IxS W 0 A σ x t false f fr) (hf : Free σ) (hbt : (∀ k,A.F k → ¬ N k) ∧ ¬ N t ∧ ¬ N x ∧ ∀ k,N k → k < W.heap.size) (hn : σ.n = n) (hp : A.p = p) (h : CallP W 0 A σ x t false f fr tb tb' False e w') :
  CalmW N W w' ∧ e = .returned (.int .i64 0) ∧ ∃ f',LiveV w' N p X n f' tb' ∧ FreshV W f' := by
 obtain ⟨ho,h⟩ := h
 have hc : CalmW N W w' := CalmW.off ho hI.tags (fun k hk => hk.elim (hbt.1 k) (fun h => h.elim (fun e => e ▸ hbt.2.1) (fun e => e ▸ hbt.2.2.1)))
 have hX' : Blk w' X 91 #[.pointer (some ⟨x, 0,none⟩)] := hc.blk hX (by unfold own5; omega)
 have hN' : ∀ k,N k → k < w'.heap.size := fun k hk => Nat.lt_of_lt_of_le (hbt.2.2.2 k hk) ho.size
 rcases h with ⟨_,hF,_⟩ | ⟨e1,m',s',f',fr',root',es',us',hm',hI',hG',hn',ha,hb,hfr,hff⟩ | ⟨_,m',s',_,_,_,_,_,_,hnf⟩
 ·exact hF.elim
 ·exact ⟨hc,e1,f',⟨{ A with m := m' },s',x,t,fr',root',es',us',hp,hn'.trans hn,hX',hI',hG',hfr hf,newm hbt.1 hbt.2.2.2 hm',hbt.2.1,hbt.2.2.1,hN'⟩,hff⟩
 ·exact absurd hf hnf
theorem v_put (h : LiveV w N p X n f tb) {id : Int} (hid : idB id = true) {v : Box} (hv : v.ok) (hr1 : tb.length ≤ (n - 200) / 4) (hr2 : (tput id v tb).length ≤ (n - 200) / 4) :
  Calls Tryz.prog 10 #[.pointer (some ⟨X, 0,none⟩), .int .i64 id, .agg (boxC v)] w fun e w' => CalmW N w w' ∧ e = .returned (.int .i64 0) ∧ ∃ f',LiveV w' N p X n f' (tput id v tb) ∧ FreshV w f' := by
 obtain ⟨A, σ,x,t,fr,root,es,us,h1,h2,h3,h4,h5,h6⟩ := h
 have hid2 : 0 ≤ id ∧ id ≤ 4611686018427387904 := by unfold idB at hid; simpa using hid
 refine qput_go w N X x h3 id _ _ _ _ _ (fun W hb => ?_)
 have h4W := h4.below hb
 have h3W : Blk W X 91 #[.pointer (some ⟨x, 0,none⟩)] := (hb.block X h3.lt).trans h3
 have hn1 := h4.pd.n1
 refine iput_go W x t h4W.ix id hid v hv _ (fun W' hb' => ?_)
 have h4V := h4W.below hb'
 have h3V : Blk W' X 91 #[.pointer (some ⟨x, 0,none⟩)] := (hb'.block X h3W.lt).trans h3W
 have hs1 := hb.size
 have hs2 := hb'.size
 refine Calls.mono (R := DoneP W' 0 A σ x t false f fr tb (tput id v tb) False) ?_ (fun e w' hD => ?_)
 ·have hf1 : fr.length < 140 → False := fun hh => by have := h5.room (by omega) (by rw [h2]; exact hr1); omega
  have hf2 : ∀ es',Idx plc (tput id v tb) es' → es'.length + 4 > 4 * (σ.n - 1 - 50) ∨ σ.n - 1 < 50 → False := fun es' hi hh => (room2 hi (n := σ.n) (by omega) (by rw [h2]; exact hr2)).1 hh
  cases hg : tget id tb with
  | none => exact put_new W' 0 A σ x t false f fr root es us tb h4V h5 h6.1.brk id hid2 v hv hg False hf1 hf2
  | some v0 => exact put_old W' 0 A σ x t false f fr root es us tb h4V h5 h6.1.brk id hid2 v hv v0 hg False hf1 hf2
 ·obtain ⟨er,rfl,hx',hC⟩ := hD.minded
  obtain ⟨c1,c2,f',c3,c4⟩ := v_fin h3V h4V h6.1 ⟨h6.2.1,h6.2.2.1,h6.2.2.2.1,fun k hk => by have := h6.2.2.2.2 k hk; omega⟩ h2 h1 hC
  exact ⟨er,rfl,⟨_,hx'⟩,er,rfl,(CalmW.below hb').trans c1,((CalmW.below hb).trans (CalmW.below hb')).trans c1,c2,f',c3,c4.up (by omega)⟩
theorem v_put_no (h : LiveV w N p X n f tb) (id a b c d : Int) (hno : putE id a b c d ≠ 0) :
  Calls Tryz.prog 10 #[.pointer (some ⟨X, 0,none⟩), .int .i64 id, .agg #[.int .i64 a, .int .i64 b, .int .i64 c, .int .i64 d]] w fun e w' => CalmW N w w' ∧ e = .returned (.int .i64 (putE id a b c d)) ∧ LiveV w' N p X n f tb := by
 have hS := h
 obtain ⟨A, σ,x,t,fr,root,es,us,h1,h2,h3,h4,h5,h6⟩ := h
 refine qput_go w N X x h3 id a b c d _ (fun W hb => ?_)
 have h4W := h4.below hb
 have hno' : false = true ∨ idB id = false ∨ rightB a b c d = false := by
  unfold putE at hno
  revert hno
  cases idB id <;> cases rightB a b c d <;> simp
 refine (iput_no W x t false h4W.ix id a b c d hno').mono ?_
 rintro e w' ⟨rfl,hb'⟩
 have he : (if refuseE false id = 0 then 6 else refuseE false id) = putE id a b c d := by
  unfold refuseE putE at *
  revert hno'
  cases idB id <;> cases rightB a b c d <;> simp
 rw [he]
 exact ⟨_,rfl,CalmW.below hb',(CalmW.below hb).trans (CalmW.below hb'),rfl,(hS.below hb).below hb'⟩
theorem v_del (h : LiveV w N p X n f tb) {id : Int} (hid : idB id = true) (hr1 : tb.length ≤ (n - 200) / 4) :
  Calls Tryz.prog 35 #[.pointer (some ⟨X, 0,none⟩), .int .i64 id] w fun e w' => CalmW N w w' ∧ (((tget id tb).isSome = true ∧ e = .returned (.int .i64 0) ∧ ∃ f',LiveV w' N p X n f' (tdel id tb) ∧ FreshV w f') ∨ ((tget id tb).isSome = false ∧ e = .returned (.int .i64 9) ∧ LiveV w' N p X n f tb)) := by
 obtain ⟨A, σ,x,t,fr,root,es,us,h1,h2,h3,h4,h5,h6⟩ := h
 have hn1 := h4.pd.n1
 refine qdel_go w X x h3 id _ (idel_go w x t h4.ix id hid _ ?_)
 cases hg : tget id tb with
 | some v0 =>
  refine Calls.mono (R := DoneP w 0 A σ x t false f fr tb (tdel id tb) False) ?_ (fun e w' hD => ?_)
  ·have hl := tdel_len (id := id) (tb := tb)
   have hf1 : fr.length < 140 → False := fun hh => by have := h5.room (by omega) (by rw [h2]; exact hr1); omega
   have hf2 : ∀ es',Idx plc (tdel id tb) es' → es'.length + 4 > 4 * (σ.n - 1 - 0) ∨ σ.n - 1 < 0 → False := fun es' hi hh => (room2 hi (n := σ.n) (by omega) (by rw [h2]; omega)).2 hh
   exact remove_old w 0 A σ x t false f fr root es us tb h4 h5 h6.1.brk id v0 hg False hf1 hf2
  ·obtain ⟨er,rfl,hx',hC⟩ := hD.minded
   obtain ⟨c1,c2,f',c3,c4⟩ := v_fin h3 h4 h6.1 h6.2 h2 h1 hC
   exact ⟨er,rfl,⟨_,hx'⟩,er,rfl,c1, .inl ⟨rfl,c2,f',c3,c4⟩⟩
 | none =>
  refine (remove_new w 0 A σ x t false f fr root es us tb h4 h5 h6.1.brk id hg).mono ?_
  rintro e w' ⟨rfl,ho,r,hr,hI⟩
  refine ⟨9,rfl,⟨_,hI.ix⟩, 9,rfl, ?_⟩
  have hc : CalmW N w w' := CalmW.off ho h4.pd.tags h6.2.1
  have hm : mindW w' x 9 = w' := by unfold mindW; rw [if_neg (by decide)]
  rw [hm]
  exact ⟨hc, .inr ⟨rfl,rfl,A, σ.at_ r,x,t,fr,root,es,us,h1,h2,hc.blk h3 (by unfold own5; omega),hI,h5.at_ r,h6.1,h6.2.1,h6.2.2.1,h6.2.2.2.1,fun k hk => Nat.lt_of_lt_of_le (h6.2.2.2.2 k hk) hc.size⟩⟩
theorem v_del_no (h : LiveV w N p X n f tb) {id : Int} (hid : idB id = false) :
  Calls Tryz.prog 35 #[.pointer (some ⟨X, 0,none⟩), .int .i64 id] w fun e w' => CalmW N w w' ∧ e = .returned (.int .i64 8) ∧ LiveV w' N p X n f tb := by
 have hS := h
 obtain ⟨A, σ,x,t,fr,root,es,us,h1,h2,h3,h4,h5,h6⟩ := h
 have hr : refuseE false id = 8 := by unfold refuseE; rw [hid]; simp
 refine qdel_go w X x h3 id _ ((idel_no w x t false h4.ix id (by rw [hr]; decide)).mono ?_)
 rintro e w' ⟨rfl,rfl⟩
 rw [hr]
 exact ⟨_,rfl,CalmW.refl _ _,rfl,hS⟩
theorem v_get (h : LiveV w N p X n f tb) {id : Int} (hid : idB id = true) :
  Calls Tryz.prog 37 #[.pointer (some ⟨X, 0,none⟩), .int .i64 id] w fun e w' => CalmW N w w' ∧ e = .returned (.tuple #[.agg (boxC (foundR (tget id tb)).1), .int .i64 (foundR (tget id tb)).2]) ∧ LiveV w' N p X n f tb := by
 obtain ⟨A, σ,x,t,fr,root,es,us,h1,h2,h3,h4,h5,h6⟩ := h
 have h4l := h4.ix.lt
 have h4t := h4.tr.lt
 have h3l := h3.lt
 have hF : ∀ k,A.F k → k < w.heap.size := fun k hk => (h4.pd.lt k hk).2
 have hm : ∀ W,mindW W x (foundR (tget id tb)).2 = W := fun W => by
  unfold mindW foundR
  cases tget id tb <;> simp
 refine qget_go w N X x h3 id _ (fun W hb => ?_)
 have h4W := h4.below hb
 have hFW : ∀ k,A.F k → k < W.heap.size := fun k hk => (h4W.pd.lt k hk).2
 have hs := hb.size
 refine (iget_go W A x t h4W.ix hFW h4W.nx.1 id hid (foundR (tget id tb)).1 (foundR (tget id tb)).2 (fun w' => ∃ r,r ≤ 12 ∧ PD w' 0 A (σ.at_ r) ∧ TreeB w' t A f) (fun V hv => ?_)).mono ?_
 ·have h4V := h4W.below hv
  exact find_live V 0 A σ t x false f root es us tb h4V.pd h4V.tr h4V.ix h6.1.brk h5.tr h5.idx id
 ·rintro e w' ⟨rfl,w1,w2,⟨r,hr,hp1,ht1⟩,ho1,ho2,ho3⟩
  rw [hm] at ho3
  have hI1 : IxS w1 0 A (σ.at_ r) x t false f fr := h4W.off (ho1.mono (fun k _ hk => .inl hk)) hp1 ht1
  have hc1 : CalmW N W w1 := CalmW.off ho1 h4W.pd.tags h6.2.1
  have ho23 : Off (fun k => W.heap.size ≤ k) w1 w' := ho2.trans ho3
  have hX1 : Blk w1 X 91 #[.pointer (some ⟨x, 0,none⟩)] := hc1.blk ((hb.block X h3.lt).trans h3) (by unfold own5; omega)
  have hcc : CalmW N W w' := ⟨ho23.os.trans hc1.os,ho23.tape.trans hc1.tape,ho23.output.trans hc1.output,Nat.le_trans hc1.size ho23.size,fun k cs ty g e n => (ho23.block k (Array.getElem?_eq_some_iff.1 (hc1.block k cs ty g e n)).1 (by have := (Array.getElem?_eq_some_iff.1 e).1; omega)).trans (hc1.block k cs ty g e n),fun k h1 h2 => (ho23.block k (Nat.lt_of_lt_of_le h2 hc1.size) (by omega)).trans (hc1.low k h1 h2)⟩
  refine ⟨(foundR (tget id tb)).1,(foundR (tget id tb)).2,rfl,hcc,fun W' hW' => ?_⟩
  have ho4 : Off (fun k => w.heap.size ≤ k) w1 W' := (ho23.mono (fun k _ h => by omega)).trans (hW'.mono (fun k _ h => by omega))
  have hI2 : IxS W' 0 A (σ.at_ r) x t false f fr := ⟨hI1.pd.off ho4 (fun k hk hh => by have := hF k hk; omega),hI1.tr.off ho4 (by omega),own_offv (own_below h4.row hb |> fun q => hc1.row q (by unfold own5; omega)) ho4 (fun g hg hh => by have := own_lt2 h4.row hg; omega),hI1.ix.off ho4 (by omega)⟩
  have hX2 : Blk W' X 91 #[.pointer (some ⟨x, 0,none⟩)] := hX1.off ho4 (by omega)
  have hc2 : CalmW N w W' := ⟨ho4.os.trans (hc1.os.trans hb.os),ho4.tape.trans (hc1.tape.trans hb.tape),ho4.output.trans (hc1.output.trans hb.output),Nat.le_trans hs (Nat.le_trans hc1.size ho4.size),fun k cs ty g e n => by
   have hk := (Array.getElem?_eq_some_iff.1 e).1
   have e1 := hc1.block k cs ty g ((hb.block k hk).trans e) n
   exact (ho4.block k (Array.getElem?_eq_some_iff.1 e1).1 (by omega)).trans e1,fun k h1 h2 => (ho4.block k (by have := hc1.size; omega) (by omega)).trans ((hc1.low k h1 (by omega)).trans (hb.block k h2))⟩
  exact ⟨hc2,rfl,A, σ.at_ r,x,t,fr,root,es,us,h1,h2,hX2,hI2,h5.at_ r,h6.1,h6.2.1,h6.2.2.1,h6.2.2.2.1,fun k hk => Nat.lt_of_lt_of_le (h6.2.2.2.2 k hk) hc2.size⟩
theorem v_get_no (h : LiveV w N p X n f tb) {id : Int} (hid : idB id = false) :
  Calls Tryz.prog 37 #[.pointer (some ⟨X, 0,none⟩), .int .i64 id] w fun e w' => CalmW N w w' ∧ e = .returned (.tuple #[.agg (boxC zeroBox), .int .i64 8]) ∧ LiveV w' N p X n f tb := by
 have hS := h
 obtain ⟨A, σ,x,t,fr,root,es,us,h1,h2,h3,h4,h5,h6⟩ := h
 have hr : refuseE false id = 8 := by unfold refuseE; rw [hid]; simp
 refine qget_go w N X x h3 id _ (fun W hb => ?_)
 have h4W := h4.below hb
 have hs := hb.size
 refine (iget_no W x t false h4W.ix id (by rw [hr]; decide)).mono ?_
 rintro e w' ⟨rfl,hb'⟩
 rw [hr]
 refine ⟨zeroBox,_,rfl,CalmW.below hb',fun W' hW' => ?_⟩
 have ho : Off (fun k => w.heap.size ≤ k) w W' := ((Off.of_below hb).trans (Off.of_below (by exact hb'))).trans (hW'.mono (fun k _ h => by omega))
 exact ⟨⟨ho.os,ho.tape,ho.output,ho.size,fun k cs ty g e _ => (ho.block k (Array.getElem?_eq_some_iff.1 e).1 (by have := (Array.getElem?_eq_some_iff.1 e).1; omega)).trans e,fun k _ h2 => ho.block k h2 (by omega)⟩,rfl,hS.high ho⟩
theorem v_count (h : LiveV w N p X n f tb) :
  Calls Tryz.prog 38 #[.pointer (some ⟨X, 0,none⟩)] w fun e w' => CalmW N w w' ∧ e = .returned (.tuple #[.int .i64 (tb.length : Int), .int .i64 0]) ∧ LiveV w' N p X n f tb := by
 obtain ⟨A, σ,x,t,fr,root,es,us,h1,h2,h3,h4,h5,h6⟩ := h
 refine qcount_go w X x h3 _ ((icount_go w x t h4.ix (tb.length : Int) 0 (fun w' => Off A.F w w' ∧ ∃ r,PD w' 0 A (σ.at_ r) ∧ TreeB w' t A f) ?_).mono ?_)
 ·refine (count_live w 0 A σ t x false f root es us tb h4.pd h4.tr h4.ix h6.1.brk h5.tr h5.idx).mono ?_
  rintro e w' ⟨rfl,ho,r,hp,ht⟩
  exact ⟨rfl,h4.ix.off ho h4.nx.1,ho,r,hp,ht⟩
 ·rintro e w' ⟨rfl,w1,⟨ho,r,hp,ht⟩,hw⟩
  have hm : mindW w1 x 0 = w1 := by unfold mindW; rw [if_neg (by decide)]
  rw [hm] at hw
  subst hw
  have hc : CalmW N w w' := CalmW.off ho h4.pd.tags h6.2.1
  exact ⟨_,_,rfl,hc,rfl,A, σ.at_ r,x,t,fr,root,es,us,h1,h2,hc.blk h3 (by unfold own5; omega),h4.off (ho.mono (fun k _ hk => .inl hk)) hp ht,h5.at_ r,h6.1,h6.2.1,h6.2.2.1,h6.2.2.2.1,fun k hk => Nat.lt_of_lt_of_le (h6.2.2.2.2 k hk) hc.size⟩
theorem v_win (h : LiveV w N p X n f tb) {r : Box} (hr : r.ok) :
  Calls Tryz.prog 11 #[.pointer (some ⟨X, 0,none⟩), .agg (boxC r)] w fun e w' => CalmW N w w' ∧ (∃ v,e = .returned (.tuple #[v, .int .i64 0]) ∧ w'.ownsRow w.heap.size 3 1 v (winL r tb).length (intsV (winL r tb))) ∧ LiveV w' N p X n f tb := by
 obtain ⟨A, σ,x,t,fr,root,es,us,h1,h2,h3,h4,h5,h6⟩ := h
 refine qwin_go w N X x h3 _ _ _ _ _ (fun W hb => ?_)
 have h4W := h4.below hb
 have h3W : Blk W X 91 #[.pointer (some ⟨x, 0,none⟩)] := (hb.block X h3.lt).trans h3
 refine iwin_go W x t h4W.ix r hr _ (fun V hv => ?_)
 have h4V := h4W.below hv
 refine (search_live h4V h5 h6.1.brk r hr).mono ?_
 rintro e w' ⟨v,ids,rfl,hi,hrow,ho,r',hr',hI⟩
 have hm : mindW w' x 0 = w' := by unfold mindW; rw [if_neg (by decide)]
 obtain ⟨sa,sc,rfl,_,_,_⟩ := own_shape hrow
 have hc : CalmW N V w' := CalmW.off ho h4V.pd.tags h6.2.1
 have e1 := hi.is h5.idx.up
 refine ⟨sa,ids.length,sc, 0,rfl,hI.ix, ?_⟩
 rw [hm]
 refine ⟨sa,ids.length,sc, 0,rfl,(CalmW.below hv).trans hc,((CalmW.below hb).trans (CalmW.below hv)).trans hc,⟨_,rfl, ?_⟩,A, σ.at_ r',x,t,fr,root,es,us,h1,h2,hc.blk ((hv.block X h3W.lt).trans h3W) (by unfold own5; omega),hI,h5.at_ r',h6.1,h6.2.1,h6.2.2.1,h6.2.2.2.1,fun k hk => by have := h6.2.2.2.2 k hk; have := hb.size; have := hv.size; have := hc.size; omega⟩
 rw [← e1]
 exact own_mono hrow (Nat.le_trans hb.size hv.size)
theorem v_win_no (h : LiveV w N p X n f tb) (a b c d : Int) (hri : rightB a b c d = false) :
  Calls Tryz.prog 11 #[.pointer (some ⟨X, 0,none⟩), .agg #[.int .i64 a, .int .i64 b, .int .i64 c, .int .i64 d]] w fun e w' => CalmW N w w' ∧ e = .returned (.tuple #[.slice none 0 0, .int .i64 6]) ∧ LiveV w' N p X n f tb := by
 have hS := h
 obtain ⟨A, σ,x,t,fr,root,es,us,h1,h2,h3,h4,h5,h6⟩ := h
 refine qwin_go w N X x h3 a b c d _ (fun W hb => ?_)
 have h4W := h4.below hb
 refine (iwin_no W x t h4W.ix a b c d hri).mono ?_
 rintro e w' ⟨rfl,hb'⟩
 exact ⟨none, 0, 0, 6,rfl,CalmW.below hb',(CalmW.below hb).trans (CalmW.below hb'),rfl,(hS.below hb).below hb'⟩
theorem v_open_on {A : PA} {root : Nat} {es : List (Key × Box)} {us : List Nat} (hp : PD w 0 A σ) (hT : Tr σ root es us) (hI : Idx plc tb es) (hf : Free σ) (hN : (∀ k,A.F k → ¬ N k) ∧ ∀ k,N k → k < w.heap.size) :
  Calls Tryz.prog 21 #[.pointer (some ⟨A.p, 0,none⟩)] w fun e w' => CalmW N w w' ∧ ∃ X' f',e = .returned (.tuple #[.pointer (some ⟨X', 0,none⟩), .int .i64 0]) ∧ LiveV w' N A.p X' σ.n f' tb ∧ FreshV w f' ∧ w.heap.size ≤ X' := by
 have hlf : -1 ≤ σ.left ∧ σ.left ≤ 9223372036854775807 := by have := hf.1; omega
 refine qopen_go w A.p A.q hp.blkP _ ((iopen_live w 0 A σ hp hf.brk hlf).mono ?_)
 rintro e w' ⟨ho,⟨x,t,m',f,fr,root',es',us',tb',r,rfl,hm,ht,hx,hIx,hT',hfr,hI',_,hff⟩ | ⟨rfl,_,hh⟩⟩
 ·left
  obtain ⟨rfl,rfl,rfl⟩ := hT.one hT'
  have := hI.one hI'
  subst this
  have hc : CalmW N w w' := CalmW.off ho hp.tags hN.1
  have hb : Below w'.heap.size w' (w'.alloc (.cells #[.pointer (some ⟨x, 0,none⟩)] 91)) := (Below.refl _ w').alloc (Nat.le_refl _) _
  have hfl : (σ.at_ r).flush.2 = (σ.at_ r).asked.spent.settled := by unfold PS.flush; rw [show (σ.at_ r).brk = false from hf.brk]; rfl
  have hfr2 := (Free.flush (s := σ.at_ r) hf).1
  refine ⟨x,rfl,hc.trans (CalmW.below hb),w'.heap.size,f,rfl,⟨{ A with m := m' },(σ.at_ r).flush.2,x,t,fr,root,es,us,rfl,by rw [hfl]; rfl,Blk.new w' 91 _,hIx.below hb, ?_,hfr2,newm hN.1 hN.2 hm,fun h => by have := hN.2 t h; omega,fun h => by have := hN.2 x h; omega,fun k hk => by have := hN.2 k hk; have := hc.size; have := hb.size; omega⟩,hff,hc.size⟩
  refine ⟨by rw [hfl]; exact hT.congr rfl rfl (fun _ _ => rfl),by rw [hfl]; exact hfr,hI,by rw [hfl]; exact fun _ => rfl,by have := hfr2.1; omega⟩
 ·exfalso
  rcases hh with hh | ⟨root',es',us',hT',_,hno⟩
  ·exact hh root es us hT (fromK_of hI)
  ·obtain ⟨rfl,rfl,rfl⟩ := hT.one hT'
   exact hno tb hI
theorem v_open (h : LiveV w N p X n f tb) :
  Calls Tryz.prog 21 #[.pointer (some ⟨p, 0,none⟩)] w fun e w' => CalmW N w w' ∧ ∃ X' f',e = .returned (.tuple #[.pointer (some ⟨X', 0,none⟩), .int .i64 0]) ∧ LiveV w' N p X' n f' tb ∧ FreshV w f' ∧ w.heap.size ≤ X' := by
 obtain ⟨A, σ,x,t,fr,root,es,us,rfl,rfl,h3,h4,h5,h6⟩ := h
 exact v_open_on h4.pd h5.tr h5.idx h6.1 ⟨h6.2.1,h6.2.2.2.2⟩
end
end
section
def entM (t : Int × Box) : List Value := [.int .i64 t.1, .int .i64 (t.2.a : Int), .int .i64 (t.2.b : Int), .int .i64 (t.2.c : Int), .int .i64 (t.2.d : Int)]
def rowM (tb : List (Int × Box)) : List Value := tb.flatMap entM
theorem rowM_get : ∀ {l : List (Int × Box)} {i : Nat} {x : Int × Box},l[i]? = some x → ∀ j,j < 5 → (rowM l)[i * 5 + j]? = (entM x)[j]?
 | [],i,x,h,_,_ => by cases h
 | y :: l, 0,x,h,j,hj => by
  simp only [List.getElem?_cons_zero,Option.some.injEq] at h
  subst h
  show (entM y ++ rowM l)[0 * 5 + j]? = _
  rw [show 0 * 5 + j = j by omega,List.getElem?_append_left (by simp [entM]; omega)]
 | y :: l,i + 1,x,h,j,hj => by
  rw [List.getElem?_cons_succ] at h
  show (entM y ++ rowM l)[(i + 1) * 5 + j]? = _
  rw [List.getElem?_append_right (by simp [entM]; omega),show (i + 1) * 5 + j - (entM y).length = i * 5 + j by simp [entM]; omega]
  exact rowM_get h j hj
theorem rowM_len (l : List (Int × Box)) : (rowM l).length = l.length * 5 := by
 induction l with
 | nil => rfl
 | cons x l ih => show (entM x ++ rowM l).length = _; rw [List.length_append,ih]; simp [entM]; omega
theorem rowM_append (a b : List (Int × Box)) : rowM (a ++ b) = rowM a ++ rowM b := List.flatMap_append ..
abbrev TabV (W : World) (base : Nat) (sv : Value) (tb : List (Int × Box)) : Prop := W.ownsRow base 106 5 sv tb.length (rowM tb)
abbrev boxA (v : Box) : Array Value := #[.int .i64 (v.a : Int), .int .i64 (v.b : Int), .int .i64 (v.c : Int), .int .i64 (v.d : Int)]
theorem take_get {α : Type} {l : List α} {i : Nat} {x : α} (h : l[i]? = some x) : l.take (i + 1) = l.take i ++ [x] := by
 rw [List.take_add_one,h]; rfl
end
end Go.Proofs.YtdgbgmffpcooeaaGreat
