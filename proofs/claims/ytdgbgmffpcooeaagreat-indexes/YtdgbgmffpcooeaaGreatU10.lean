/- N1 -/
import Derived.Test.YtdgbgmffpcooeaaGreatU09
namespace Go.Proofs.YtdgbgmffpcooeaaGreat
open Go.RowKit Go.Lib
section
def NodeV (W : World) (v : Value) : Node Box → Prop
 | .leaf r => ∃ s,v = .iface 191 (.agg #[s]) ∧ RowR W s r
 | .branch r => ∃ s,v = .iface 214 (.agg #[s]) ∧ RowS W s r
def RowTag (W : World) (b : Nat) : Prop := TagAt W 156 b ∨ TagAt W 234 b
theorem NodeV.off {F : Nat → Prop} {W W' : World} {v : Value} {n : Node Box} (h : NodeV W v n) (ho : Off F W W') (hF : ∀ b,F b → ¬ RowTag W b) : NodeV W' v n := by
 cases n with
 | leaf r => obtain ⟨s,h1,h2⟩ := h; exact ⟨s,h1,h2.off pkR ho fun b hb ht => hF b hb (.inl ht)⟩
 | branch r => obtain ⟨s,h1,h2⟩ := h; exact ⟨s,h1,h2.off pkS ho fun b hb ht => hF b hb (.inr ht)⟩
theorem NodeV.below {W W' : World} {v : Value} {n : Node Box} (h : NodeV W v n) (hb : Below W.heap.size W W') : NodeV W' v n := h.off (F := fun _ => False) (Off.of_below hb) (fun _ h => h.elim)
def PartsV (W : World) (pv : Value) (ps : List (Node Box)) : Prop :=
 (ps = [] ∧ pv = .slice none 0 0) ∨
 (∃ g v p,ps = [p] ∧ pv = .slice (some ⟨g, 0,none⟩) 1 1 ∧ Blk W g 175 #[v] ∧ NodeV W v p) ∨
 (∃ g v v' p p',ps = [p,p'] ∧ pv = .slice (some ⟨g, 0,none⟩) 2 2 ∧ Blk W g 175 #[v,v'] ∧ NodeV W v p ∧ NodeV W v' p')
theorem ta_ll (x : Value) (w : World) : (Instr.typeAssert (.iface 191 x) 175 191 true).run Tryz.prog w = .ok (.tuple #[x, .bool true]) w := by
 simp [Instr.typeAssert,run_underlying Tryz.underlying191]
theorem ta_lb (x : Value) (w : World) : (Instr.typeAssert (.iface 214 x) 175 191 true).run Tryz.prog w = .ok (.tuple #[.agg #[.slice none 0 0], .bool false]) w := by
 simp [Instr.typeAssert,run_underlying Tryz.underlying191,Tryz.zeroValue191]
theorem ta_bb (x : Value) (w : World) : (Instr.typeAssert (.iface 214 x) 175 214 true).run Tryz.prog w = .ok (.tuple #[x, .bool true]) w := by
 simp [Instr.typeAssert,run_underlying Tryz.underlying214]
theorem ta_bl (x : Value) (w : World) : (Instr.typeAssert (.iface 191 x) 175 214 true).run Tryz.prog w = .ok (.tuple #[.agg #[.slice none 0 0], .bool false]) w := by
 simp [Instr.typeAssert,run_underlying Tryz.underlying214,Tryz.zeroValue214]
--BEGIN
set_option maxHeartbeats 1000000 in
theorem poorL_any (w : World) (v : Value) (r : List (Key × Box)) (h : RowR w v r) :
  Calls Tryz.prog 258 #[.agg #[v]] w fun e w' => e = .returned (.bool (Node.leaf r : Node Box).poor) ∧ Below w.heap.size w w' := by
 obtain ⟨a,c,rfl,hn,hc⟩ := h.len pkR
 have e : (Node.leaf r : Node Box).poor = decide ((r.length : Int) < 5) := decide_eq_decide.2 (by simp only [Node.size,Node.most]; omega)
 rw [e]
 clear e h
 go_enter Tryz.func258,Tryz.ntmps258
 go_wp2
 go_ret
 exact ⟨ret_bool (decide_eq_decide.2 (by omega)),(Below.refl _ _).alloc (Nat.le_refl _) _⟩
open Classical in
set_option maxHeartbeats 1000000 in
theorem soundL_any (w : World) (v : Value) (r : List (Key × Box)) (h : RowR w v r) :
  Calls Tryz.prog 259 #[.agg #[v]] w fun e w' => e = .returned (.bool (decide (0 < r.length ∧ Rising r))) ∧ Below w.heap.size w w' := by
 obtain ⟨a,c,rfl,hn,hc⟩ := h.len pkR
 have hb0 : Below w.heap.size w (w.alloc (.cells #[.slice a r.length c] 191)) := (Below.refl _ _).alloc (Nat.le_refl _) _
 have hcon := risingR_any _ _ r (h.below pkR hb0)
 by_cases h0 : 0 < r.length
 ·have h0' : (0 : Int) < (r.length : Int) := by omega
  have e : decide (0 < r.length ∧ Rising r) = decide (Rising r) := by simp [h0]
  rw [e]
  generalize decide (Rising r) = f at hcon ⊢
  clear e h
  go_enter Tryz.func259,Tryz.ntmps259
  go_wp2_with (go_at_call 254; refine hcon.mono ?_; rintro e w1 ⟨rfl,hb1⟩)
  go_ret
  exact ⟨rfl,hb0.trans (hb1.mono (by simp))⟩
 ·have e : decide (0 < r.length ∧ Rising r) = false := by simp [h0]
  have t0 : decide ((0 : Int) < (r.length : Int)) = false := decide_eq_false (by omega)
  have t1 : decide (0 < r.length) = false := decide_eq_false (by omega)
  rw [e]
  clear e h hcon
  go_enter Tryz.func259,Tryz.ntmps259
  go_wp2
  go_ret
  exact ⟨rfl,hb0⟩
set_option maxHeartbeats 1000000 in
theorem asL_any (w : World) (a : Option Addr) (n c : Nat) :
  Calls Tryz.prog 264 #[.slice a n c] w fun e w' => e = .returned (.iface 191 (.agg #[.slice a n c])) ∧ w' = w := by
 go_enter Tryz.func264,Tryz.ntmps264
 go_wp2
 go_ret
 exact ⟨rfl,rfl⟩
set_option maxRecDepth 100000 in
set_option maxHeartbeats 2000000 in
theorem partsL_any (w : World) (v : Value) (r : List (Key × Box)) (h : RowR w v r) (hr : r.length ≤ 1000) :
  Calls Tryz.prog 263 #[v, .int .i64 10, .func (.func 264) #[] #[]] w fun e w' => ∃ pv,e = .returned pv ∧ PartsV w' pv (Node.leaf r : Node Box).parts ∧ Below w.heap.size w w' := by
 rcases h with ⟨rfl,rfl⟩ | ⟨b,o,c,cur,rfl,h2,h3,h4,h5⟩
 ·go_enter Tryz.func263,Tryz.ntmps263
  go_wp2
  go_ret
  exact ⟨_,rfl, .inl ⟨by simp [Node.parts,Node.size],rfl⟩,Below.refl _ _⟩
 ·have hrow : RowR w (.slice (some ⟨b,o,none⟩) r.length c) r := .inr ⟨b,o,c,cur,rfl,h2,h3,h4,h5⟩
  unfold maxLen at h3
  have hps : ∀ n,r.length = n → (Node.leaf r : Node Box).parts = if n = 0 then [] else if n ≤ 10 then [.leaf r] else [.leaf (r.take (n / 2)), .leaf (r.drop (n / 2))] := fun n hn => by subst hn; rfl
  have h1s : RowR w (.slice (some ⟨b,o,none⟩) (r.length / 2) c) (r.take (r.length / 2)) := hrow.take pkR (by omega)
  have h2s : RowR w (.slice (some ⟨b,o + r.length / 2 * 6,none⟩) (r.length - r.length / 2) (c - r.length / 2)) (r.drop (r.length / 2)) := hrow.drop pkR (by omega)
  have hps := hps _ rfl
  obtain ⟨n,hn⟩ : ∃ n,r.length = n := ⟨_,rfl⟩
  rw [hn] at hrow h1s h2s hps hr h2 ⊢
  clear hn h4 h5
  have hb0 : ∀ o,Below w.heap.size w (w.alloc o) := fun o => (Below.refl _ _).alloc (Nat.le_refl _) _
  by_cases h0 : n = 0
  ·rw [if_pos h0] at hps
   rw [hps]
   subst h0
   clear hps hrow h1s h2s
   go_enter Tryz.func263,Tryz.ntmps263
   go_wp2
   go_ret
   exact ⟨_,rfl, .inl ⟨rfl,rfl⟩,Below.refl _ _⟩
  ·have t0' : ((n : Int) == 0) = false := by simp; omega
   rw [if_neg h0] at hps
   by_cases h1 : n ≤ 10
   ·rw [if_pos h1] at hps
    rw [hps]
    have h1' : (n : Int) ≤ 10 := by omega
    have hrow2 := hrow.below pkR (hb0 (.cells #[.iface 191 (.agg #[.slice (some ⟨b,o,none⟩) n c])] 175))
    clear hps hrow h1s h2s
    go_enter Tryz.func263,Tryz.ntmps263
    go_wp2_with (first | (go_at_call 264; refine (asL_any _ _ _ _).mono ?_; rintro e w' ⟨rfl,rfl⟩) | (go_at_fn 264; refine (asL_any _ _ _ _).mono ?_; rintro e w' ⟨rfl,rfl⟩))
    go_ret
    exact ⟨_,rfl, .inr (.inl ⟨_,_,_,rfl,rfl,Blk.new _ 175 _,⟨_,rfl,hrow2⟩⟩),hb0 _⟩
   ·have h1' : decide ((n : Int) ≤ 10) = false := decide_eq_false (by omega)
    have h1'' : decide (n ≤ 10) = false := decide_eq_false (by omega)
    rw [if_neg h1] at hps
    rw [hps]
    obtain ⟨m,hm⟩ : ∃ m,n / 2 = m := ⟨_,rfl⟩
    rw [hm] at h1s h2s ⊢
    have q1 : ((n : Int)).tdiv 2 = (m : Int) := by rw [Int.tdiv_eq_ediv_of_nonneg (by omega)]; omega
    have q2 : ((n : Int)) / 2 = (m : Int) := by omega
    have q3 : (m : Int) ≤ (c : Int) := by omega
    have q4 : (m : Int) ≤ (n : Int) := by omega
    have hcm : ¬ c = m := by omega
    have hb1 : ∀ o,Below w.heap.size w (w.alloc o).drew := fun o => (hb0 o).drew
    have r1 := h1s.below pkR (hb1 (.cells #[.iface 191 (.agg #[.slice (some ⟨b,o,none⟩) m c]), .iface 191 (.agg #[.slice (some ⟨b,o + m * 6,none⟩) (n - m) (c - m)])] 175))
    have r2 := h2s.below pkR (hb1 (.cells #[.iface 191 (.agg #[.slice (some ⟨b,o,none⟩) m c]), .iface 191 (.agg #[.slice (some ⟨b,o + m * 6,none⟩) (n - m) (c - m)])] 175))
    clear hps hrow hm h1s h2s
    go_enter Tryz.func263,Tryz.ntmps263
    go_wp2
    go_region_held3 (fun _ => True) (trivial)
     (first
      | (go_at_call 264; refine (asL_any _ _ _ _).mono ?_; rintro e w' ⟨rfl,rfl⟩)
      | (go_at_fn 264; refine (asL_any _ _ _ _).mono ?_; rintro e w' ⟨rfl,rfl⟩))
    go_wp2
    go_ret
    exact ⟨_,rfl, .inr (.inr ⟨_,_,_,_,_,rfl,rfl,(Blk.new _ 175 _).drew,⟨_,rfl,r1⟩,⟨_,rfl,r2⟩⟩),hb1 _⟩
set_option maxHeartbeats 1000000 in
theorem lparts_any (w : World) (v : Value) (r : List (Key × Box)) (h : RowR w v r) (hr : r.length ≤ 1000) :
  Calls Tryz.prog 257 #[.agg #[v]] w fun e w' => ∃ pv,e = .returned pv ∧ PartsV w' pv (Node.leaf r : Node Box).parts ∧ Below w.heap.size w w' := by
 obtain ⟨a,c,rfl,hn,hc⟩ := h.len pkR
 have hb0 : Below w.heap.size w (w.alloc (.cells #[.slice a r.length c] 191)) := (Below.refl _ _).alloc (Nat.le_refl _) _
 have hcon := partsL_any _ _ r (h.below pkR hb0) hr
 clear h
 go_enter Tryz.func257,Tryz.ntmps257
 go_wp2_with (go_at_call 263; refine hcon.mono ?_; rintro e w1 ⟨pv,rfl,hp,hb1⟩)
 go_ret
 exact ⟨_,rfl,hp,hb0.trans (hb1.mono (by simp))⟩
set_option maxRecDepth 100000 in
set_option maxHeartbeats 1000000 in
theorem ljoin_any (w : World) (v u : Value) (r q : List (Key × Box)) (h : RowR w v r) (hu : RowR w u q) (hr : r.length ≤ 1000) (hq : q.length ≤ 1000) :
  Calls Tryz.prog 256 #[.agg #[v], .iface 191 (.agg #[u])] w fun e w' => ∃ v',e = .returned (.iface 191 (.agg #[v'])) ∧ RowR w' v' (r ++ q) ∧ Below w.heap.size w w' := by
 obtain ⟨a,c,rfl,hn,hc⟩ := h.len pkR
 obtain ⟨a',c',rfl,hn',hc'⟩ := hu.len pkR
 have hb0 : Below w.heap.size w ((w.alloc (.cells #[.slice a r.length c] 191)).alloc (.cells #[.slice a' q.length c'] 191)) := ((Below.refl _ _).alloc (Nat.le_refl _) _).alloc (by simp) _
 have hcon := swapR_any _ _ r (h.below pkR hb0) r.length r.length (Nat.le_refl _) (Nat.le_refl _) _ q (Src.of_row (hu.below pkR hb0) entC_one) hr hq
 rw [List.take_length,List.drop_length,List.append_nil] at hcon
 have hta := fun x w => ta_ll x w
 clear h hu
 go_enter Tryz.func256,Tryz.ntmps256
 go_wp2_with (go_at_call 146; refine hcon.mono ?_; rintro e w1 ⟨v',rfl,hp,hb1⟩; obtain ⟨a2,c2,rfl,_,_⟩ := hp.len pkR)
 go_ret
 exact ⟨_,rfl,(by rw [List.length_append] at hp; exact hp),hb0.trans (hb1.mono (by simp; omega))⟩
--END
theorem src_one {W : World} {b : Nat} {x : Key × Box} (h : Blk W b 156 #[.int .i64 x.1.1, .int .i64 x.1.2, .int .i64 (x.2.a : Int), .int .i64 (x.2.b : Int), .int .i64 (x.2.c : Int), .int .i64 (x.2.d : Int)]) : RowR W (.slice (some ⟨b, 0,none⟩) 1 1) [x] :=
 .inr ⟨b, 0, 1,_,rfl,Nat.le_refl _,by unfold maxLen; omega,h,by simp [flat,pkR,entC]⟩
abbrev entO (x : Key × Box) : Obj := .cells #[.int .i64 x.1.1, .int .i64 x.1.2, .int .i64 (x.2.a : Int), .int .i64 (x.2.b : Int), .int .i64 (x.2.c : Int), .int .i64 (x.2.d : Int)] 156
set_option maxRecDepth 100000 in
set_option maxHeartbeats 2000000 in
theorem lwith_any (w : World) (v : Value) (r : List (Key × Box)) (h : RowR w v r) (hr : Rising r) (hl : r.length ≤ 999) (x : Key × Box) :
  Calls Tryz.prog 114 #[.agg #[v],entV x] w fun e w' => ∃ v',e = .returned (.agg #[v']) ∧ RowR w' v' (ins x.1 x.2 r) ∧ Below w.heap.size w w' := by
 obtain ⟨a,c,rfl,hn,hc⟩ := h.len pkR
 have hins := ins_eq x.1 x.2 hr
 have hle := lbn_le x.1 r
 have hb0 : Below w.heap.size w (((w.alloc (.cells #[.slice a r.length c] 191)).alloc (entO x)).alloc (.cells #[.slice none 0 0] 191)) := (((Below.refl _ _).alloc (Nat.le_refl _) _).alloc (by simp) _).alloc (by simp; omega) _
 have B0 : Blk (((w.alloc (.cells #[.slice a r.length c] 191)).alloc (entO x)).alloc (.cells #[.slice none 0 0] 191)) w.heap.size 191 #[.slice a r.length c] := ((Blk.new w 191 _).alloc _).alloc _
 have B1 : Blk (((w.alloc (.cells #[.slice a r.length c] 191)).alloc (entO x)).alloc (.cells #[.slice none 0 0] 191)) (w.heap.size + 1) 156 #[.int .i64 x.1.1, .int .i64 x.1.2, .int .i64 (x.2.a : Int), .int .i64 (x.2.b : Int), .int .i64 (x.2.c : Int), .int .i64 (x.2.d : Int)] := by
  have := (Blk.new (w.alloc (.cells #[.slice a r.length c] 191)) 156 #[.int .i64 x.1.1, .int .i64 x.1.2, .int .i64 (x.2.a : Int), .int .i64 (x.2.b : Int), .int .i64 (x.2.c : Int), .int .i64 (x.2.d : Int)]).alloc (.cells #[.slice none 0 0] 191)
  rwa [World.size_alloc] at this
 have B2 : Blk (((w.alloc (.cells #[.slice a r.length c] 191)).alloc (entO x)).alloc (.cells #[.slice none 0 0] 191)) (w.heap.size + 1 + 1) 191 #[.slice none 0 0] := by
  have := Blk.new ((w.alloc (.cells #[.slice a r.length c] 191)).alloc (entO x)) 191 #[.slice none 0 0]
  rwa [World.size_alloc,World.size_alloc] at this
 have hfind := findR_any _ _ r (h.below pkR hb0) hr x.1
 obtain ⟨W0,hW0⟩ : ∃ W0,((w.alloc (.cells #[.slice a r.length c] 191)).alloc (entO x)).alloc (.cells #[.slice none 0 0] 191) = W0 := ⟨_,rfl⟩
 rw [hW0] at hb0 B0 B1 B2 hfind
 obtain ⟨i,hi⟩ : ∃ i,lbn x.1 r = i := ⟨_,rfl⟩
 have hswap : ∀ w1,Below W0.heap.size W0 w1 → ∀ j : Nat,j = (if fnd x.1 r then i + 1 else i) →
   Calls Tryz.prog 146 #[.slice a r.length c, .int .i64 (i : Int), .int .i64 (j : Int), .slice (some ⟨w1.heap.size, 0,none⟩) 1 1] (w1.alloc (entO x)) fun e w' => ∃ v',e = .returned v' ∧ RowR w' v' (ins x.1 x.2 r) ∧ Below W0.heap.size W0 w' := fun w1 hb1 j hj => by
  have hb2 : Below w.heap.size w w1 := hb0.trans (hb1.mono hb0.size)
  have hb3 : ∀ ob,Below w.heap.size w (w1.alloc ob) := fun ob => hb2.alloc hb2.size ob
  have hjl : j ≤ r.length := by
   subst hj
   cases hf : fnd x.1 r with
   | false => simp; omega
   | true => obtain ⟨v,e⟩ := lbn_found hr hf; have := (List.getElem?_eq_some_iff.1 e).1; simp; omega
  refine (swapR_any _ _ r (h.below pkR (hb3 _)) i j (by subst hj; split <;> omega) hjl _ [x] (Src.of_row (src_one (Blk.new w1 156 _)) entC_one) (by omega) (by simp)).mono ?_
  rintro e w' ⟨v',rfl,hp,hb⟩
  refine ⟨v',rfl, ?_,(hb1.alloc hb1.size _).trans (hb.mono (hb1.alloc hb1.size _).size)⟩
  rw [← hins,hi, ← hj]
  exact hp
 rw [hi] at hfind
 have hil : i ≤ 999 := by omega
 have hwr : wrap64 ((i : Int) + 1) = ((i + 1 : Nat) : Int) := by unfold wrap64; omega
 clear h hins hi hle
 have harm : ∀ w1,Below W0.heap.size W0 w1 → w1.cell? ⟨w.heap.size, 0,none⟩ = some (.slice a r.length c) ∧ w1.cell? ⟨w.heap.size + 1, 0,none⟩ = some (.int .i64 x.1.1) ∧ w1.cell? ⟨w.heap.size + 1, 1,none⟩ = some (.int .i64 x.1.2) ∧ w1.cell? ⟨w.heap.size + 1, 2,none⟩ = some (.int .i64 (x.2.a : Int)) ∧ w1.cell? ⟨w.heap.size + 1, 3,none⟩ = some (.int .i64 (x.2.b : Int)) ∧ w1.cell? ⟨w.heap.size + 1, 4,none⟩ = some (.int .i64 (x.2.c : Int)) ∧ w1.cell? ⟨w.heap.size + 1, 5,none⟩ = some (.int .i64 (x.2.d : Int)) ∧ w1.cell? ⟨w.heap.size + 1 + 1, 0,none⟩ = some (.slice none 0 0) ∧ w1.frozen? ⟨w.heap.size + 1 + 1, 0,none⟩ = false := fun w1 hb1 => by
  have b0 := B0.below hb1 B0.lt
  have b1 := B1.below hb1 B1.lt
  have b2 := B2.below hb1 B2.lt
  exact ⟨b0.cell 0,b1.cell 0,b1.cell 1,b1.cell 2,b1.cell 3,b1.cell 4,b1.cell 5,b2.cell 0,b2.frozen 0⟩
 have hend : ∀ w2 v',RowR w2 v' (ins x.1 x.2 r) → Below W0.heap.size W0 w2 → RowR (w2.setCell ⟨w.heap.size + 1 + 1, 0,none⟩ v') v' (ins x.1 x.2 r) ∧ Below w.heap.size w (w2.setCell ⟨w.heap.size + 1 + 1, 0,none⟩ v') := fun w2 v' hp hb => by
  have b2 := B2.below hb B2.lt
  refine ⟨hp.off pkR (Off.one w2 v') (fun b hb' ht => ?_),(hb0.trans (hb.mono hb0.size)).setCell (p := ⟨w.heap.size + 1 + 1, 0,none⟩) (by simp only; omega) _⟩
  obtain ⟨cs,hcs⟩ := ht
  exact tag_ne b2 hcs (by decide) hb'
 have HH : Hid _ := hend
 have HW : Hid (((w.alloc (.cells #[.slice a r.length c] 191)).alloc (entO x)).alloc (.cells #[.slice none 0 0] 191) = W0) := hW0
 clear hend B0 B1 B2 hW0
 cases hf : fnd x.1 r with
 | true =>
  rw [hf] at hfind hswap
  have hsw0 := fun w1 hb1 => hswap w1 hb1 (i + 1) rfl
  clear hswap
  go_enter Tryz.func114,Tryz.ntmps114
  go_wp2_with (first
   | (go_at_call 145; rw [HW.out]; refine hfind.mono ?_; rintro e w1 ⟨rfl,hb1⟩; have hsw := hsw0 w1 hb1; obtain ⟨d0,d1,d2,d3,d4,d5,d6,_,_⟩ := harm w1 hb1; have hwl := hb1.size; clear hsw0)
   | (go_at_call 146; refine hsw.mono ?_; rintro e w2 ⟨v',rfl,hp,hb2⟩; obtain ⟨a2,c2,rfl,_,_⟩ := hp.len pkR; obtain ⟨_,_,_,_,_,_,_,d7,d8⟩ := harm w2 hb2; obtain ⟨he1,he2⟩ := HH.out _ _ hp hb2))
  exact bodyPost_ret (v := .agg #[.slice a2 (ins x.1 x.2 r).length c2]) (by simp [results,Tryz.results114,go_sem,d7]) rfl ⟨_,rfl,he1,he2⟩
 | false =>
  rw [hf] at hfind hswap
  have hsw0 := fun w1 hb1 => hswap w1 hb1 i rfl
  clear hswap
  go_enter Tryz.func114,Tryz.ntmps114
  go_wp2_with (first
   | (go_at_call 145; rw [HW.out]; refine hfind.mono ?_; rintro e w1 ⟨rfl,hb1⟩; have hsw := hsw0 w1 hb1; obtain ⟨d0,d1,d2,d3,d4,d5,d6,_,_⟩ := harm w1 hb1; have hwl := hb1.size; clear hsw0)
   | (go_at_call 146; refine hsw.mono ?_; rintro e w2 ⟨v',rfl,hp,hb2⟩; obtain ⟨a2,c2,rfl,_,_⟩ := hp.len pkR; obtain ⟨_,_,_,_,_,_,_,d7,d8⟩ := harm w2 hb2; obtain ⟨he1,he2⟩ := HH.out _ _ hp hb2))
  exact bodyPost_ret (v := .agg #[.slice a2 (ins x.1 x.2 r).length c2]) (by simp [results,Tryz.results114,go_sem,d7]) rfl ⟨_,rfl,he1,he2⟩
set_option maxRecDepth 100000 in
set_option maxHeartbeats 2000000 in
theorem lwithout_any (w : World) (v : Value) (r : List (Key × Box)) (h : RowR w v r) (hr : Rising r) (hl : r.length ≤ 999) (k : Key) :
  Calls Tryz.prog 137 #[.agg #[v],keyV k] w fun e w' => ∃ v',e = .returned (.agg #[v']) ∧ RowR w' v' (del k r) ∧ Below w.heap.size w w' := by
 obtain ⟨a,c,rfl,hn,hc⟩ := h.len pkR
 have hdel := del_eq k hr
 have hle := lbn_le k r
 have hb0 : Below w.heap.size w (((w.alloc (.cells #[.slice a r.length c] 191)).alloc (.cells #[.int .i64 k.1, .int .i64 k.2] 154)).alloc (.cells #[.slice none 0 0] 191)) := (((Below.refl _ _).alloc (Nat.le_refl _) _).alloc (by simp) _).alloc (by simp; omega) _
 have B0 : Blk (((w.alloc (.cells #[.slice a r.length c] 191)).alloc (.cells #[.int .i64 k.1, .int .i64 k.2] 154)).alloc (.cells #[.slice none 0 0] 191)) w.heap.size 191 #[.slice a r.length c] := ((Blk.new w 191 _).alloc _).alloc _
 have B2 : Blk (((w.alloc (.cells #[.slice a r.length c] 191)).alloc (.cells #[.int .i64 k.1, .int .i64 k.2] 154)).alloc (.cells #[.slice none 0 0] 191)) (w.heap.size + 1 + 1) 191 #[.slice none 0 0] := by
  have := Blk.new ((w.alloc (.cells #[.slice a r.length c] 191)).alloc (.cells #[.int .i64 k.1, .int .i64 k.2] 154)) 191 #[.slice none 0 0]
  rwa [World.size_alloc,World.size_alloc] at this
 have hfind := findR_any _ _ r (h.below pkR hb0) hr k
 obtain ⟨W0,hW0⟩ : ∃ W0,((w.alloc (.cells #[.slice a r.length c] 191)).alloc (.cells #[.int .i64 k.1, .int .i64 k.2] 154)).alloc (.cells #[.slice none 0 0] 191) = W0 := ⟨_,rfl⟩
 rw [hW0] at hb0 B0 B2 hfind
 obtain ⟨i,hi⟩ : ∃ i,lbn k r = i := ⟨_,rfl⟩
 rw [hi] at hfind
 have hil : i ≤ 999 := by omega
 have hwr : wrap64 ((i : Int) + 1) = ((i + 1 : Nat) : Int) := by unfold wrap64; omega
 have harm : ∀ w1,Below W0.heap.size W0 w1 → w1.cell? ⟨w.heap.size, 0,none⟩ = some (.slice a r.length c) ∧ w1.cell? ⟨w.heap.size + 1 + 1, 0,none⟩ = some (.slice none 0 0) ∧ w1.frozen? ⟨w.heap.size + 1 + 1, 0,none⟩ = false := fun w1 hb1 => by
  have b0 := B0.below hb1 B0.lt
  have b2 := B2.below hb1 B2.lt
  exact ⟨b0.cell 0,b2.cell 0,b2.frozen 0⟩
 have hend : ∀ w2 v',RowR w2 v' (del k r) → Below W0.heap.size W0 w2 → RowR (w2.setCell ⟨w.heap.size + 1 + 1, 0,none⟩ v') v' (del k r) ∧ Below w.heap.size w (w2.setCell ⟨w.heap.size + 1 + 1, 0,none⟩ v') := fun w2 v' hp hb => by
  have b2 := B2.below hb B2.lt
  refine ⟨hp.off pkR (Off.one w2 v') (fun b hb' ht => ?_),(hb0.trans (hb.mono hb0.size)).setCell (p := ⟨w.heap.size + 1 + 1, 0,none⟩) (by simp only; omega) _⟩
  obtain ⟨cs,hcs⟩ := ht
  exact tag_ne b2 hcs (by decide) hb'
 have HH : Hid _ := hend
 have HW : Hid (((w.alloc (.cells #[.slice a r.length c] 191)).alloc (.cells #[.int .i64 k.1, .int .i64 k.2] 154)).alloc (.cells #[.slice none 0 0] 191) = W0) := hW0
 clear hend B0 B2 hW0
 cases hf : fnd k r with
 | true =>
  rw [hf] at hfind hdel
  have hjl : i + 1 ≤ r.length := by obtain ⟨v,e⟩ := lbn_found hr hf; have := (List.getElem?_eq_some_iff.1 e).1; omega
  rw [if_pos rfl,hi] at hdel
  have hsw0 : ∀ w1,Below W0.heap.size W0 w1 → Calls Tryz.prog 146 #[.slice a r.length c, .int .i64 (i : Int), .int .i64 ((i + 1 : Nat) : Int), .slice none 0 0] w1 fun e w' => ∃ v',e = .returned v' ∧ RowR w' v' (del k r) ∧ Below W0.heap.size W0 w' := fun w1 hb1 => by
   have hb2 : Below w.heap.size w w1 := hb0.trans (hb1.mono hb0.size)
   refine (swapR_any _ _ r (h.below pkR hb2) i (i + 1) (by omega) hjl _ [] (Src.of_row (Row.nil pkR w1) entC_one) (by omega) (by simp)).mono ?_
   rintro e w' ⟨v',rfl,hp,hb⟩
   refine ⟨v',rfl, ?_,hb1.trans (hb.mono hb1.size)⟩
   rw [← hdel]
   rwa [List.append_nil] at hp
  clear h hdel hi hle
  go_enter Tryz.func137,Tryz.ntmps137
  go_wp2_with (first
   | (go_at_call 145; rw [HW.out]; refine hfind.mono ?_; rintro e w1 ⟨rfl,hb1⟩; have hsw := hsw0 w1 hb1; obtain ⟨d0,_,_⟩ := harm w1 hb1; have hwl := hb1.size; clear hsw0)
   | (go_at_call 146; refine hsw.mono ?_; rintro e w2 ⟨v',rfl,hp,hb2⟩; obtain ⟨a2,c2,rfl,_,_⟩ := hp.len pkR; obtain ⟨_,d7,d8⟩ := harm w2 hb2; obtain ⟨he1,he2⟩ := HH.out _ _ hp hb2))
  exact bodyPost_ret (v := .agg #[.slice a2 (del k r).length c2]) (by simp [results,Tryz.results137,go_sem,d7]) rfl ⟨_,rfl,he1,he2⟩
 | false =>
  rw [hf] at hfind hdel
  rw [if_neg (by simp)] at hdel
  have hrow0 : ∀ w1,Below W0.heap.size W0 w1 → RowR w1 (.slice a r.length c) (del k r) := fun w1 hb1 => by
   rw [← hdel]; exact h.below pkR (hb0.trans (hb1.mono hb0.size))
  clear h hdel hi hle
  go_enter Tryz.func137,Tryz.ntmps137
  go_wp2_with (first
   | (go_at_call 145; rw [HW.out]; refine hfind.mono ?_; rintro e w1 ⟨rfl,hb1⟩; obtain ⟨d0,d7,d8⟩ := harm w1 hb1; have hwl := hb1.size; obtain ⟨he1,he2⟩ := HH.out _ _ (hrow0 w1 hb1) hb1))
  exact bodyPost_ret (v := .agg #[.slice a r.length c]) (by simp [results,Tryz.results137,go_sem,d7]) rfl ⟨_,rfl,he1,he2⟩
end
end Go.Proofs.YtdgbgmffpcooeaaGreat
