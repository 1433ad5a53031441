/- N1S B3 -/
import Derived.Test.YtdgbgmffpcooeaaGreatU10
namespace Go.Proofs.YtdgbgmffpcooeaaGreat
open Go.RowKit Go.Lib
section
set_option maxHeartbeats 1000000 in
theorem poorB_any (w : World) (v : Value) (r : List (Key × Nat)) (h : RowS w v r) :
  Calls Tryz.prog 272 #[.agg #[v]] w fun e w' => e = .returned (.bool (Node.branch r : Node Box).poor) ∧ Below w.heap.size w w' := by
 obtain ⟨a,c,rfl,hn,hc⟩ := h.len pkS
 have e : (Node.branch r : Node Box).poor = decide ((r.length : Int) < 7) := decide_eq_decide.2 (by simp only [Node.size,Node.most]; omega)
 rw [e]
 clear e h
 go_enter Tryz.func272,Tryz.ntmps272
 go_wp2
 go_ret
 exact ⟨ret_bool (decide_eq_decide.2 (by omega)),(Below.refl _ _).alloc (Nat.le_refl _) _⟩
open Classical in
set_option maxHeartbeats 1000000 in
theorem soundB_any (w : World) (v : Value) (r : List (Key × Nat)) (h : RowS w v r) :
  Calls Tryz.prog 273 #[.agg #[v]] w fun e w' => e = .returned (.bool (decide (1 < r.length ∧ Rising r))) ∧ Below w.heap.size w w' := by
 obtain ⟨a,c,rfl,hn,hc⟩ := h.len pkS
 have hb0 : Below w.heap.size w (w.alloc (.cells #[.slice a r.length c] 214)) := (Below.refl _ _).alloc (Nat.le_refl _) _
 have hcon := risingS_any _ _ r (h.below pkS hb0)
 by_cases h0 : 1 < r.length
 ·have h0' : (1 : Int) < (r.length : Int) := by omega
  have e : decide (1 < r.length ∧ Rising r) = decide (Rising r) := by simp [h0]
  rw [e]
  generalize decide (Rising r) = f at hcon ⊢
  clear e h
  go_enter Tryz.func273,Tryz.ntmps273
  go_wp2_with (go_at_call 268; refine hcon.mono ?_; rintro e w1 ⟨rfl,hb1⟩)
  go_ret
  exact ⟨rfl,hb0.trans (hb1.mono (by simp))⟩
 ·have e : decide (1 < r.length ∧ Rising r) = false := by simp [h0]
  have t0 : decide ((1 : Int) < (r.length : Int)) = false := decide_eq_false (by omega)
  have t1 : decide (1 < r.length) = false := decide_eq_false (by omega)
  rw [e]
  clear e h hcon
  go_enter Tryz.func273,Tryz.ntmps273
  go_wp2
  go_ret
  exact ⟨rfl,hb0⟩
set_option maxHeartbeats 1000000 in
theorem asB_any (w : World) (a : Option Addr) (n c : Nat) :
  Calls Tryz.prog 277 #[.slice a n c] w fun e w' => e = .returned (.iface 214 (.agg #[.slice a n c])) ∧ w' = w := by
 go_enter Tryz.func277,Tryz.ntmps277
 go_wp2
 go_ret
 exact ⟨rfl,rfl⟩
set_option maxRecDepth 100000 in
set_option maxHeartbeats 2000000 in
theorem partsB_any (w : World) (v : Value) (r : List (Key × Nat)) (h : RowS w v r) (hr : r.length ≤ 1000) :
  Calls Tryz.prog 276 #[v, .int .i64 14, .func (.func 277) #[] #[]] w fun e w' => ∃ pv,e = .returned pv ∧ PartsV w' pv (Node.branch r : Node Box).parts ∧ Below w.heap.size w w' := by
 rcases h with ⟨rfl,rfl⟩ | ⟨b,o,c,cur,rfl,h2,h3,h4,h5⟩
 ·go_enter Tryz.func276,Tryz.ntmps276
  go_wp2
  go_ret
  exact ⟨_,rfl, .inl ⟨by simp [Node.parts,Node.size],rfl⟩,Below.refl _ _⟩
 ·have hrow : RowS w (.slice (some ⟨b,o,none⟩) r.length c) r := .inr ⟨b,o,c,cur,rfl,h2,h3,h4,h5⟩
  unfold maxLen at h3
  have hps : ∀ n,r.length = n → (Node.branch r : Node Box).parts = if n = 0 then [] else if n ≤ 14 then [.branch r] else [.branch (r.take (n / 2)), .branch (r.drop (n / 2))] := fun n hn => by subst hn; rfl
  have h1s : RowS w (.slice (some ⟨b,o,none⟩) (r.length / 2) c) (r.take (r.length / 2)) := hrow.take pkS (by omega)
  have h2s : RowS w (.slice (some ⟨b,o + r.length / 2 * 3,none⟩) (r.length - r.length / 2) (c - r.length / 2)) (r.drop (r.length / 2)) := hrow.drop pkS (by omega)
  have hps := hps _ rfl
  obtain ⟨n,hn⟩ : ∃ n,r.length = n := ⟨_,rfl⟩
  rw [hn] at hrow h1s h2s hps hr h2 ⊢
  clear hn h4 h5
  have hb0 : ∀ o,Below w.heap.size w (w.alloc o) := fun o => (Below.refl _ _).alloc (Nat.le_refl _) _
  by_cases h0 : n = 0
  ·rw [if_pos h0] at hps
   rw [hps]
   subst h0
   clear hps hrow h1s h2s
   go_enter Tryz.func276,Tryz.ntmps276
   go_wp2
   go_ret
   exact ⟨_,rfl, .inl ⟨rfl,rfl⟩,Below.refl _ _⟩
  ·have t0' : ((n : Int) == 0) = false := by simp; omega
   rw [if_neg h0] at hps
   by_cases h1 : n ≤ 14
   ·rw [if_pos h1] at hps
    rw [hps]
    have h1' : (n : Int) ≤ 14 := by omega
    have hrow2 := hrow.below pkS (hb0 (.cells #[.iface 214 (.agg #[.slice (some ⟨b,o,none⟩) n c])] 175))
    clear hps hrow h1s h2s
    go_enter Tryz.func276,Tryz.ntmps276
    go_wp2_with (first | (go_at_call 277; refine (asB_any _ _ _ _).mono ?_; rintro e w' ⟨rfl,rfl⟩) | (go_at_fn 277; refine (asB_any _ _ _ _).mono ?_; rintro e w' ⟨rfl,rfl⟩))
    go_ret
    exact ⟨_,rfl, .inr (.inl ⟨_,_,_,rfl,rfl,Blk.new _ 175 _,⟨_,rfl,hrow2⟩⟩),hb0 _⟩
   ·have h1' : decide ((n : Int) ≤ 14) = false := decide_eq_false (by omega)
    have h1'' : decide (n ≤ 14) = false := decide_eq_false (by omega)
    rw [if_neg h1] at hps
    rw [hps]
    obtain ⟨m,hm⟩ : ∃ m,n / 2 = m := ⟨_,rfl⟩
    rw [hm] at h1s h2s ⊢
    have q1 : ((n : Int)).tdiv 2 = (m : Int) := by rw [Int.tdiv_eq_ediv_of_nonneg (by omega)]; omega
    have q2 : ((n : Int)) / 2 = (m : Int) := by omega
    have q3 : (m : Int) ≤ (c : Int) := by omega
    have q4 : (m : Int) ≤ (n : Int) := by omega
    have hcm : ¬ c = m := by omega
    have hb1 : ∀ o,Below w.heap.size w (w.alloc o).drew := fun o => (hb0 o).drew
    have r1 := h1s.below pkS (hb1 (.cells #[.iface 214 (.agg #[.slice (some ⟨b,o,none⟩) m c]), .iface 214 (.agg #[.slice (some ⟨b,o + m * 3,none⟩) (n - m) (c - m)])] 175))
    have r2 := h2s.below pkS (hb1 (.cells #[.iface 214 (.agg #[.slice (some ⟨b,o,none⟩) m c]), .iface 214 (.agg #[.slice (some ⟨b,o + m * 3,none⟩) (n - m) (c - m)])] 175))
    clear hps hrow hm h1s h2s
    go_enter Tryz.func276,Tryz.ntmps276
    go_wp2
    go_region_held3 (fun _ => True) (trivial)
     (first
      | (go_at_call 277; refine (asB_any _ _ _ _).mono ?_; rintro e w' ⟨rfl,rfl⟩)
      | (go_at_fn 277; refine (asB_any _ _ _ _).mono ?_; rintro e w' ⟨rfl,rfl⟩))
    go_wp2
    go_ret
    exact ⟨_,rfl, .inr (.inr ⟨_,_,_,_,_,rfl,rfl,(Blk.new _ 175 _).drew,⟨_,rfl,r1⟩,⟨_,rfl,r2⟩⟩),hb1 _⟩
set_option maxHeartbeats 1000000 in
theorem bparts_any (w : World) (v : Value) (r : List (Key × Nat)) (h : RowS w v r) (hr : r.length ≤ 1000) :
  Calls Tryz.prog 271 #[.agg #[v]] w fun e w' => ∃ pv,e = .returned pv ∧ PartsV w' pv (Node.branch r : Node Box).parts ∧ Below w.heap.size w w' := by
 obtain ⟨a,c,rfl,hn,hc⟩ := h.len pkS
 have hb0 : Below w.heap.size w (w.alloc (.cells #[.slice a r.length c] 214)) := (Below.refl _ _).alloc (Nat.le_refl _) _
 have hcon := partsB_any _ _ r (h.below pkS hb0) hr
 clear h
 go_enter Tryz.func271,Tryz.ntmps271
 go_wp2_with (go_at_call 276; refine hcon.mono ?_; rintro e w1 ⟨pv,rfl,hp,hb1⟩)
 go_ret
 exact ⟨_,rfl,hp,hb0.trans (hb1.mono (by simp))⟩
set_option maxRecDepth 100000 in
set_option maxHeartbeats 1000000 in
theorem bjoin_any (w : World) (v u : Value) (r q : List (Key × Nat)) (h : RowS w v r) (hu : RowS w u q) (hr : r.length ≤ 1000) (hq : q.length ≤ 1000) :
  Calls Tryz.prog 270 #[.agg #[v], .iface 214 (.agg #[u])] w fun e w' => ∃ v',e = .returned (.iface 214 (.agg #[v'])) ∧ RowS w' v' (r ++ q) ∧ Below w.heap.size w w' := by
 obtain ⟨a,c,rfl,hn,hc⟩ := h.len pkS
 obtain ⟨a',c',rfl,hn',hc'⟩ := hu.len pkS
 have hb0 : Below w.heap.size w ((w.alloc (.cells #[.slice a r.length c] 214)).alloc (.cells #[.slice a' q.length c'] 214)) := ((Below.refl _ _).alloc (Nat.le_refl _) _).alloc (by simp) _
 have hcon := swapS_any _ _ r (h.below pkS hb0) r.length r.length (Nat.le_refl _) (Nat.le_refl _) _ q (Src.of_row (hu.below pkS hb0) prC_one) hr hq
 rw [List.take_length,List.drop_length,List.append_nil] at hcon
 have hta := fun x w => ta_bb x w
 clear h hu
 go_enter Tryz.func270,Tryz.ntmps270
 go_wp2_with (go_at_call 211; refine hcon.mono ?_; rintro e w1 ⟨v',rfl,hp,hb1⟩; obtain ⟨a2,c2,rfl,_,_⟩ := hp.len pkS)
 go_ret
 exact ⟨_,rfl,(by rw [List.length_append] at hp; exact hp),hb0.trans (hb1.mono (by simp; omega))⟩
set_option maxRecDepth 100000 in
set_option maxHeartbeats 1000000 in
theorem under_any (w : World) (v : Value) (r : List (Key × Nat)) (h : RowS w v r) (hr : Rising r) (hl : r.length ≤ 999) (k : Key) :
  Calls Tryz.prog 152 #[.agg #[v],keyV k] w fun e w' => e = .returned (.int .i64 (undr k r : Int)) ∧ Below w.heap.size w w' := by
 obtain ⟨a,c,rfl,hn,hc⟩ := h.len pkS
 have hb0 : Below w.heap.size w ((w.alloc (.cells #[.slice a r.length c] 214)).alloc (.cells #[.int .i64 k.1, .int .i64 k.2] 154)) := ((Below.refl _ _).alloc (Nat.le_refl _) _).alloc (by simp) _
 have hfind := findS_any _ _ r (h.below pkS hb0) hr k
 have hle := lbn_le k r
 have hu : undr k r = if fnd k r then lbn k r else lbn k r - 1 := rfl
 rw [hu]
 generalize lbn k r = i at hfind hle ⊢
 clear h hu
 cases hf : fnd k r with
 | true =>
  rw [hf] at hfind
  rw [if_pos rfl]
  go_enter Tryz.func152,Tryz.ntmps152
  go_wp2_with (go_at_call 189; refine hfind.mono ?_; rintro e w1 ⟨rfl,hb1⟩)
  go_ret
  exact ⟨rfl,hb0.trans (hb1.mono (by simp; omega))⟩
 | false =>
  rw [hf] at hfind
  rw [if_neg (by simp)]
  by_cases h0 : 0 < i
  ·have h0' : (0 : Int) < (i : Int) := by omega
   have hwr : wrap64 ((i : Int) - 1) = ((i - 1 : Nat) : Int) := by unfold wrap64; omega
   go_enter Tryz.func152,Tryz.ntmps152
   go_wp2_with (go_at_call 189; refine hfind.mono ?_; rintro e w1 ⟨rfl,hb1⟩)
   go_ret
   exact ⟨ret_int (by first | rfl | exact hwr | omega),hb0.trans (hb1.mono (by simp; omega))⟩
  ·obtain rfl : i = 0 := by omega
   go_enter Tryz.func152,Tryz.ntmps152
   go_wp2_with (go_at_call 189; refine hfind.mono ?_; rintro e w1 ⟨rfl,hb1⟩)
   go_ret
   exact ⟨rfl,hb0.trans (hb1.mono (by simp; omega))⟩
end
section
theorem Ink.blk {W : World} {base B : Nat} {bs : List UInt8} (h : Ink W base B bs) : ∃ x,Blk W B 262 #[x] := by obtain ⟨v,h1,_⟩ := h.row; exact ⟨v,h1⟩
theorem Ink.apart {W : World} {base B b t : Nat} {bs : List UInt8} {vs : Array Value} (h : Ink W base B bs) (hb : Blk W b t vs) (ht : t ≠ 262) : b ≠ B := fun e => by
 obtain ⟨x,hx⟩ := h.blk
 subst e
 have hb' : W.heap[b]? = _ := hb
 rw [show W.heap[b]? = _ from hx] at hb'
 simp only [Option.some.injEq,Obj.cells.injEq] at hb'
 exact ht hb'.2.1.symm
theorem ix2 (a b : Value) (w : World) : (Instr.index 154 (.agg #[a,b]) (.int .i64 0)).run Tryz.prog w = .ok a w ∧ (Instr.index 154 (.agg #[a,b]) (.int .i64 1)).run Tryz.prog w = .ok b w := by
 constructor <;> kernel_rfl
theorem ix4 (a b c d : Value) (w : World) : (Instr.index 342 (.agg #[a,b,c,d]) (.int .i64 0)).run Tryz.prog w = .ok a w ∧ (Instr.index 342 (.agg #[a,b,c,d]) (.int .i64 1)).run Tryz.prog w = .ok b w ∧ (Instr.index 342 (.agg #[a,b,c,d]) (.int .i64 2)).run Tryz.prog w = .ok c w ∧ (Instr.index 342 (.agg #[a,b,c,d]) (.int .i64 3)).run Tryz.prog w = .ok d w := by
 refine ⟨?_, ?_, ?_, ?_⟩ <;> kernel_rfl
set_option maxRecDepth 100000 in
set_option maxHeartbeats 1000000 in
theorem ikey_any (w : World) (base B : Nat) (bs : List UInt8) (k : Key) (h : Ink w base B bs) (hb : bs.length + 16 ≤ 1000) :
  Calls Tryz.prog 265 #[.pointer (some ⟨B, 0,none⟩),keyV k] w fun e w' => e = .returned (.tuple #[]) ∧ Ink w' base B (bs ++ keyB k) ∧ Off (InkF w base B) w w' := by
 have hI0 := h.below ((Below.refl _ w).alloc (Nat.le_refl _) (.cells #[.int .i64 k.1, .int .i64 k.2] 154))
 have ho0 : Off (InkF w base B) w (w.alloc (.cells #[.int .i64 k.1, .int .i64 k.2] 154)) := (Off.refl _ _).alloc _
 go_enter Tryz.func265,Tryz.ntmps265
 go_wp2
 go_loopw [7] (fun i wr => ((i = .int .i64 0 ∧ Ink wr base B (bs)) ∨ (i = .int .i64 1 ∧ Ink wr base B (bs ++ numB 8 k.1)) ∨ (i = .int .i64 2 ∧ Ink wr base B (bs ++ numB 8 k.1 ++ numB 8 k.2))) ∧ Off (InkF w base B) w wr) (fun i _ => 2 - (intOf i).toNat)
 case atStart => exact ⟨.inl ⟨rfl,hI0⟩,ho0⟩
 case round =>
  clear hI0 ho0
  have x0 := fun W => (ix2 (.int .i64 k.1) (.int .i64 k.2) W).1
  have x1 := fun W => (ix2 (.int .i64 k.1) (.int .i64 k.2) W).2
  obtain ⟨⟨rfl,hI⟩ | ⟨rfl,hI⟩ | ⟨rfl,hI⟩,ho⟩ := hrel
  ·have hcon := inum_any wr base B _ (k.1) 8 hI (by (try simp only [List.length_append,numB_length]); omega)
   go_wp2_with (go_at_call 185; refine hcon.mono ?_; rintro e w1 ⟨rfl,hI1,ho1⟩)
   go_roundw
   case rel => exact ⟨.inr (.inl ⟨rfl,hI1⟩),InkF.trans ho ho1⟩
   case measure => simp [intOf]
  ·have hcon := inum_any wr base B _ (k.2) 8 hI (by (try simp only [List.length_append,numB_length]); omega)
   go_wp2_with (go_at_call 185; refine hcon.mono ?_; rintro e w1 ⟨rfl,hI1,ho1⟩)
   go_roundw
   case rel => exact ⟨.inr (.inr (⟨rfl,hI1⟩)),InkF.trans ho ho1⟩
   case measure => simp [intOf]
  ·go_wp2
   refine bodyPost_end (v := .tuple #[]) (by simp [results,Tryz.results265]) rfl ⟨rfl, ?_,ho⟩
   simpa [keyB] using hI
set_option maxRecDepth 100000 in
set_option maxHeartbeats 1000000 in
theorem irect_any (w : World) (base B : Nat) (bs : List UInt8) (r : Box) (h : Ink w base B bs) (hb : bs.length + 8 ≤ 1000) :
  Calls Tryz.prog 262 #[.pointer (some ⟨B, 0,none⟩), .agg #[.int .i64 (r.a : Int), .int .i64 (r.b : Int), .int .i64 (r.c : Int), .int .i64 (r.d : Int)]] w fun e w' => e = .returned (.tuple #[]) ∧ Ink w' base B (bs ++ rectB r) ∧ Off (InkF w base B) w w' := by
 have hI0 := h.below ((Below.refl _ w).alloc (Nat.le_refl _) (.cells #[.int .i64 (r.a : Int), .int .i64 (r.b : Int), .int .i64 (r.c : Int), .int .i64 (r.d : Int)] 34))
 have ho0 : Off (InkF w base B) w (w.alloc (.cells #[.int .i64 (r.a : Int), .int .i64 (r.b : Int), .int .i64 (r.c : Int), .int .i64 (r.d : Int)] 34)) := (Off.refl _ _).alloc _
 go_enter Tryz.func262,Tryz.ntmps262
 go_wp2
 go_loopw [15] (fun i wr => ((i = .int .i64 0 ∧ Ink wr base B (bs)) ∨ (i = .int .i64 1 ∧ Ink wr base B (bs ++ numB 2 (r.a : Int))) ∨ (i = .int .i64 2 ∧ Ink wr base B (bs ++ numB 2 (r.a : Int) ++ numB 2 (r.b : Int))) ∨ (i = .int .i64 3 ∧ Ink wr base B (bs ++ numB 2 (r.a : Int) ++ numB 2 (r.b : Int) ++ numB 2 (r.c : Int))) ∨ (i = .int .i64 4 ∧ Ink wr base B (bs ++ numB 2 (r.a : Int) ++ numB 2 (r.b : Int) ++ numB 2 (r.c : Int) ++ numB 2 (r.d : Int)))) ∧ Off (InkF w base B) w wr) (fun i _ => 4 - (intOf i).toNat)
 case atStart => exact ⟨.inl ⟨rfl,hI0⟩,ho0⟩
 case round =>
  clear hI0 ho0
  have x0 := fun W => (ix4 (.int .i64 (r.a : Int)) (.int .i64 (r.b : Int)) (.int .i64 (r.c : Int)) (.int .i64 (r.d : Int)) W).1
  have x1 := fun W => (ix4 (.int .i64 (r.a : Int)) (.int .i64 (r.b : Int)) (.int .i64 (r.c : Int)) (.int .i64 (r.d : Int)) W).2.1
  have x2 := fun W => (ix4 (.int .i64 (r.a : Int)) (.int .i64 (r.b : Int)) (.int .i64 (r.c : Int)) (.int .i64 (r.d : Int)) W).2.2.1
  have x3 := fun W => (ix4 (.int .i64 (r.a : Int)) (.int .i64 (r.b : Int)) (.int .i64 (r.c : Int)) (.int .i64 (r.d : Int)) W).2.2.2
  obtain ⟨⟨rfl,hI⟩ | ⟨rfl,hI⟩ | ⟨rfl,hI⟩ | ⟨rfl,hI⟩ | ⟨rfl,hI⟩,ho⟩ := hrel
  ·have hcon := inum_any wr base B _ ((r.a : Int)) 2 hI (by (try simp only [List.length_append,numB_length]); omega)
   go_wp2_with (go_at_call 185; refine hcon.mono ?_; rintro e w1 ⟨rfl,hI1,ho1⟩)
   go_roundw
   case rel => exact ⟨.inr (.inl ⟨rfl,hI1⟩),InkF.trans ho ho1⟩
   case measure => simp [intOf]
  ·have hcon := inum_any wr base B _ ((r.b : Int)) 2 hI (by (try simp only [List.length_append,numB_length]); omega)
   go_wp2_with (go_at_call 185; refine hcon.mono ?_; rintro e w1 ⟨rfl,hI1,ho1⟩)
   go_roundw
   case rel => exact ⟨.inr (.inr (.inl ⟨rfl,hI1⟩)),InkF.trans ho ho1⟩
   case measure => simp [intOf]
  ·have hcon := inum_any wr base B _ ((r.c : Int)) 2 hI (by (try simp only [List.length_append,numB_length]); omega)
   go_wp2_with (go_at_call 185; refine hcon.mono ?_; rintro e w1 ⟨rfl,hI1,ho1⟩)
   go_roundw
   case rel => exact ⟨.inr (.inr (.inr (.inl ⟨rfl,hI1⟩))),InkF.trans ho ho1⟩
   case measure => simp [intOf]
  ·have hcon := inum_any wr base B _ ((r.d : Int)) 2 hI (by (try simp only [List.length_append,numB_length]); omega)
   go_wp2_with (go_at_call 185; refine hcon.mono ?_; rintro e w1 ⟨rfl,hI1,ho1⟩)
   go_roundw
   case rel => exact ⟨.inr (.inr (.inr (.inr (⟨rfl,hI1⟩)))),InkF.trans ho ho1⟩
   case measure => simp [intOf]
  ·go_wp2
   refine bodyPost_end (v := .tuple #[]) (by simp [results,Tryz.results262]) rfl ⟨rfl, ?_,ho⟩
   simpa [rectB] using hI
theorem ret_str {a b : List UInt8} (h : a = b) : Ending.returned (.string ⟨a.toArray⟩) = .returned (.string ⟨b.toArray⟩) := by rw [h]
--BEGIN
set_option maxHeartbeats 1000000 in
theorem inkR_any (w : World) (base B : Nat) (bs : List UInt8) (r : Box) (h : Ink w base B bs) (hb : bs.length + 8 ≤ 1000) :
  Calls Tryz.prog 261 #[.pointer (some ⟨B, 0,none⟩), .agg #[.int .i64 (r.a : Int), .int .i64 (r.b : Int), .int .i64 (r.c : Int), .int .i64 (r.d : Int)]] w fun e w' => e = .returned (.tuple #[]) ∧ Ink w' base B (bs ++ rectC.B r) ∧ Off (InkF w base B) w w' := by
 have ho0 : Off (InkF w base B) w (w.alloc (.cells #[.int .i64 (r.a : Int), .int .i64 (r.b : Int), .int .i64 (r.c : Int), .int .i64 (r.d : Int)] 34)) := (Off.refl _ _).alloc _
 have hcon := irect_any _ base B bs r (h.below ((Below.refl _ w).alloc (Nat.le_refl _) (.cells #[.int .i64 (r.a : Int), .int .i64 (r.b : Int), .int .i64 (r.c : Int), .int .i64 (r.d : Int)] 34))) hb
 go_enter Tryz.func261,Tryz.ntmps261
 go_wp2_with (go_at_call 262; refine hcon.mono ?_; rintro e w1 ⟨rfl,hI1,ho1⟩)
 refine bodyPost_end (v := .tuple #[]) (by simp [results,Tryz.results261]) rfl ⟨rfl,hI1,InkF.trans ho0 ho1⟩
set_option maxRecDepth 100000 in
set_option maxHeartbeats 2000000 in
theorem nbytesR_any (w : World) (v : Value) (r : List (Key × Box)) (h : RowR w v r) (hl : 2 + r.length * 24 ≤ 256) (kd : Nat) :
  Calls Tryz.prog 260 #[.int .i64 (kd : Int),v, .func (.func 261) #[] #[]] w fun e w' => e = .returned (.string ⟨(rowB rectC kd r).toArray⟩) ∧ Below w.heap.size w w' := by
 obtain ⟨a,c,rfl,hn,hc⟩ := h.len pkR
 have hI0 := Ink.new w
 have hb0 : Below w.heap.size w (w.alloc (.cells #[.slice none 0 0] 262)) := (Below.refl _ _).alloc (Nat.le_refl _) _
 have hn1 := inum_any _ _ _ [] (kd : Int) 1 hI0 (by simp)
 have hn2 : ∀ w1,Ink w1 w.heap.size w.heap.size ([] ++ numB 1 (kd : Int)) → _ := fun w1 h1 => inum_any w1 _ _ _ (r.length : Int) 1 h1 (by simp [numB_length])
 have H2 : Hid _ := hn2
 clear hn2
 go_enter Tryz.func260,Tryz.ntmps260
 go_wp2_with (first
  | (go_at_call 185; refine hn1.mono ?_; clear hn1; rintro e w1 ⟨rfl,hI1,ho1⟩)
  | (go_at_call 185; refine (H2.out _ hI1).mono ?_; rintro e w2 ⟨rfl,hI2,ho2⟩))
 have hb1 : Below w.heap.size w w1 := hb0.trans (InkF.below ho1 (Nat.le_refl _) hb0.size)
 have hb2 : Below w.heap.size w w2 := hb1.trans (InkF.below ho2 (Nat.le_refl _) hb1.size)
 clear hI0 hI1 ho1 ho2 H2 hb0 hb1
 go_loopw [17] (fun x wr => ∃ (i : Nat),x = .int .i64 (i : Int) ∧ i ≤ r.length ∧ Ink wr w.heap.size w.heap.size ([] ++ numB 1 (kd : Int) ++ numB 1 (r.length : Int) ++ pairsB rectC (r.take i)) ∧ Below w.heap.size w wr) (fun x _ => r.length - (intOf x).toNat)
 case atStart => exact ⟨0,rfl,Nat.zero_le _,by simpa [pairsB] using hI2,hb2⟩
 case round =>
  clear hI2 hb2
  obtain ⟨i,rfl,hi,hI,hB⟩ := hrel
  by_cases hlt : i < r.length
  ·have hlt' : (i : Int) < (r.length : Int) := by omega
   obtain ⟨b,o,c',e,g2,g3,hb,_,hcl⟩ := (h.off pkR (F := fun _ => False) (Off.of_below hB) (fun _ h => h.elim)).form pkR (by omega)
   cases e
   obtain ⟨x,hx⟩ : ∃ x,r[i]? = some x := ⟨_,List.getElem?_eq_getElem hlt⟩
   have c0 : wr.cell? ⟨b,o + i * 6,none⟩ = some (.int .i64 x.1.1) := hcl i x hx 0 _ rfl
   have c1 : wr.cell? ⟨b,o + i * 6 + 1,none⟩ = some (.int .i64 x.1.2) := hcl i x hx 1 _ rfl
   have c2 : wr.cell? ⟨b,o + i * 6 + 2,none⟩ = some (.int .i64 (x.2.a : Int)) := hcl i x hx 2 _ rfl
   have c3 : wr.cell? ⟨b,o + i * 6 + 3,none⟩ = some (.int .i64 (x.2.b : Int)) := hcl i x hx 3 _ rfl
   have c4 : wr.cell? ⟨b,o + i * 6 + 4,none⟩ = some (.int .i64 (x.2.c : Int)) := hcl i x hx 4 _ rfl
   have c5 : wr.cell? ⟨b,o + i * 6 + 5,none⟩ = some (.int .i64 (x.2.d : Int)) := hcl i x hx 5 _ rfl
   have hmul := Nat.mul_le_mul_right 24 (show i + 1 ≤ r.length from hlt)
   have hlen : (pairsB rectC (r.take i)).length = i * 24 := by rw [pairsB_length,List.length_take,Nat.min_eq_left (by omega)]; rfl
   have hpb : pairsB rectC (r.take (i + 1)) = pairsB rectC (r.take i) ++ (keyB x.1 ++ rectC.B x.2) := by rw [take_snoc hx]; simp [pairsB,pairB]
   have hB0 : ∀ ob,Below wr.heap.size wr (wr.alloc ob) := fun ob => (Below.refl _ _).alloc (Nat.le_refl _) ob
   have hBk := Blk.new wr 156 #[.int .i64 x.1.1, .int .i64 x.1.2, .int .i64 (x.2.a : Int), .int .i64 (x.2.b : Int), .int .i64 (x.2.c : Int), .int .i64 (x.2.d : Int)]
   have hIa := hI.below (hB0 (entO x))
   have hne := hIa.apart hBk (by decide)
   generalize pairsB rectC (r.take i) = P at hI hIa hlen hpb
   have hk1 := ikey_any _ _ _ _ x.1 hIa (by simp only [List.length_append,List.length_nil,numB_length,hlen]; omega)
   have hk2 : ∀ w3,Ink w3 w.heap.size w.heap.size ([] ++ numB 1 (kd : Int) ++ numB 1 (r.length : Int) ++ P ++ keyB x.1) → _ := fun w3 h3 => inkR_any w3 _ _ _ x.2 h3 (by simp only [List.length_append,List.length_nil,numB_length,hlen,keyB_length]; omega)
   have hcells : ∀ w3,Off (InkF (wr.alloc (entO x)) w.heap.size w.heap.size) (wr.alloc (entO x)) w3 → w3.cell? ⟨wr.heap.size, 2,none⟩ = some (.int .i64 (x.2.a : Int)) ∧ w3.cell? ⟨wr.heap.size, 3,none⟩ = some (.int .i64 (x.2.b : Int)) ∧ w3.cell? ⟨wr.heap.size, 4,none⟩ = some (.int .i64 (x.2.c : Int)) ∧ w3.cell? ⟨wr.heap.size, 5,none⟩ = some (.int .i64 (x.2.d : Int)) := fun w3 h3 => by
    have := hBk.ink h3 hne (by decide)
    exact ⟨this.cell 2,this.cell 3,this.cell 4,this.cell 5⟩
   have HP : Hid (pairsB rectC (r.take (i + 1)) = P ++ (keyB x.1 ++ rectC.B x.2)) := hpb
   have H3 : Hid _ := hk2
   have H4 : Hid _ := hcells
   have hsz := hB.size
   clear hcl h hlen hpb hIa hI hk2 hcells hmul hx
   go_wp2_with (first
    | (go_at_call 265; refine hk1.mono ?_; clear hk1; rintro e w3 ⟨rfl,hI3,ho3⟩; obtain ⟨d2,d3,d4,d5⟩ := H4.out _ ho3)
    | (go_at_call 261; refine (H3.out _ hI3).mono ?_; rintro e w4 ⟨rfl,hI4,ho4⟩)
    | (go_at_fn 261; refine (H3.out _ hI3).mono ?_; rintro e w4 ⟨rfl,hI4,ho4⟩))
   have hB1 : Below w.heap.size w (wr.alloc (entO x)) := hB.trans ((hB0 _).mono hsz)
   have hB3 : Below w.heap.size w w3 := hB1.trans (InkF.below ho3 (Nat.le_refl _) hB1.size)
   have hB4 : Below w.heap.size w w4 := hB3.trans (InkF.below ho4 (Nat.le_refl _) hB3.size)
   refine ⟨⟨i + 1,by go_num,by omega, ?_,hB4⟩,by simp [intOf]; omega⟩
   rw [HP.out]
   simpa using hI4
  ·have hlt' : decide ((i : Int) < (r.length : Int)) = false := decide_eq_false (by omega)
   have hlt2 : decide (i < r.length) = false := decide_eq_false (by omega)
   have hall : r.take i = r := List.take_of_length_le (by omega)
   rw [hall] at hI
   have hpl : (pairsB rectC r).length = r.length * 24 := pairsB_length rectC r
   have hpg := page_any wr _ _ _ hI (by simp only [List.length_append,List.length_nil,numB_length]; omega) (by simp only [List.length_append,List.length_nil,numB_length,hpl]; omega)
   clear h hall hI hpl
   go_wp2_with (go_at_call 187; refine hpg.mono ?_; rintro e w3 ⟨rfl,hb3⟩)
   go_ret
   exact ⟨ret_str (by rw [← List.append_assoc]; rfl),hB.trans (hb3.mono hB.size)⟩
set_option maxHeartbeats 1000000 in
theorem lbytes_any (w : World) (v : Value) (r : List (Key × Box)) (h : RowR w v r) (hl : 2 + r.length * 24 ≤ 256) :
  Calls Tryz.prog 255 #[.agg #[v]] w fun e w' => e = .returned (.string ⟨(nodeB (.leaf r)).toArray⟩) ∧ Below w.heap.size w w' := by
 obtain ⟨a,c,rfl,hn,hc⟩ := h.len pkR
 have hb0 : Below w.heap.size w (w.alloc (.cells #[.slice a r.length c] 191)) := (Below.refl _ _).alloc (Nat.le_refl _) _
 have hcon := nbytesR_any _ _ r (h.below pkR hb0) hl 1
 clear h
 go_enter Tryz.func255,Tryz.ntmps255
 go_wp2_with (go_at_call 260; refine hcon.mono ?_; rintro e w1 ⟨rfl,hb1⟩)
 go_ret
 exact ⟨rfl,hb0.trans (hb1.mono (by simp))⟩
--END
end
end Go.Proofs.YtdgbgmffpcooeaaGreat
