/- B3S B4 -/
import Derived.Test.YtdgbgmffpcooeaaGreatU11
namespace Go.Proofs.YtdgbgmffpcooeaaGreat
open Go.RowKit Go.Lib
section
set_option maxHeartbeats 1000000 in
theorem inkS_any (w : World) (base B : Nat) (bs : List UInt8) (n : Nat) (h : Ink w base B bs) (hb : bs.length + 2 ≤ 1000) :
  Calls Tryz.prog 275 #[.pointer (some ⟨B, 0,none⟩), .int .i64 (n : Int)] w fun e w' => e = .returned (.tuple #[]) ∧ Ink w' base B (bs ++ secC.B n) ∧ Off (InkF w base B) w w' := by
 have hcon := isec_any w base B bs (n : Int) h hb
 go_enter Tryz.func275,Tryz.ntmps275
 go_wp2_with (go_at_call 186; refine hcon.mono ?_; rintro e w1 ⟨rfl,hI1,ho1⟩)
 refine bodyPost_end (v := .tuple #[]) (by simp [results,Tryz.results275]) rfl ⟨rfl,hI1,ho1⟩
abbrev prO (x : Key × Nat) : Obj := .cells #[.int .i64 x.1.1, .int .i64 x.1.2, .int .i64 (x.2 : Int)] 234
set_option maxRecDepth 100000 in
set_option maxHeartbeats 2000000 in
theorem nbytesS_any (w : World) (v : Value) (r : List (Key × Nat)) (h : RowS w v r) (hl : 2 + r.length * 18 ≤ 256) (kd : Nat) :
  Calls Tryz.prog 274 #[.int .i64 (kd : Int),v, .func (.func 275) #[] #[]] w fun e w' => e = .returned (.string ⟨(rowB secC kd r).toArray⟩) ∧ Below w.heap.size w w' := by
 obtain ⟨a,c,rfl,hn,hc⟩ := h.len pkS
 have hI0 := Ink.new w
 have hb0 : Below w.heap.size w (w.alloc (.cells #[.slice none 0 0] 262)) := (Below.refl _ _).alloc (Nat.le_refl _) _
 have hn1 := inum_any _ _ _ [] (kd : Int) 1 hI0 (by simp)
 have hn2 : ∀ w1,Ink w1 w.heap.size w.heap.size ([] ++ numB 1 (kd : Int)) → _ := fun w1 h1 => inum_any w1 _ _ _ (r.length : Int) 1 h1 (by simp [numB_length])
 have H2 : Hid _ := hn2
 clear hn2
 go_enter Tryz.func274,Tryz.ntmps274
 go_wp2_with (first
  | (go_at_call 185; refine hn1.mono ?_; clear hn1; rintro e w1 ⟨rfl,hI1,ho1⟩)
  | (go_at_call 185; refine (H2.out _ hI1).mono ?_; rintro e w2 ⟨rfl,hI2,ho2⟩))
 have hb1 : Below w.heap.size w w1 := hb0.trans (InkF.below ho1 (Nat.le_refl _) hb0.size)
 have hb2 : Below w.heap.size w w2 := hb1.trans (InkF.below ho2 (Nat.le_refl _) hb1.size)
 clear hI0 hI1 ho1 ho2 H2 hb0 hb1
 go_loopw [17] (fun x wr => ∃ (i : Nat),x = .int .i64 (i : Int) ∧ i ≤ r.length ∧ Ink wr w.heap.size w.heap.size ([] ++ numB 1 (kd : Int) ++ numB 1 (r.length : Int) ++ pairsB secC (r.take i)) ∧ Below w.heap.size w wr) (fun x _ => r.length - (intOf x).toNat)
 case atStart => exact ⟨0,rfl,Nat.zero_le _,by simpa [pairsB] using hI2,hb2⟩
 case round =>
  clear hI2 hb2
  obtain ⟨i,rfl,hi,hI,hB⟩ := hrel
  by_cases hlt : i < r.length
  ·have hlt' : (i : Int) < (r.length : Int) := by omega
   obtain ⟨b,o,c',e,g2,g3,hb,_,hcl⟩ := (h.off pkS (F := fun _ => False) (Off.of_below hB) (fun _ h => h.elim)).form pkS (by omega)
   cases e
   obtain ⟨x,hx⟩ : ∃ x,r[i]? = some x := ⟨_,List.getElem?_eq_getElem hlt⟩
   have c0 : wr.cell? ⟨b,o + i * 3,none⟩ = some (.int .i64 x.1.1) := hcl i x hx 0 _ rfl
   have c1 : wr.cell? ⟨b,o + i * 3 + 1,none⟩ = some (.int .i64 x.1.2) := hcl i x hx 1 _ rfl
   have c2 : wr.cell? ⟨b,o + i * 3 + 2,none⟩ = some (.int .i64 (x.2 : Int)) := hcl i x hx 2 _ rfl
   have hmul := Nat.mul_le_mul_right 18 (show i + 1 ≤ r.length from hlt)
   have hlen : (pairsB secC (r.take i)).length = i * 18 := by rw [pairsB_length,List.length_take,Nat.min_eq_left (by omega)]; rfl
   have hpb : pairsB secC (r.take (i + 1)) = pairsB secC (r.take i) ++ (keyB x.1 ++ secC.B x.2) := by rw [take_snoc hx]; simp [pairsB,pairB]
   have hB0 : ∀ ob,Below wr.heap.size wr (wr.alloc ob) := fun ob => (Below.refl _ _).alloc (Nat.le_refl _) ob
   have hBk := Blk.new wr 234 #[.int .i64 x.1.1, .int .i64 x.1.2, .int .i64 (x.2 : Int)]
   have hIa := hI.below (hB0 (prO x))
   have hne := hIa.apart hBk (by decide)
   generalize pairsB secC (r.take i) = P at hI hIa hlen hpb
   have hk1 := ikey_any _ _ _ _ x.1 hIa (by simp only [List.length_append,List.length_nil,numB_length,hlen]; omega)
   have hk2 : ∀ w3,Ink w3 w.heap.size w.heap.size ([] ++ numB 1 (kd : Int) ++ numB 1 (r.length : Int) ++ P ++ keyB x.1) → _ := fun w3 h3 => inkS_any w3 _ _ _ x.2 h3 (by simp only [List.length_append,List.length_nil,numB_length,hlen,keyB_length]; omega)
   have hcells : ∀ w3,Off (InkF (wr.alloc (prO x)) w.heap.size w.heap.size) (wr.alloc (prO x)) w3 → w3.cell? ⟨wr.heap.size, 2,none⟩ = some (.int .i64 (x.2 : Int)) := fun w3 h3 => by
    have := hBk.ink h3 hne (by decide)
    exact this.cell 2
   have HP : Hid (pairsB secC (r.take (i + 1)) = P ++ (keyB x.1 ++ secC.B x.2)) := hpb
   have H3 : Hid _ := hk2
   have H4 : Hid _ := hcells
   have hsz := hB.size
   clear hcl h hlen hpb hIa hI hk2 hcells hmul hx
   go_wp2_with (first
    | (go_at_call 265; refine hk1.mono ?_; clear hk1; rintro e w3 ⟨rfl,hI3,ho3⟩; have d2 := H4.out _ ho3)
    | (go_at_call 275; refine (H3.out _ hI3).mono ?_; rintro e w4 ⟨rfl,hI4,ho4⟩)
    | (go_at_fn 275; refine (H3.out _ hI3).mono ?_; rintro e w4 ⟨rfl,hI4,ho4⟩))
   have hB1 : Below w.heap.size w (wr.alloc (prO x)) := hB.trans ((hB0 _).mono hsz)
   have hB3 : Below w.heap.size w w3 := hB1.trans (InkF.below ho3 (Nat.le_refl _) hB1.size)
   have hB4 : Below w.heap.size w w4 := hB3.trans (InkF.below ho4 (Nat.le_refl _) hB3.size)
   refine ⟨⟨i + 1,by go_num,by omega, ?_,hB4⟩,by simp [intOf]; omega⟩
   rw [HP.out]
   simpa using hI4
  ·have hlt' : decide ((i : Int) < (r.length : Int)) = false := decide_eq_false (by omega)
   have hlt2 : decide (i < r.length) = false := decide_eq_false (by omega)
   have hall : r.take i = r := List.take_of_length_le (by omega)
   rw [hall] at hI
   have hpl : (pairsB secC r).length = r.length * 18 := pairsB_length secC r
   have hpg := page_any wr _ _ _ hI (by simp only [List.length_append,List.length_nil,numB_length]; omega) (by simp only [List.length_append,List.length_nil,numB_length,hpl]; omega)
   clear h hall hI hpl
   go_wp2_with (go_at_call 187; refine hpg.mono ?_; rintro e w3 ⟨rfl,hb3⟩)
   go_ret
   exact ⟨ret_str (by rw [← List.append_assoc]; rfl),hB.trans (hb3.mono hB.size)⟩
set_option maxHeartbeats 1000000 in
theorem bbytes_any (w : World) (v : Value) (r : List (Key × Nat)) (h : RowS w v r) (hl : 2 + r.length * 18 ≤ 256) :
  Calls Tryz.prog 269 #[.agg #[v]] w fun e w' => e = .returned (.string ⟨(nodeB (.branch r)).toArray⟩) ∧ Below w.heap.size w w' := by
 obtain ⟨a,c,rfl,hn,hc⟩ := h.len pkS
 have hb0 : Below w.heap.size w (w.alloc (.cells #[.slice a r.length c] 214)) := (Below.refl _ _).alloc (Nat.le_refl _) _
 have hcon := nbytesS_any _ _ r (h.below pkS hb0) hl 2
 clear h
 go_enter Tryz.func269,Tryz.ntmps269
 go_wp2_with (go_at_call 274; refine hcon.mono ?_; rintro e w1 ⟨rfl,hb1⟩)
 go_ret
 exact ⟨rfl,hb0.trans (hb1.mono (by simp))⟩
end
section
theorem bytes_ext {a b : ByteArray} (h : a.data.toList = b.data.toList) : a = b := by
 cases a; cases b; simp only at h; rw [Array.toList_inj.1 h]
theorem rest_rest (b : ByteArray) (s t : Nat) : restB (restB b s) t = restB b (s + t) := bytes_ext (by rw [data_rest,data_rest,data_rest,List.drop_drop])
theorem rest_zero (b : ByteArray) : restB b 0 = b := bytes_ext (by rw [data_rest,List.drop_zero])
theorem numR_rest (b : ByteArray) (s t : Nat) : numR s (restB b t) = w64 (rdN ((b.data.toList.drop t).take s)) := by unfold numR; rw [data_rest]
theorem numR2_rest (b : ByteArray) (t : Nat) : numR 2 (restB b t) = (rdN ((b.data.toList.drop t).take 2) : Int) := by rw [numR2,data_rest]
set_option maxRecDepth 100000 in
set_option maxHeartbeats 1000000 in
theorem tkey_any (w : World) (B : Nat) (b : ByteArray) (hB : Blk w B 246 #[.string b]) (hsb : 16 ≤ b.size) (hbb : b.size ≤ 256) :
  Calls Tryz.prog 217 #[.pointer (some ⟨B, 0,none⟩)] w fun e w' => e = .returned (keyV (keyR b.data.toList)) ∧ Blk w' B 246 #[.string (restB b 16)] ∧ Off (fun k => k = B) w w' := by
 have hBl := hB.lt
 have hB0 := hB.alloc (.cells #[.int .i64 0, .int .i64 0] 154)
 have hK0 := Blk.new w 154 #[.int .i64 0, .int .i64 0]
 have ho0 : Off (fun k => k = B) w (w.alloc (.cells #[.int .i64 0, .int .i64 0] 154)) := (Off.refl _ _).alloc _
 have hc1 := tnum_blk _ B b 8 hB0 (by omega) (by omega) (by omega)
 have hc2 : ∀ w1,Blk w1 B 246 #[.string (restB b 8)] → _ := fun w1 h1 => tnum_blk w1 B (restB b 8) 8 h1 (by omega) (by rw [size_rest]; omega) (by rw [size_rest]; omega)
 have e1 : numR 8 b = (keyR b.data.toList).1 := rfl
 have e2 : numR 8 (restB b 8) = (keyR b.data.toList).2 := by rw [numR_rest]; rfl
 rw [e1] at hc1
 rw [e2,rest_rest] at hc2
 have hbl : ∀ w1,Off (fun k => k = B) (w.alloc (.cells #[.int .i64 0, .int .i64 0] 154)) w1 → Blk w1 w.heap.size 154 #[.int .i64 0, .int .i64 0] := fun w1 h1 => hK0.off h1 (by omega)
 generalize keyR b.data.toList = k at hc1 hc2 ⊢
 have H2 : Hid _ := hc2
 have HB : Hid _ := hbl
 clear hc2 hbl e1 e2 hK0 hB0
 go_enter Tryz.func217,Tryz.ntmps217
 go_wp2_with (first
  | (go_at_call 165; refine hc1.mono ?_; clear hc1; rintro e w1 ⟨rfl,B1,o1⟩)
  | (go_at_call 165; refine (H2.out _ B1).mono ?_; rintro e w2 ⟨rfl,B2,o2⟩; have K2 := HB.out _ (o1.trans o2); have k0 : w2.cell? ⟨w.heap.size, 0,none⟩ = some (.int .i64 0) := K2.cell 0; have k1 : w2.cell? ⟨w.heap.size, 1,none⟩ = some (.int .i64 0) := K2.cell 1; have f0 : w2.frozen? ⟨w.heap.size, 0,none⟩ = false := K2.frozen 0; have f1 : w2.frozen? ⟨w.heap.size, 1,none⟩ = false := K2.frozen 1))
 have K3 := (K2.set 0 (.int .i64 k.1)).set 1 (.int .i64 k.2)
 have q0 : ((w2.setCell ⟨w.heap.size, 0,none⟩ (.int .i64 k.1)).setCell ⟨w.heap.size, 1,none⟩ (.int .i64 k.2)).cell? ⟨w.heap.size, 0,none⟩ = some (.int .i64 k.1) := K3.cell 0
 have q1 : ((w2.setCell ⟨w.heap.size, 0,none⟩ (.int .i64 k.1)).setCell ⟨w.heap.size, 1,none⟩ (.int .i64 k.2)).cell? ⟨w.heap.size, 1,none⟩ = some (.int .i64 k.2) := K3.cell 1
 refine bodyPost_ret (v := keyV k) ?_ rfl ⟨rfl,(B2.other (by omega) _ _).other (by omega) _ _,((ho0.trans (o1.trans o2)).setCell _ (.inr (Nat.le_refl _))).setCell _ (.inr (Nat.le_refl _))⟩
 simp [results,Tryz.results217,go_sem,q0,q1]
theorem ixp (a b c d : Value) (w : World) : (Instr.index 297 (.agg #[a,b,c,d]) (.int .i64 0)).run Tryz.prog w = .ok a w ∧ (Instr.index 297 (.agg #[a,b,c,d]) (.int .i64 1)).run Tryz.prog w = .ok b w ∧ (Instr.index 297 (.agg #[a,b,c,d]) (.int .i64 2)).run Tryz.prog w = .ok c w ∧ (Instr.index 297 (.agg #[a,b,c,d]) (.int .i64 3)).run Tryz.prog w = .ok d w := by
 refine ⟨?_, ?_, ?_, ?_⟩ <;> kernel_rfl
theorem rectR_at (b : ByteArray) : ((rectR b.data.toList).a : Int) = numR 2 (restB b 0) ∧ ((rectR b.data.toList).b : Int) = numR 2 (restB b 2) ∧ ((rectR b.data.toList).c : Int) = numR 2 (restB b 4) ∧ ((rectR b.data.toList).d : Int) = numR 2 (restB b 6) := by
 refine ⟨?_, ?_, ?_, ?_⟩ <;> rw [numR2_rest] <;> simp [rectR]
set_option maxRecDepth 100000 in
set_option maxHeartbeats 2000000 in
theorem trect_any (w : World) (B : Nat) (b : ByteArray) (hB : Blk w B 246 #[.string b]) (hsb : 8 ≤ b.size) (hbb : b.size ≤ 256) :
  Calls Tryz.prog 197 #[.pointer (some ⟨B, 0,none⟩)] w fun e w' => e = .returned (.agg #[.int .i64 ((rectR b.data.toList).a : Int), .int .i64 ((rectR b.data.toList).b : Int), .int .i64 ((rectR b.data.toList).c : Int), .int .i64 ((rectR b.data.toList).d : Int)]) ∧ Blk w' B 246 #[.string (restB b 8)] ∧ Off (fun k => k = B) w w' := by
 obtain ⟨e0,e1,e2,e3⟩ := rectR_at b
 have hc : ∀ (j : Nat) (w1 : World),j ≤ 6 → Blk w1 B 246 #[.string (restB b j)] → Calls Tryz.prog 165 #[.pointer (some ⟨B, 0,none⟩), .int .i64 2] w1 fun e w' => e = .returned (.int .i64 (numR 2 (restB b j))) ∧ Blk w' B 246 #[.string (restB b (j + 2))] ∧ Off (fun k => k = B) w1 w' := fun j w1 hj h1 => by
  have := tnum_blk w1 B (restB b j) 2 h1 (by omega) (by rw [size_rest]; omega) (by rw [size_rest]; omega)
  rw [rest_rest] at this
  exact this
 have hBl := hB.lt
 have HC : Hid _ := hc
 have HE : Hid (((rectR b.data.toList).a : Int) = numR 2 (restB b 0) ∧ ((rectR b.data.toList).b : Int) = numR 2 (restB b 2) ∧ ((rectR b.data.toList).c : Int) = numR 2 (restB b 4) ∧ ((rectR b.data.toList).d : Int) = numR 2 (restB b 6)) := ⟨e0,e1,e2,e3⟩
 generalize rectR b.data.toList = x at HE ⊢
 have hT0 : Blk ((w.alloc (.cells #[.int .i64 0, .int .i64 0, .int .i64 0, .int .i64 0] 34)).alloc (.cells #[.int .i64 0, .int .i64 0, .int .i64 0, .int .i64 0] 34)) B 246 #[.string (restB b 0)] := by rw [rest_zero]; exact (hB.alloc _).alloc _
 have hS0 : Blk ((w.alloc (.cells #[.int .i64 0, .int .i64 0, .int .i64 0, .int .i64 0] 34)).alloc (.cells #[.int .i64 0, .int .i64 0, .int .i64 0, .int .i64 0] 34)) (w.heap.size + 1) 34 #[.int .i64 0, .int .i64 0, .int .i64 0, .int .i64 0] := by
  have := Blk.new (w.alloc (.cells #[.int .i64 0, .int .i64 0, .int .i64 0, .int .i64 0] 34)) 34 #[.int .i64 0, .int .i64 0, .int .i64 0, .int .i64 0]
  rwa [World.size_alloc] at this
 have hR0 : Blk ((w.alloc (.cells #[.int .i64 0, .int .i64 0, .int .i64 0, .int .i64 0] 34)).alloc (.cells #[.int .i64 0, .int .i64 0, .int .i64 0, .int .i64 0] 34)) w.heap.size 34 #[.int .i64 0, .int .i64 0, .int .i64 0, .int .i64 0] := (Blk.new w 34 _).alloc _
 have ho0 : Off (fun k => k = B) w ((w.alloc (.cells #[.int .i64 0, .int .i64 0, .int .i64 0, .int .i64 0] 34)).alloc (.cells #[.int .i64 0, .int .i64 0, .int .i64 0, .int .i64 0] 34)) := ((Off.refl _ _).alloc _).alloc _
 clear hc e0 e1 e2 e3 hB
 go_enter Tryz.func197,Tryz.ntmps197
 go_wp2
 go_loopw [11] (fun i wr => ((i = .int .i64 0 ∧ Blk wr (w.heap.size + 1) 34 #[.int .i64 0, .int .i64 0, .int .i64 0, .int .i64 0] ∧ Blk wr B 246 #[.string (restB b 0)]) ∨ (i = .int .i64 1 ∧ Blk wr (w.heap.size + 1) 34 #[.int .i64 (x.a : Int), .int .i64 0, .int .i64 0, .int .i64 0] ∧ Blk wr B 246 #[.string (restB b 2)]) ∨ (i = .int .i64 2 ∧ Blk wr (w.heap.size + 1) 34 #[.int .i64 (x.a : Int), .int .i64 (x.b : Int), .int .i64 0, .int .i64 0] ∧ Blk wr B 246 #[.string (restB b 4)]) ∨ (i = .int .i64 3 ∧ Blk wr (w.heap.size + 1) 34 #[.int .i64 (x.a : Int), .int .i64 (x.b : Int), .int .i64 (x.c : Int), .int .i64 0] ∧ Blk wr B 246 #[.string (restB b 6)]) ∨ (i = .int .i64 4 ∧ Blk wr (w.heap.size + 1) 34 #[.int .i64 (x.a : Int), .int .i64 (x.b : Int), .int .i64 (x.c : Int), .int .i64 (x.d : Int)] ∧ Blk wr B 246 #[.string (restB b 8)])) ∧ Blk wr w.heap.size 34 #[.int .i64 0, .int .i64 0, .int .i64 0, .int .i64 0] ∧ Off (fun k => k = B) w wr) (fun i _ => 4 - (intOf i).toNat)
 case atStart => exact ⟨.inl ⟨rfl,hS0,hT0⟩,hR0,ho0⟩
 case round =>
  clear hS0 hT0 hR0 ho0
  have x0 := fun W => (ixp (.pointer (some ⟨w.heap.size + 1, 0,none⟩)) (.pointer (some ⟨w.heap.size + 1, 1,none⟩)) (.pointer (some ⟨w.heap.size + 1, 2,none⟩)) (.pointer (some ⟨w.heap.size + 1, 3,none⟩)) W).1
  have x1 := fun W => (ixp (.pointer (some ⟨w.heap.size + 1, 0,none⟩)) (.pointer (some ⟨w.heap.size + 1, 1,none⟩)) (.pointer (some ⟨w.heap.size + 1, 2,none⟩)) (.pointer (some ⟨w.heap.size + 1, 3,none⟩)) W).2.1
  have x2 := fun W => (ixp (.pointer (some ⟨w.heap.size + 1, 0,none⟩)) (.pointer (some ⟨w.heap.size + 1, 1,none⟩)) (.pointer (some ⟨w.heap.size + 1, 2,none⟩)) (.pointer (some ⟨w.heap.size + 1, 3,none⟩)) W).2.2.1
  have x3 := fun W => (ixp (.pointer (some ⟨w.heap.size + 1, 0,none⟩)) (.pointer (some ⟨w.heap.size + 1, 1,none⟩)) (.pointer (some ⟨w.heap.size + 1, 2,none⟩)) (.pointer (some ⟨w.heap.size + 1, 3,none⟩)) W).2.2.2
  obtain ⟨⟨rfl,hS,hT⟩ | ⟨rfl,hS,hT⟩ | ⟨rfl,hS,hT⟩ | ⟨rfl,hS,hT⟩ | ⟨rfl,hS,hT⟩,hR,ho⟩ := hrel
  ·have hcon := HC.out 0 wr (by omega) hT
   rw [← HE.out.1] at hcon
   go_wp2_with (go_at_call 165; refine hcon.mono ?_; rintro e w1 ⟨rfl,hT1,o1⟩; have hS1 := hS.off o1 (by omega); have hR1 := hR.off o1 (by omega); have s0 : w1.cell? ⟨w.heap.size + 1, 0,none⟩ = some (.int .i64 0) := hS1.cell 0; have f0 : w1.frozen? ⟨w.heap.size + 1, 0,none⟩ = false := hS1.frozen 0)
   have hS := hS1.set 0 (.int .i64 (x.a : Int))
   have hT := hT1.other (B' := w.heap.size + 1) (by omega) 0 (.int .i64 (x.a : Int))
   go_roundw
   case rel => exact ⟨.inr (.inl ⟨rfl,hS,hT⟩),hR1.other (by omega) _ _,(ho.trans o1).setCell _ (.inr (by omega))⟩
   case measure => simp [intOf]
  ·have hcon := HC.out 2 wr (by omega) hT
   rw [← HE.out.2.1] at hcon
   go_wp2_with (go_at_call 165; refine hcon.mono ?_; rintro e w1 ⟨rfl,hT1,o1⟩; have hS1 := hS.off o1 (by omega); have hR1 := hR.off o1 (by omega); have s0 : w1.cell? ⟨w.heap.size + 1, 1,none⟩ = some (.int .i64 0) := hS1.cell 1; have f0 : w1.frozen? ⟨w.heap.size + 1, 1,none⟩ = false := hS1.frozen 1)
   have hS := hS1.set 1 (.int .i64 (x.b : Int))
   have hT := hT1.other (B' := w.heap.size + 1) (by omega) 1 (.int .i64 (x.b : Int))
   go_roundw
   case rel => exact ⟨.inr (.inr (.inl ⟨rfl,hS,hT⟩)),hR1.other (by omega) _ _,(ho.trans o1).setCell _ (.inr (by omega))⟩
   case measure => simp [intOf]
  ·have hcon := HC.out 4 wr (by omega) hT
   rw [← HE.out.2.2.1] at hcon
   go_wp2_with (go_at_call 165; refine hcon.mono ?_; rintro e w1 ⟨rfl,hT1,o1⟩; have hS1 := hS.off o1 (by omega); have hR1 := hR.off o1 (by omega); have s0 : w1.cell? ⟨w.heap.size + 1, 2,none⟩ = some (.int .i64 0) := hS1.cell 2; have f0 : w1.frozen? ⟨w.heap.size + 1, 2,none⟩ = false := hS1.frozen 2)
   have hS := hS1.set 2 (.int .i64 (x.c : Int))
   have hT := hT1.other (B' := w.heap.size + 1) (by omega) 2 (.int .i64 (x.c : Int))
   go_roundw
   case rel => exact ⟨.inr (.inr (.inr (.inl ⟨rfl,hS,hT⟩))),hR1.other (by omega) _ _,(ho.trans o1).setCell _ (.inr (by omega))⟩
   case measure => simp [intOf]
  ·have hcon := HC.out 6 wr (by omega) hT
   rw [← HE.out.2.2.2] at hcon
   go_wp2_with (go_at_call 165; refine hcon.mono ?_; rintro e w1 ⟨rfl,hT1,o1⟩; have hS1 := hS.off o1 (by omega); have hR1 := hR.off o1 (by omega); have s0 : w1.cell? ⟨w.heap.size + 1, 3,none⟩ = some (.int .i64 0) := hS1.cell 3; have f0 : w1.frozen? ⟨w.heap.size + 1, 3,none⟩ = false := hS1.frozen 3)
   have hS := hS1.set 3 (.int .i64 (x.d : Int))
   have hT := hT1.other (B' := w.heap.size + 1) (by omega) 3 (.int .i64 (x.d : Int))
   go_roundw
   case rel => exact ⟨.inr (.inr (.inr (.inr (⟨rfl,hS,hT⟩)))),hR1.other (by omega) _ _,(ho.trans o1).setCell _ (.inr (by omega))⟩
   case measure => simp [intOf]
  ·have s0 : wr.cell? ⟨w.heap.size + 1, 0,none⟩ = some (.int .i64 (x.a : Int)) := hS.cell 0
   have s1 : wr.cell? ⟨w.heap.size + 1, 1,none⟩ = some (.int .i64 (x.b : Int)) := hS.cell 1
   have s2 : wr.cell? ⟨w.heap.size + 1, 2,none⟩ = some (.int .i64 (x.c : Int)) := hS.cell 2
   have s3 : wr.cell? ⟨w.heap.size + 1, 3,none⟩ = some (.int .i64 (x.d : Int)) := hS.cell 3
   have r0 : wr.cell? ⟨w.heap.size, 0,none⟩ = some (.int .i64 0) := hR.cell 0
   have r1 : wr.cell? ⟨w.heap.size, 1,none⟩ = some (.int .i64 0) := hR.cell 1
   have r2 : wr.cell? ⟨w.heap.size, 2,none⟩ = some (.int .i64 0) := hR.cell 2
   have r3 : wr.cell? ⟨w.heap.size, 3,none⟩ = some (.int .i64 0) := hR.cell 3
   have g0 : wr.frozen? ⟨w.heap.size, 0,none⟩ = false := hR.frozen 0
   have g1 : wr.frozen? ⟨w.heap.size, 1,none⟩ = false := hR.frozen 1
   have g2 : wr.frozen? ⟨w.heap.size, 2,none⟩ = false := hR.frozen 2
   have g3 : wr.frozen? ⟨w.heap.size, 3,none⟩ = false := hR.frozen 3
   have K3 := (((hR.set 0 (.int .i64 (x.a : Int))).set 1 (.int .i64 (x.b : Int))).set 2 (.int .i64 (x.c : Int))).set 3 (.int .i64 (x.d : Int))
   go_wp2
   obtain ⟨W3,hW3⟩ : ∃ W3,(((wr.setCell ⟨w.heap.size, 0,none⟩ (.int .i64 (x.a : Int))).setCell ⟨w.heap.size, 1,none⟩ (.int .i64 (x.b : Int))).setCell ⟨w.heap.size, 2,none⟩ (.int .i64 (x.c : Int))).setCell ⟨w.heap.size, 3,none⟩ (.int .i64 (x.d : Int)) = W3 := ⟨_,rfl⟩
   have hT3 := (((hT.other (B' := w.heap.size) (by omega) 0 (.int .i64 (x.a : Int))).other (B' := w.heap.size) (by omega) 1 (.int .i64 (x.b : Int))).other (B' := w.heap.size) (by omega) 2 (.int .i64 (x.c : Int))).other (B' := w.heap.size) (by omega) 3 (.int .i64 (x.d : Int))
   have ho3 := (((ho.setCell (B := w.heap.size) (i := 0) (.int .i64 (x.a : Int)) (.inr (Nat.le_refl _))).setCell (B := w.heap.size) (i := 1) (.int .i64 (x.b : Int)) (.inr (Nat.le_refl _))).setCell (B := w.heap.size) (i := 2) (.int .i64 (x.c : Int)) (.inr (Nat.le_refl _))).setCell (B := w.heap.size) (i := 3) (.int .i64 (x.d : Int)) (.inr (Nat.le_refl _))
   rw [hW3] at K3 hT3 ho3 ⊢
   have q0 : W3.cell? ⟨w.heap.size, 0,none⟩ = some (.int .i64 (x.a : Int)) := K3.cell 0
   have q1 : W3.cell? ⟨w.heap.size, 1,none⟩ = some (.int .i64 (x.b : Int)) := K3.cell 1
   have q2 : W3.cell? ⟨w.heap.size, 2,none⟩ = some (.int .i64 (x.c : Int)) := K3.cell 2
   have q3 : W3.cell? ⟨w.heap.size, 3,none⟩ = some (.int .i64 (x.d : Int)) := K3.cell 3
   refine bodyPost_ret (v := .agg #[.int .i64 (x.a : Int), .int .i64 (x.b : Int), .int .i64 (x.c : Int), .int .i64 (x.d : Int)]) ?_ rfl ⟨rfl,hT3,ho3⟩
   simp [results,Tryz.results197,go_sem,q0,q1,q2,q3]
abbrev boxV (x : Box) : Value := .agg #[.int .i64 (x.a : Int), .int .i64 (x.b : Int), .int .i64 (x.c : Int), .int .i64 (x.d : Int)]
set_option maxRecDepth 100000 in
set_option maxHeartbeats 1000000 in
theorem clR_any (w : World) (B : Nat) (b : ByteArray) (hB : Blk w B 246 #[.string b]) (hsb : 8 ≤ b.size) (hbb : b.size ≤ 256) :
  Calls Tryz.prog 196 #[.pointer (some ⟨B, 0,none⟩)] w fun e w' => e = .returned (boxV (rectC.R b.data.toList)) ∧ Blk w' B 246 #[.string (restB b 8)] ∧ Off (fun k => k = B) w w' := by
 have hBl := hB.lt
 have hR0 := Blk.new w 34 #[.int .i64 0, .int .i64 0, .int .i64 0, .int .i64 0]
 have ho0 : Off (fun k => k = B) w (w.alloc (.cells #[.int .i64 0, .int .i64 0, .int .i64 0, .int .i64 0] 34)) := (Off.refl _ _).alloc _
 have hcon := trect_any _ B b (hB.alloc (.cells #[.int .i64 0, .int .i64 0, .int .i64 0, .int .i64 0] 34)) hsb hbb
 show Calls Tryz.prog 196 #[.pointer (some ⟨B, 0,none⟩)] w fun e w' => e = .returned (boxV (rectR b.data.toList)) ∧ Blk w' B 246 #[.string (restB b 8)] ∧ Off (fun k => k = B) w w'
 generalize rectR b.data.toList = x at hcon ⊢
 clear hB
 go_enter Tryz.func196,Tryz.ntmps196
 go_wp2_with (go_at_call 197; refine hcon.mono ?_; rintro e wr ⟨rfl,hT,o1⟩; have hR := hR0.off o1 (by omega); have ho := ho0.trans o1; have r0 : wr.cell? ⟨w.heap.size, 0,none⟩ = some (.int .i64 0) := hR.cell 0; have r1 : wr.cell? ⟨w.heap.size, 1,none⟩ = some (.int .i64 0) := hR.cell 1; have r2 : wr.cell? ⟨w.heap.size, 2,none⟩ = some (.int .i64 0) := hR.cell 2; have r3 : wr.cell? ⟨w.heap.size, 3,none⟩ = some (.int .i64 0) := hR.cell 3; have g0 : wr.frozen? ⟨w.heap.size, 0,none⟩ = false := hR.frozen 0; have g1 : wr.frozen? ⟨w.heap.size, 1,none⟩ = false := hR.frozen 1; have g2 : wr.frozen? ⟨w.heap.size, 2,none⟩ = false := hR.frozen 2; have g3 : wr.frozen? ⟨w.heap.size, 3,none⟩ = false := hR.frozen 3)
 have K3 := (((hR.set 0 (.int .i64 (x.a : Int))).set 1 (.int .i64 (x.b : Int))).set 2 (.int .i64 (x.c : Int))).set 3 (.int .i64 (x.d : Int))
 obtain ⟨W3,hW3⟩ : ∃ W3,(((wr.setCell ⟨w.heap.size, 0,none⟩ (.int .i64 (x.a : Int))).setCell ⟨w.heap.size, 1,none⟩ (.int .i64 (x.b : Int))).setCell ⟨w.heap.size, 2,none⟩ (.int .i64 (x.c : Int))).setCell ⟨w.heap.size, 3,none⟩ (.int .i64 (x.d : Int)) = W3 := ⟨_,rfl⟩
 have hT3 := (((hT.other (B' := w.heap.size) (by omega) 0 (.int .i64 (x.a : Int))).other (B' := w.heap.size) (by omega) 1 (.int .i64 (x.b : Int))).other (B' := w.heap.size) (by omega) 2 (.int .i64 (x.c : Int))).other (B' := w.heap.size) (by omega) 3 (.int .i64 (x.d : Int))
 have ho3 := (((ho.setCell (B := w.heap.size) (i := 0) (.int .i64 (x.a : Int)) (.inr (Nat.le_refl _))).setCell (B := w.heap.size) (i := 1) (.int .i64 (x.b : Int)) (.inr (Nat.le_refl _))).setCell (B := w.heap.size) (i := 2) (.int .i64 (x.c : Int)) (.inr (Nat.le_refl _))).setCell (B := w.heap.size) (i := 3) (.int .i64 (x.d : Int)) (.inr (Nat.le_refl _))
 rw [hW3] at K3 hT3 ho3 ⊢
 have q0 : W3.cell? ⟨w.heap.size, 0,none⟩ = some (.int .i64 (x.a : Int)) := K3.cell 0
 have q1 : W3.cell? ⟨w.heap.size, 1,none⟩ = some (.int .i64 (x.b : Int)) := K3.cell 1
 have q2 : W3.cell? ⟨w.heap.size, 2,none⟩ = some (.int .i64 (x.c : Int)) := K3.cell 2
 have q3 : W3.cell? ⟨w.heap.size, 3,none⟩ = some (.int .i64 (x.d : Int)) := K3.cell 3
 refine bodyPost_ret (v := boxV x) ?_ rfl ⟨rfl,hT3,ho3⟩
 simp [results,Tryz.results196,go_sem,q0,q1,q2,q3]
set_option maxHeartbeats 1000000 in
theorem clS_any (w : World) (B : Nat) (b : ByteArray) (hB : Blk w B 246 #[.string b]) (hsb : 2 ≤ b.size) (hbb : b.size ≤ 256) :
  Calls Tryz.prog 199 #[.pointer (some ⟨B, 0,none⟩)] w fun e w' => e = .returned (.int .i64 (secC.R b.data.toList : Int)) ∧ Blk w' B 246 #[.string (restB b 2)] ∧ Off (fun k => k = B) w w' := by
 have hcon := tsec_any w B b hB hsb hbb
 have e : numR 2 b = (secC.R b.data.toList : Int) := numR2 b
 rw [e] at hcon
 generalize secC.R b.data.toList = n at hcon ⊢
 go_enter Tryz.func199,Tryz.ntmps199
 go_wp2_with (go_at_call 166; refine hcon.mono ?_; rintro e w1 ⟨rfl,h1,h2⟩)
 go_ret
 exact ⟨rfl,h1,h2⟩
theorem own_offv {F : Nat → Prop} {W W' : World} {base : Nat} {e : TypeId} {size : Nat} {v : Value} {n : Nat} {xs : List Value} (h : W.ownsRow base e size v n xs) (ho : Off F W W') (hg : ∀ g,v.ownBlock = some g → ¬ F g) : W'.ownsRow base e size v n xs := by
 obtain ⟨h0,h1 | ⟨g,cap,cur,e1,e2,e3,e4⟩⟩ := h
 ·exact ⟨h0, .inl h1⟩
 ·exact ⟨h0, .inr ⟨g,cap,cur,e1,e2,(ho.block g (Array.getElem?_eq_some_iff.1 e3).1 (hg g (by rw [e1]; rfl))).trans e3,e4⟩⟩
theorem own_ne {W : World} {base : Nat} {e : TypeId} {size : Nat} {v : Value} {n : Nat} {xs : List Value} (h : W.ownsRow base e size v n xs) {B t : Nat} {vs : Array Value} (hB : Blk W B t vs) (ht : t ≠ e) : ∀ g,v.ownBlock = some g → ¬ g = B := fun g hg e' => by
 obtain ⟨_,cs,h1⟩ := own_tagged h hg
 subst e'
 have hb' : W.heap[g]? = _ := hB
 rw [h1] at hb'
 simp only [Option.some.injEq,Obj.cells.injEq] at hb'
 exact ht hb'.2.1.symm
--BEGIN
set_option maxRecDepth 100000 in
set_option maxHeartbeats 4000000 in
theorem pairsR_any (w : World) (B : Nat) (b : ByteArray) (n : Nat) (hB : Blk w B 246 #[.string b]) (hsb : n * 24 ≤ b.size) (hbb : b.size ≤ 256) :
  Calls Tryz.prog 195 #[.pointer (some ⟨B, 0,none⟩), .int .i64 (n : Int), .func (.func 196) #[] #[]] w fun e w' => ∃ v,e = .returned v ∧ w'.ownsRow w.heap.size 156 6 v n (flat pkR (pairsR rectC n b.data.toList)) ∧ Off (fun k => k = B) w w' := by
 obtain ⟨i0,hi0,hz0,hz1,hz2⟩ := info_parts infoR
 have hBl := hB.lt
 have hn : n ≤ 10 := by omega
 go_enter Tryz.func195,Tryz.ntmps195
 go_wp2
 go_loopw [7, 10] (fun s x wr => ∃ i : Nat,x = .int .i64 (i : Int) ∧ i ≤ n ∧ wr.ownsRow w.heap.size 156 6 s i (flat pkR (pairsR rectC i b.data.toList)) ∧ Blk wr B 246 #[.string (restB b (i * 24))] ∧ Off (fun k => k = B) w wr) (fun _ x _ => n - (intOf x).toNat)
 case atStart => exact ⟨0,rfl,Nat.zero_le _,World.ownsRow_nil ..,by rw [Nat.zero_mul,rest_zero]; exact hB,Off.refl _ _⟩
 case round =>
  clear hB
  obtain ⟨i,rfl,hi,hown,hT,ho⟩ := hrel
  by_cases hlt : i < n
  ·have hlt' : (i : Int) < (n : Int) := by omega
   have hmul := Nat.mul_le_mul_right 24 (show i + 1 ≤ n from hlt)
   have hsz := ho.size
   have hk := tkey_any wr B (restB b (i * 24)) hT (by rw [size_rest]; omega) (by rw [size_rest]; omega)
   have hc : ∀ w1,Blk w1 B 246 #[.string (restB b (i * 24 + 16))] → _ := fun w1 h1 => clR_any w1 B (restB b (i * 24 + 16)) h1 (by rw [size_rest]; omega) (by rw [size_rest]; omega)
   have hsn := pairsR_snoc rectC i b.data.toList
   rw [data_rest,rest_rest] at hk
   rw [data_rest,rest_rest,show i * 24 + 16 + 8 = (i + 1) * 24 by omega] at hc
   have hl24 : 16 + rectC.len = 24 := rfl
   rw [hl24] at hsn
   generalize keyR (b.data.toList.drop (i * 24)) = kx at hk hsn
   generalize rectC.R (b.data.toList.drop (i * 24 + 16)) = vx at hc hsn
   generalize pairsR rectC i b.data.toList = P at hown hsn
   have HS : Hid (pairsR rectC (i + 1) b.data.toList = P ++ [(kx,vx)]) := hsn
   have HC : Hid _ := hc
   obtain ⟨sa,sc,rfl,_,_,_⟩ := own_shape hown
   have HNE : Hid (∀ g,(Value.slice sa i sc).ownBlock = some g → ¬ g = B) := own_ne hown hT (by decide)
   clear hmul hc hsn hl24 hT
   go_upto_region 5 with (go_at_call 217; refine hk.mono ?_; rintro e w1 ⟨rfl,hT1,o1⟩)
   have hK1 := Blk.new w1 154 #[.int .i64 kx.1, .int .i64 kx.2]
   have hT2 := (hT1.alloc (.cells #[.int .i64 kx.1, .int .i64 kx.2] 154)).drew
   have o2 : Off (fun k => k = B) wr (w1.alloc (.cells #[.int .i64 kx.1, .int .i64 kx.2] 154)) := o1.alloc _
   have hBl1 : B < wr.heap.size := by omega
   have hsz1 := o1.size
   obtain ⟨KB,hKB⟩ : ∃ KB,w1.heap.size = KB := ⟨_,rfl⟩
   obtain ⟨W1,hW1⟩ : ∃ W1,w1.alloc (.cells #[.int .i64 kx.1, .int .i64 kx.2] 154) = W1 := ⟨_,rfl⟩
   rw [hKB] at hK1 hsz1 ⊢
   rw [hW1] at hK1 hT2 o2 ⊢
   have hown1 : W1.ownsRow w.heap.size 156 6 (.slice sa i sc) i (flat pkR P) := own_offv hown o2 HNE.out
   clear hW1 hKB hT1 o1 hown hk
   have k0 : W1.cell? ⟨KB, 0,none⟩ = some (.int .i64 kx.1) := hK1.cell 0
   have k1 : W1.cell? ⟨KB, 1,none⟩ = some (.int .i64 kx.2) := hK1.cell 1
   have hcl := HC.out _ hT2
   have hKl := hK1.lt
   have keepS : ∀ W',Off (fun k => k = B) W1.drew W' → W'.cell? ⟨KB, 0,none⟩ = some (.int .i64 kx.1) ∧ W'.cell? ⟨KB, 1,none⟩ = some (.int .i64 kx.2) := fun W' h => by
    have := hK1.drew.off h (by omega)
    exact ⟨this.cell 0,this.cell 1⟩
   have hsW : w.heap.size ≤ W1.heap.size := by have := o2.size; omega
   have HNE1 : Hid (∀ g,(Value.slice sa i sc).ownBlock = some g → ¬ g = B) := HNE.out
   go_region_held3 (fun W' => W'.cell? ⟨KB, 0,none⟩ = some (.int .i64 kx.1) ∧ W'.cell? ⟨KB, 1,none⟩ = some (.int .i64 kx.2))
    (first
     | exact ⟨k0,k1⟩
     | exact keepS _ o3
     | exact keepS _ (o3.alloc _)
     | exact ⟨hK2.cell 0,hK2.cell 1⟩
     | go_keep)
    (first
     | (go_at_call 196; refine hcl.mono ?_; rintro e w3 ⟨rfl,hT3,o3⟩; have hown3 := own_offv hown1.drew o3 HNE1.out; have hs3 : W1.heap.size ≤ w3.heap.size := o3.size; have hK3 := hK1.drew.off o3 (by omega))
     | (go_at_fn 196; refine hcl.mono ?_; rintro e w3 ⟨rfl,hT3,o3⟩; have hown3 := own_offv hown1.drew o3 HNE1.out; have hs3 : W1.heap.size ≤ w3.heap.size := o3.size; have hK3 := hK1.drew.off o3 (by omega))
     | (refine step_append_lies _ (by rfl) _ _ _ (by rfl) w.heap.size 156 i0 _ 6 48 Tryz.underlying189 hi0 hz0 hz1 hz2 rfl (by omega) (.slice sa i sc) i _ (by rfl) (hown3.alloc _) ⟨w3.heap.size, 0,none⟩ 1 1 [.int .i64 kx.1, .int .i64 kx.2, .int .i64 (vx.a : Int), .int .i64 (vx.b : Int), .int .i64 (vx.c : Int), .int .i64 (vx.d : Int)] (by rfl) (by rfl) (World.news_of_block (cs := #[.int .i64 kx.1, .int .i64 kx.2, .int .i64 (vx.a : Int), .int .i64 (vx.b : Int), .int .i64 (vx.c : Int), .int .i64 (vx.d : Int)]) (t := 156) (fr := (0, 0)) (heap_alloc_new w3 _)) (by simp [Value.oneCell']) (by omega) (by unfold maxLen; omega) (by omega) (by simp; omega) (w3.heap.size + 1) (by simp) ?_; intro gg cap w2 hown2 hgrow hat hlt3; have hK2 := (hK3.alloc (.cells #[.int .i64 kx.1, .int .i64 kx.2, .int .i64 (vx.a : Int), .int .i64 (vx.b : Int), .int .i64 (vx.c : Int), .int .i64 (vx.d : Int)] 156)).grown hgrow (fun j hj => own_ne (hown3.alloc (.cells #[.int .i64 kx.1, .int .i64 kx.2, .int .i64 (vx.a : Int), .int .i64 (vx.b : Int), .int .i64 (vx.c : Int), .int .i64 (vx.d : Int)] 156)) (hK3.alloc (.cells #[.int .i64 kx.1, .int .i64 kx.2, .int .i64 (vx.a : Int), .int .i64 (vx.b : Int), .int .i64 (vx.c : Int), .int .i64 (vx.d : Int)] 156)) (by decide) j hj)))
   have hT5 : Blk w2 B 246 #[.string (restB b ((i + 1) * 24))] := (hT3.alloc (.cells #[.int .i64 kx.1, .int .i64 kx.2, .int .i64 (vx.a : Int), .int .i64 (vx.b : Int), .int .i64 (vx.c : Int), .int .i64 (vx.d : Int)] 156)).grown hgrow (fun j hj => HNE1.out j hj)
   have o5 : Off (fun k => k = B) w w2 := by
    refine (ho.trans (o2.drew.trans (o3.alloc (.cells #[.int .i64 kx.1, .int .i64 kx.2, .int .i64 (vx.a : Int), .int .i64 (vx.b : Int), .int .i64 (vx.c : Int), .int .i64 (vx.d : Int)] 156)))).grown hgrow fun j hj => .inr ?_
    exact (own_tagged hown3 hj).1
   go_wp2
   refine ⟨⟨i + 1,by go_num,by omega, ?_,hT5,o5⟩,by simp [intOf]; omega⟩
   rw [HS.out,flat_append]
   exact hown2
  ·have hlt' : decide ((i : Int) < (n : Int)) = false := decide_eq_false (by omega)
   have hlt2 : decide (i < n) = false := decide_eq_false (by omega)
   have hin : i = n := by omega
   subst hin
   obtain ⟨sa,sc,rfl,_,_,_⟩ := own_shape hown
   go_wp2
   go_ret
   exact ⟨_,rfl,hown,ho⟩
--END
end
end Go.Proofs.YtdgbgmffpcooeaaGreat
