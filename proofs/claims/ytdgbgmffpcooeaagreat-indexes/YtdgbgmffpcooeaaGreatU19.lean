/- Fr2 -/
import Derived.Test.YtdgbgmffpcooeaaGreatU18
namespace Go.Proofs.YtdgbgmffpcooeaaGreat
open Go.RowKit Go.Lib Go.Shelf
section
attribute [local go_sem] Oper.semAt_some
def TT (k : Key) (V : List (Kid Box)) (j : Nat) : Nat := ((V.take j).flatMap fun c => frm k c.es).length
theorem TT_zero (k : Key) (V : List (Kid Box)) : TT k V 0 = 0 := by simp [TT]
theorem TT_succ {k : Key} {V : List (Kid Box)} {j : Nat} {c : Kid Box} (h : V[j]? = some c) : TT k V (j + 1) = TT k V j + (frm k c.es).length := by
 unfold TT
 rw [take_snoc h,List.flatMap_append,List.length_append]
 simp
theorem TT_get {k : Key} {V : List (Kid Box)} {j : Nat} {c : Kid Box} (h : V[j]? = some c) {i : Nat} {x : Key × Box} (hx : (frm k c.es)[i]? = some x) : (V.flatMap fun c => frm k c.es)[TT k V j + i]? = some x := by
 obtain ⟨hj,rfl⟩ := List.getElem?_eq_some_iff.1 h
 have e : V = V.take j ++ V[j] :: V.drop (j + 1) := by rw [← List.drop_eq_getElem_cons hj,List.take_append_drop]
 have hi := (List.getElem?_eq_some_iff.1 hx).1
 have e2 : (V.flatMap fun c => frm k c.es) = ((V.take j).flatMap fun c => frm k c.es) ++ (frm k V[j].es ++ (V.drop (j + 1)).flatMap fun c => frm k c.es) := by
  conv => lhs; rw [e,List.flatMap_append,List.flatMap_cons]
 rw [e2,List.getElem?_append_right (by unfold TT; omega)]
 unfold TT
 rw [Nat.add_sub_cancel_left,List.getElem?_append_left hi]
 exact hx
theorem TT_all (k : Key) (V : List (Kid Box)) : TT k V V.length = (V.flatMap fun c => frm k c.es).length := by unfold TT; rw [List.take_length]
theorem frm_self {k : Key} {es : List (Key × Box)} (h : frm k es = es) {c : List (Key × Box)} (hc : ∀ x ∈ c,x ∈ es) : frm k c = c := frm_all fun x hx => by
 have := hc x hx
 rw [← h] at this
 exact (mem_frm.1 this).2
theorem RowS.cells3 {W : World} {b o n c : Nat} {r : List (Key × Nat)} (h : RowS W (.slice (some ⟨b,o,none⟩) n c) r) {i : Nat} {x : Key × Nat} (hx : r[i]? = some x) :
  W.cell? ⟨b,o + i * 3,none⟩ = some (.int .i64 x.1.1) ∧ W.cell? ⟨b,o + i * 3 + 1,none⟩ = some (.int .i64 x.1.2) ∧ W.cell? ⟨b,o + i * 3 + 2,none⟩ = some (.int .i64 (x.2 : Int)) := by
 obtain ⟨b',o',c',e,_,_,_,_,hc⟩ := Row.form pkS h (by have := (List.getElem?_eq_some_iff.1 hx).1; omega)
 cases e
 exact ⟨hc i x hx 0 _ rfl,hc i x hx 1 _ rfl,hc i x hx 2 _ rfl⟩
theorem cost_end {r r' r2 j h : Nat} (h1 : r' ≤ r + 1 + j * 15 ^ (h + 1)) (h2 : r2 ≤ r' + 15 ^ (h + 1)) (hj : j + 1 ≤ 14) : r2 ≤ r + 15 ^ (h + 1 + 1) := by
 have p : 0 < 15 ^ (h + 1) := Nat.pow_pos (by decide)
 have q : (j + 1) * 15 ^ (h + 1) ≤ 14 * 15 ^ (h + 1) := Nat.mul_le_mul_right _ hj
 have e : 15 ^ (h + 1 + 1) = 15 ^ (h + 1) * 15 := Nat.pow_succ ..
 rw [Nat.succ_mul] at q
 omega
theorem cost_all {r r' j h : Nat} (h1 : r' ≤ r + 1 + j * 15 ^ (h + 1)) (hj : j ≤ 14) : r' ≤ r + 15 ^ (h + 1 + 1) := by
 have p : 0 < 15 ^ (h + 1) := Nat.pow_pos (by decide)
 have q : j * 15 ^ (h + 1) ≤ 14 * 15 ^ (h + 1) := Nat.mul_le_mul_right _ hj
 have e : 15 ^ (h + 1 + 1) = 15 ^ (h + 1) * 15 := Nat.pow_succ ..
 omega
set_option maxRecDepth 100000 in
set_option maxHeartbeats 4000000 in
theorem tell_in (base : Nat) (A : PA) (s : PS) (t : Nat) (f : Value) (l : Nat) (hs : s.brk = false) (J : Nat → (Nat → Prop) → World → Prop) (Jx : Nat → World → Prop) (hJ : ∀ i M X Y,J i M X → Off A.F X Y → J i M Y) (xs : List Tld)
  (hY : ∀ m i x M W1,xs[i]? = some x → J i M W1 → YieldAt Fence.wide m Tryz.prog l (tldE x) W1 fun e W' =>
   Off (fun k => M k ∨ k = l) W1 W' ∧ LoopAt l W' ∧ ((e = .returned (.bool true) ∧ J (i + 1) (Grow M W1 W') W') ∨ (e = .returned (.bool false) ∧ Jx (i + 1) W')))
  (k : Key) : ∀ (h n sec : Nat) (nd : Node Box) (es : List (Key × Box)) (us : List Nat),nodesN s sec = some nd → Tre (nodesN s) h nd es us → Rising es → ∀ (i0 r : Nat),(∀ j x,(frm k es)[j]? = some x → xs[i0 + j]? = some (x, 0)) → ∀ (M : Nat → Prop) (W : World),It base A s t f l W M r → J i0 M W →
  CallsIn Fence.wide n Tryz.prog 121 #[.pointer (some ⟨t, 0,none⟩), .int .i64 (sec : Int),keyV k, .func (.yield l) #[] #[]] W (TellP base A s t f l J Jx k h es i0 r M W)
 | 0,n,sec,nd,es,us,hn,htr,hrise,i0,r,hxs,M,W,hI,h0 => by
  obtain ⟨rfl,rfl⟩ := htr
  exact tellL_in base A s t f l hs J Jx hJ xs hY k n sec es hn i0 r hxs M W hI h0
 | h + 1,n,sec,nd,es,us,hn,htr,hrise,i0,r,hxs,M,W,hI,h0 => by
  have ih := tell_in base A s t f l hs J Jx hJ xs hY k h
  obtain ⟨ks,rfl,hk,rfl,rfl⟩ := tre_succ.1 htr
  have hsec : sec < s.n ∧ nodesOf s sec = some (.branch (ks.map Kid.pr)) := by
   unfold nodesN at hn
   split at hn
   ·rename_i h; exact ⟨h,hn⟩
   ·cases hn
  have hst : Stands (.branch (ks.map Kid.pr)) := (nodeOf_some hsec.2).1
  have hrp : Rising (ks.map Kid.pr) := hst.2.2.1
  have hel : (ks.map Kid.pr).length ≤ 14 := hst.2.1
  have he1 : 2 ≤ (ks.map Kid.pr).length := hst.1
  have hkn : ks ≠ [] := fun e => by rw [e] at he1; simp at he1
  obtain ⟨Ak,c0,Bk,hsp,hu,hA,hB⟩ := undr_split k ks hk hrise hkn
  have hfk := frm_kids (k := k) hk hrise
  rw [← hu,hsp,List.drop_left' rfl] at hfk
  obtain ⟨V,hV⟩ : ∃ V,c0 :: Bk = V := ⟨_,rfl⟩
  have HFK : Hid ((V.flatMap fun c => frm k c.es) = frm k (ks.flatMap Kid.es)) := by show _ = _; rw [← hV,hfk, ← hsp]
  have HVK : Hid (∀ c ∈ V,KidOk (nodesN s) h c ∧ Rising c.es ∧ ∀ x ∈ c.es,x ∈ ks.flatMap Kid.es) := fun c hc => by
   have hc' : c ∈ ks := by rw [hsp, ← hV] at *; exact List.mem_append_right _ hc
   exact ⟨hk c hc',hrise.sub (by
    obtain ⟨a,b,rfl⟩ := List.append_of_mem hc'
    rw [List.flatMap_append,List.flatMap_cons]
    exact (List.sublist_append_left _ _).trans (List.sublist_append_right _ _)),fun x hx => List.mem_flatMap.2 ⟨c,hc',hx⟩⟩
  have HVB : Hid (∀ j c, 1 ≤ j → V[j]? = some c → frm k c.es = c.es ∧ frm k c.es ≠ []) := fun j c hj hc => by
   obtain ⟨j',rfl⟩ : ∃ j',j = j' + 1 := ⟨j - 1,by omega⟩
   rw [← hV,List.getElem?_cons_succ] at hc
   have hcB := List.mem_of_getElem? hc
   have e : frm k c.es = c.es := frm_all fun x hx => klt_asymm (hB x (List.mem_flatMap.2 ⟨c,hcB,hx⟩))
   obtain ⟨v,t',e2⟩ := (hk c (by rw [hsp]; exact List.mem_append_right _ (List.mem_cons_of_mem _ hcB))).ne
   exact ⟨e,by rw [e,e2]; simp⟩
  have hVl : V.length = (ks.map Kid.pr).length - Ak.length := by rw [hsp,hV]; simp
  have hul : Ak.length < (ks.map Kid.pr).length := by rw [hsp]; simp
  have HVP : Hid ((ks.map Kid.pr).drop Ak.length = V.map Kid.pr) := by show _ = _; rw [← List.map_drop]; congr 1; rw [hsp,List.drop_left' rfl,hV]
  have hb0 : Below W.heap.size W (W.alloc (.cells #[.int .i64 k.1, .int .i64 k.2] 154)) := (Below.refl _ W).alloc (Nat.le_refl _) _
  have hI1 := hI.below hb0
  obtain ⟨P,hP⟩ : ∃ P,ks.map Kid.pr = P := ⟨_,rfl⟩
  obtain ⟨u,hu'⟩ : ∃ u,Ak.length = u := ⟨_,rfl⟩
  obtain ⟨es,hes⟩ : ∃ es,ks.flatMap Kid.es = es := ⟨_,rfl⟩
  rw [hP] at hu hVl hul HVP hrp hel he1 hsec
  rw [hu'] at hu hVl hul HVP
  rw [hes] at HFK HVK hxs ⊢
  have hread : Calls Tryz.prog 130 #[.pointer (some ⟨t, 0,none⟩), .int .i64 (sec : Int)] (W.alloc (.cells #[.int .i64 k.1, .int .i64 k.2] 154)) fun e w' => ∃ b o c,e = .returned (.tuple #[.iface 214 (.agg #[.slice (some ⟨b,o,none⟩) P.length c]), .int .i64 0]) ∧ RowS w' (.slice (some ⟨b,o,none⟩) P.length c) P ∧ W.heap.size < b ∧ P.length ≤ c ∧ PD w' base A (s.at_ (r + 1)) ∧ Off A.F (W.alloc (.cells #[.int .i64 k.1, .int .i64 k.2] 154)) w' := by
   refine (tread_live _ base A (s.at_ r) hI1.pd t f hI1.tr (by exact hs) sec hsec.1).mono ?_
   rintro e w1 ⟨hrd,hP1,o1⟩
   rw [PS.at_adv] at hP1
   rcases hrd with ⟨v,nd,g1,rfl,g3,g4⟩ | ⟨g1,_⟩
   ·have : nd = .branch P := Option.some.inj (g1.symm.trans hsec.2)
    subst this
    obtain ⟨sl,rfl,hrow⟩ := g3
    obtain ⟨b,o,c,rfl,h1,_,_⟩ := hrow.form pkS (by omega)
    have := g4 _ _ _ _ rfl
    exact ⟨b,o,c,rfl,hrow,by simp at this; omega,h1,hP1,o1⟩
   ·have : (none : Option (Node Box)) = some (.branch P) := g1.symm.trans hsec.2
    cases this
  have HI0 : Hid (It base A s t f l W M r) := hI
  have HB0 : Hid _ := hb0
  have HRP : Hid (Rising P) := hrp
  have HKB : Hid (Blk (W.alloc (.cells #[.int .i64 k.1, .int .i64 k.2] 154)) W.heap.size 154 #[.int .i64 k.1, .int .i64 k.2]) := Blk.new W 154 #[.int .i64 k.1, .int .i64 k.2]
  have HU : Hid (u = undr k P) := hu
  have HXS : Hid _ := hxs
  have IH : Hid _ := ih
  clear hI hI1 hst hn hsec hb0 hrp htr hk hkn hsp hA hB hfk hV hu hP hu' hes hrise hxs hY ih
  have hdd : ∀ k : Nat,(Fence.wide.depth.isSome = true → 1 ≤ k) := fun k h => by cases h
  have hta := ta_lb
  have htb := ta_bb
  refine callsIn_of_wp Tryz.func121 rfl trivial ?_ rfl
  simp only [Tryz.ntmps121,List.size_toArray,List.length_cons,List.length_nil,Nat.reduceAdd,Nat.reduceSub,Array.replicate_succ,Array.replicate_zero,List.push_toArray,List.append_toArray,List.nil_append,List.cons_append]
  gi_upto_region 6 with (refine ⟨trivial,hdd _, ?_⟩; gi_at_call 130; refine (callsIn_wide.2 hread).mono ?_; rintro e w1 ⟨b,o,c,rfl,hrow,hbl,hcl,hP1,o1⟩)
  gi_upto_region 17 with fail
  obtain ⟨W2,hW2⟩ : ∃ W2,w1.alloc (.cells #[.slice (some ⟨b,o,none⟩) P.length c] 214) = W2 := ⟨_,rfl⟩
  have hb2 : Below w1.heap.size w1 W2 := by rw [← hW2]; exact (Below.refl _ w1).alloc (Nat.le_refl _) _
  have hn2 : Blk W2 w1.heap.size 214 #[.slice (some ⟨b,o,none⟩) P.length c] := by rw [← hW2]; exact Blk.new w1 214 _
  have hk2 : Blk W2 W.heap.size 154 #[.int .i64 k.1, .int .i64 k.2] := by
   have hw := o1.size
   have := HKB.out.lt
   refine (hb2.block _ (by omega)).trans ((o1.block _ this fun hf => ?_).trans HKB.out)
   have := HI0.out.pd.lt _ hf
   omega
  have hrow2 : RowS W2 (.slice (some ⟨b,o,none⟩) P.length c) P := hrow.below pkS hb2
  have oW : Off A.F W W2 := (((Off.of_below HB0.out).trans o1).trans (Off.of_below hb2))
  have hI2 : It base A s t f l W2 M (r + 1) := HI0.out.own oW (hP1.below hb2)
  have hund : ∀ X,Below W2.heap.size W2 X → Calls Tryz.prog 152 #[.agg #[.slice (some ⟨b,o,none⟩) P.length c],keyV k] X fun e w' => e = .returned (.int .i64 (u : Int)) ∧ Below X.heap.size X w' := fun X hX => by
   have := under_any X _ P (hrow2.below pkS hX) HRP.out (by omega) k
   rw [← HU.out] at this
   exact this
  have HUN : Hid _ := hund
  rw [hW2]
  have ck0 : W2.cell? ⟨W.heap.size, 0,none⟩ = some (.int .i64 k.1) := hk2.cell 0
  have ck1 : W2.cell? ⟨W.heap.size, 1,none⟩ = some (.int .i64 k.2) := hk2.cell 1
  have cn0 : W2.cell? ⟨w1.heap.size, 0,none⟩ = some (.slice (some ⟨b,o,none⟩) P.length c) := hn2.cell 0
  have hbw : b < w1.heap.size := Row.lt hrow
  have HJ0 : Hid (J i0 M W2) := hJ _ _ _ _ h0 oW
  have HI2 : Hid (It base A s t f l W2 M (r + 1)) := hI2
  have HOW : Hid (Off A.F W W2) := oW
  have HROW2 : Hid (RowS W2 (.slice (some ⟨b,o,none⟩) P.length c) P) := hrow2
  have HW : Hid (W.heap.size < W2.heap.size ∧ w1.heap.size < W2.heap.size) := ⟨hk2.lt,hn2.lt⟩
  have HKB2 : Hid (Blk W2 W.heap.size 154 #[.int .i64 k.1, .int .i64 k.2]) := hk2
  have hkl := hk2.lt
  have hnl := hn2.lt
  clear hW2 hb2 hk2 hrow2 oW hI2 hrow hP1 o1 hread h0 HB0 HKB hund hn2
  have hcu : c ≠ u := by omega
  have hmx : Tryz.prog.follows .mixedOrders = true := by kernel_rfl
  have hun := HUN.out W2.drew ((Below.refl _ W2).drew)
  gi_cut [64, 65, 66] from 78 (fun s64 s65 s66 wx => s64 = .slice (some ⟨b,o + u * 3,none⟩) (P.length - u) (c - u) ∧ s65 = .int .i64 ((P.length - u : Nat) : Int) ∧ s66 = .int .i64 0 ∧ Below W2.heap.size W2 wx)
  case first =>
   gi_region_with_o (first | (refine ⟨trivial,hdd _, ?_⟩; gi_at_call 152; refine (callsIn_wide.2 hun).mono ?_; rintro e w3 ⟨rfl,hb3⟩; have cn3 : w3.cell? ⟨w1.heap.size, 0,none⟩ = some (.slice (some ⟨b,o,none⟩) P.length c) := (hb3.cell (p := ⟨w1.heap.size, 0,none⟩) hnl).trans cn0))
   all_goals clear HUN hun
   all_goals gi_wp2
   all_goals gi_meet
   all_goals exact ⟨rfl,rfl,rfl,((Below.refl _ W2).drew).trans hb3⟩
  case rest =>
   obtain ⟨rfl,rfl,rfl,hb3⟩ := hcut
   have hrow3 : RowS wc (.slice (some ⟨b,o + u * 3,none⟩) (P.length - u) (c - u)) (V.map Kid.pr) := by rw [← HVP.out]; exact (Row.drop pkS HROW2.out (by omega)).below pkS hb3
   have HI3 : Hid (It base A s t f l wc M (r + 1)) := HI2.out.below hb3
   have HJ3 : Hid (J i0 M wc) := hJ _ _ _ _ HJ0.out (Off.of_below hb3)
   have HO3 : Hid (Off A.F W wc) := HOW.out.trans (Off.of_below hb3)
   have HK3 : Hid (Blk wc W.heap.size 154 #[.int .i64 k.1, .int .i64 k.2]) := HKB2.out.below hb3 hkl
   have hsz3 := hb3.size
   have hN14 : P.length - u ≤ 14 := by omega
   have hN1 : 1 ≤ P.length - u := by omega
   rw [← hVl] at hrow3 hN14 hN1
   rw [← hVl]
   clear HI2 HJ0 HOW HROW2 hb3 HKB2 HUN hun HRP HU HVP hVl hul he1 hel hcl hcu hmx ck0 ck1 cn0 HW
   generalize o + u * 3 = o' at hrow3 ⊢
   generalize c - u = c' at hrow3 ⊢
   obtain ⟨N,hN⟩ : ∃ N,V.length = N := ⟨_,rfl⟩
   rw [hN] at hrow3 hN14 hN1 ⊢
   have HD : Hid (V.length = N) := hN
   clear hN
   gi_wp2
   gi_loopw [66] (fun x wr => ∃ (j : Nat) (M' : Nat → Prop) (r' : Nat),x = .int .i64 (j : Int) ∧ j ≤ N ∧ J (i0 + TT k V j) M' wr ∧ It base A s t f l wr M' r' ∧ Off (fun b => A.F b ∨ M b ∨ b = l) W wr ∧ (∀ b,b < W.heap.size → M' b → M b) ∧ (¬ M' b ∧ ¬ M' W.heap.size) ∧ RowS wr (.slice (some ⟨b,o',none⟩) N c') (V.map Kid.pr) ∧ Blk wr W.heap.size 154 #[.int .i64 k.1, .int .i64 k.2] ∧ Hid (((j = 0 ∧ r' = r + 1) ∨ (1 ≤ j ∧ (TT k V j = 0 → r' ≤ r + h + 2))) ∧ r' ≤ r + 1 + j * 15 ^ (h + 1))) (fun x _ => N - (intOf x).toNat)
   case atStart => exact ⟨0,M,r + 1,rfl,Nat.zero_le _,by rw [TT_zero]; exact HJ3.out,HI3.out,HO3.out.mono (fun k _ h => .inl h),fun _ _ h => h,⟨fun h => (by have := HI0.out.ml b h; omega),fun h => (by have := HI0.out.ml _ h; omega)⟩,hrow3,HK3.out,⟨.inl ⟨rfl,rfl⟩,by omega⟩⟩
   case round =>
    obtain ⟨j,M',r',rfl,hj,hJr,hIr,hOr,hMr,⟨hMb,hMk⟩,hRr,hKr,hcost⟩ := hrel
    by_cases hlt : j < N
    ·have hlt' : (j : Int) < (N : Int) := by omega
     obtain ⟨q,hq⟩ : ∃ q,V[j]? = some q := ⟨_,List.getElem?_eq_getElem (by rw [HD.out]; exact hlt)⟩
     have hqp : (V.map Kid.pr)[j]? = some q.pr := by rw [List.getElem?_map,hq]; rfl
     obtain ⟨e0,e1,e2⟩ := hRr.cells3 hqp
     simp only at e0 e1 e2
     obtain ⟨hqk,hqr,hqe⟩ := HVK.out q (List.mem_of_getElem? hq)
     have kc0 : wr.cell? ⟨W.heap.size, 0,none⟩ = some (.int .i64 k.1) := hKr.cell 0
     have kc1 : wr.cell? ⟨W.heap.size, 1,none⟩ = some (.int .i64 k.2) := hKr.cell 1
     have hkw : W.heap.size < wr.heap.size := hKr.lt
     obtain ⟨W4,hW4⟩ : ∃ W4,wr.alloc (.cells #[.int .i64 q.key.1, .int .i64 q.key.2, .int .i64 (q.sec : Int)] 234) = W4 := ⟨_,rfl⟩
     have hb4 : Below wr.heap.size wr W4 := by rw [← hW4]; exact (Below.refl _ wr).alloc (Nat.le_refl _) _
     have hI4 := hIr.below hb4
     have hs4 : W4.heap.size = wr.heap.size + 1 := by rw [← hW4]; simp
     have hcall := IH.out (n - 1) q.sec q.nd q.es q.us hqk.at_ hqk.tre hqr (i0 + TT k V j) r' (fun jj x hx => by
      have := HXS.out (TT k V j + jj) x (by rw [← HFK.out]; exact TT_get hq hx)
      rw [← this]; congr 1; omega) M' W4 hI4 (hJ _ _ _ _ hJr (Off.of_below hb4))
     have HC : Hid (CallsIn Fence.wide (n - 1) Tryz.prog 121 #[.pointer (some ⟨t, 0,none⟩), .int .i64 (q.sec : Int),keyV k, .func (.yield l) #[] #[]] W4 (TellP base A s t f l J Jx k h q.es (i0 + TT k V j) r' M' W4)) := hcall
     have hn4 : Blk W4 wr.heap.size 234 #[.int .i64 q.key.1, .int .i64 q.key.2, .int .i64 (q.sec : Int)] := by rw [← hW4]; exact Blk.new wr 234 _
     have qc2 : W4.cell? ⟨wr.heap.size, 2,none⟩ = some (.int .i64 (q.sec : Int)) := hn4.cell 2
     have kc40 : W4.cell? ⟨W.heap.size, 0,none⟩ = some (.int .i64 k.1) := (hb4.cell (p := ⟨W.heap.size, 0,none⟩) hkw).trans kc0
     have kc41 : W4.cell? ⟨W.heap.size, 1,none⟩ = some (.int .i64 k.2) := (hb4.cell (p := ⟨W.heap.size, 1,none⟩) hkw).trans kc1
     clear hcall hJr
     gi_wp2_with (refine ⟨trivial,hdd _, ?_⟩; gi_at_call 121; refine CallsIn.mono HC.out ?_)
     clear HC kc40 kc41 qc2 hn4 kc0 kc1 e0 e1 e2
     have hbr : b < wr.heap.size := Row.lt hRr
     have hK4 := hKr.below hb4 hkw
     have hlb : b ≠ l := fun e => by
      rcases hRr with ⟨_,h⟩ | ⟨b',o'',c'',cur,h1,_,_,h4,_⟩
      ·cases h
      ·cases h1
       obtain ⟨q,hq⟩ := hIr.lp
       rw [e,hq] at h4; cases h4
     have hbA : ¬ A.F b := fun hf => by have := HI0.out.pd.lt _ hf; omega
     have hkA : ¬ A.F W.heap.size := fun hf => by have := HI0.out.pd.lt _ hf; omega
     have hlk : W.heap.size ≠ l := fun e => by
      obtain ⟨q,hq⟩ := HI0.out.lp
      have := (Array.getElem?_eq_some_iff.1 hq).1; omega
     rintro e W5 ⟨o5,hcase⟩
     have hO5 : Off (fun b => A.F b ∨ M b ∨ b = l) W W5 := (hOr.step (Off.of_below (F := fun _ => False) hb4) (fun _ _ h => h.elim)).step o5 (fun k hk h => h.elim .inl (fun h => h.elim (fun h => .inr (.inl (hMr k hk h))) (fun h => .inr (.inr h))))
     have hR5 : RowS W5 (.slice (some ⟨b,o',none⟩) N c') (V.map Kid.pr) := Row.offv (hRr.below pkS hb4) o5 (fun a n c e => by cases e; exact fun h => h.elim hbA (fun h => h.elim hMb hlb))
     have hK5 : Blk W5 W.heap.size 154 #[.int .i64 k.1, .int .i64 k.2] := (o5.block _ (by omega) (fun h => h.elim hkA (fun h => h.elim hMk hlk))).trans hK4
     have hTs := TT_succ (k := k) hq
     have hWr := hOr.size
     rcases hcase with ⟨rfl,M2,r2,hJ5,hI5,hM5,hr5⟩ | ⟨rfl,i,r2,hi,hx5,hP5,hT5,hr5⟩
     ·have HREL : Hid (∃ (j' : Nat) (M2 : Nat → Prop) (r2 : Nat),Value.int .i64 ((j : Int) + 1) = .int .i64 (j' : Int) ∧ j' ≤ N ∧ J (i0 + TT k V j') M2 W5 ∧ It base A s t f l W5 M2 r2 ∧ Off (fun b => A.F b ∨ M b ∨ b = l) W W5 ∧ (∀ b,b < W.heap.size → M2 b → M b) ∧ (¬ M2 b ∧ ¬ M2 W.heap.size) ∧ RowS W5 (.slice (some ⟨b,o',none⟩) N c') (V.map Kid.pr) ∧ Blk W5 W.heap.size 154 #[.int .i64 k.1, .int .i64 k.2] ∧ Hid (((j' = 0 ∧ r2 = r + 1) ∨ (1 ≤ j' ∧ (TT k V j' = 0 → r2 ≤ r + h + 2))) ∧ r2 ≤ r + 1 + j' * 15 ^ (h + 1))) := by
       refine ⟨j + 1,M2,r2,by go_num,by omega,by rw [hTs, ← Nat.add_assoc]; exact hJ5,hI5,hO5,fun b hb h => hMr b hb (hM5 b (by omega) h),⟨fun h => hMb (hM5 b (by omega) h),fun h => hMk (hM5 _ (by omega) h)⟩,hR5,hK5,⟨.inr ⟨by omega,fun hz => ?_⟩,by have h7 := hcost.out.2; have h8 := hr5.2; rw [Nat.succ_mul]; omega⟩⟩
       have hz1 : TT k V j = 0 := by omega
       have hz2 : frm k q.es = [] := List.eq_nil_of_length_eq_zero (by omega)
       have hr6 := hr5.1 hz2
       rcases hcost.out.1 with ⟨rfl,hr7⟩ | ⟨h1j,_⟩
       ·omega
       ·exact absurd hz2 (HVB.out j q h1j hq).2
      clear hJ5 hI5 hO5 hM5 hr5 hR5 hK5 hRr hIr hOr hMr hKr hI4 hcost hTs hK4
      gi_wp2
      go_roundw
      case rel => exact HREL.out
      case measure => simp [intOf]; omega
     ·gi_wp2
      go_ret
      refine ⟨hO5, .inr ⟨rfl,i,r2,by omega,hx5,hP5,hT5,fun hi1 => ?_,cost_end hcost.out.2 hr5.2 (by omega)⟩⟩
      have hz : TT k V j = 0 := by omega
      obtain ⟨hr6,hr7⟩ := hr5.1 (by omega)
      rcases hcost.out.1 with ⟨rfl,hr8⟩ | ⟨h1j,hr8⟩
      ·refine ⟨by omega,fun hf => ?_⟩
       have := hr7 (frm_self hf hqe)
       omega
      ·have h9 := hr8 hz
       have h10 := hr7 (HVB.out j q h1j hq).1
       refine ⟨by omega,fun hf => ?_⟩
       exfalso
       obtain ⟨q0,hq0⟩ : ∃ q0,V[0]? = some q0 := ⟨_,List.getElem?_eq_getElem (by rw [HD.out]; omega)⟩
       obtain ⟨hk0,_,he0⟩ := HVK.out q0 (List.mem_of_getElem? hq0)
       have hself := frm_self hf he0
       obtain ⟨v,t',e3⟩ := hk0.ne
       have hpos : 0 < (frm k q0.es).length := by rw [hself,e3]; simp
       have hT1 : TT k V 1 ≤ TT k V j := by
        unfold TT
        obtain ⟨d,rfl⟩ : ∃ d,j = 1 + d := ⟨j - 1,by omega⟩
        rw [List.take_add,List.flatMap_append,List.length_append]
        omega
       have h11 : TT k V 1 = TT k V 0 + (frm k q0.es).length := TT_succ (k := k) hq0
       omega
    ·have hlt' : ¬ ((j : Int) < (N : Int)) := by omega
     obtain rfl : j = N := by omega
     gi_wp2
     go_ret
     have hTa : TT k V j = (frm k es).length := by rw [← HD.out,TT_all,HFK.out]
     refine ⟨hOr, .inl ⟨rfl,M',r',by rw [← hTa]; exact hJr,hIr,hMr,fun hf => ?_,cost_all hcost.out.2 hN14⟩⟩
     rcases hcost.out.1 with ⟨rfl,hr8⟩ | ⟨h1j,hr8⟩
     ·omega
     ·have := hr8 (by rw [hTa,hf]; rfl)
      omega
end
end Go.Proofs.YtdgbgmffpcooeaaGreat
