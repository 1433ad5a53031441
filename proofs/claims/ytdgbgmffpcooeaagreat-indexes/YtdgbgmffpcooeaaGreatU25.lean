/- C1I KeysN Cm1 -/
import Derived.Test.YtdgbgmffpcooeaaGreatU24
namespace Go.Proofs.YtdgbgmffpcooeaaGreat
open Go.RowKit Go.Lib
section
set_option maxRecDepth 100000 in
set_option maxHeartbeats 2000000 in
theorem growI_any (w : World) (n : Nat) (hn : n ≤ 1000000) :
  Calls Tryz.prog 147 #[.slice none 0 0, .int .i64 (n : Int)] w fun e w' => ∃ v,e = .returned v ∧ w'.ownsRow w.heap.size 3 1 v 0 [] ∧ Below w.heap.size w w' := by
 obtain ⟨i0,hi0,hz0,hz1,hz2⟩ := info_parts info3
 by_cases h0 : n = 0
 ·subst h0
  refine (Any8.slices_Grow_room Tryz.growI none 0 0 0 w (Nat.le_refl _) (by omega) (by omega) (by omega)).mono ?_
  rintro e w' ⟨rfl,rfl⟩
  exact ⟨_,rfl,World.ownsRow_nil ..,Below.refl _ _⟩
 ·refine (Any8.slices_Grow_grow Tryz.growI i0 _ hi0 hz0 (by omega) none 0 0 n [] w (Nat.le_refl _) (by omega) (by rw [hz2]; omega) (by omega) (by simp) (fun _ => rfl) (fun a h => by cases h)).mono ?_
  rintro e w' ⟨rfl,rfl⟩
  have hge := grownCap_ge w (0 + n) 0 (Tryz.growI_ren.t 25)
  have hle := grownCap_le_maxLen w (0 + n) 0 (Tryz.growI_ren.t 25) (by unfold maxLen; omega)
  generalize grownCap w (0 + n) 0 (Tryz.growI_ren.t 25) = cap at hge hle ⊢
  refine ⟨_,rfl,⟨rfl, .inr ⟨w.heap.size,cap,_,rfl,Nat.le_refl _,World.alloc_heap_new w.drew _,Nat.zero_le _,hle, ?_,by simp⟩⟩,((Below.refl _ w).drew).alloc (Nat.le_refl _) _⟩
  simp only [Array.size_append,size_zeroCells]
  simp [Value.cells]
  omega
set_option maxRecDepth 100000 in
set_option maxHeartbeats 4000000 in
theorem concatI_any (w : World) (p : Nat) (L : List SrcL) (n : Nat) (hn : n = L.length) (hp : ∀ i x,L[i]? = some x → p < w.heap.size ∧ w.cell? ⟨p,i,none⟩ = some x.v) (hL : ∀ x ∈ L,Src w 1 x.v x.m x.cs) (hs : lenS L ≤ 1000000) (hn3 : n ≤ 3) :
  Calls Tryz.prog 115 #[.slice (some ⟨p, 0,none⟩) n n] w fun e w' => ∃ v,e = .returned v ∧ w'.ownsRow w.heap.size 3 1 v (lenS L) (allS L) ∧ Below w.heap.size w w' := by
 obtain ⟨i0,hi0,hz0,hz1,hz2⟩ := info_parts info3
 have HN : Hid (n = L.length) := hn
 clear hn
 go_enter Tryz.func115,Tryz.ntmps115
 go_wp2
 go_loopw [3, 11] (fun s x wr => wr = w ∧ ∃ i : Nat,x = .int .i64 (i : Int) ∧ i ≤ n ∧ s = .int .i64 (lenS (L.take i) : Int)) (fun _ x _ => n - (intOf x).toNat)
 case atStart => exact ⟨rfl, 0,rfl,Nat.zero_le _,by simp [lenS]⟩
 case round =>
  obtain ⟨rfl,i,rfl,hi,rfl⟩ := hrel
  by_cases hlt : i < n
  ·have hlt' : (i : Int) < (n : Int) := by omega
   obtain ⟨x,hx⟩ : ∃ x,L[i]? = some x := ⟨_,List.getElem?_eq_getElem (by have := HN.out; omega)⟩
   obtain ⟨hpl,hc⟩ := hp i x hx
   have hle := lenS_take_le L (i + 1)
   rw [take_snoc hx,lenS_snoc] at hle
   have HS : Hid (lenS (L.take (i + 1)) = lenS (L.take i) + x.m) := by show _ = _; rw [take_snoc hx,lenS_snoc]
   obtain ⟨a,cp,hv⟩ : ∃ a cp,x.v = .slice a x.m cp := by
    rcases (hL x (List.mem_of_getElem? hx)).at_ with ⟨h1,h2⟩ | ⟨ad,c,h1,_⟩
    ·exact ⟨none, 0,by rw [h1,h2]⟩
    ·exact ⟨_,c,h1⟩
   rw [hv] at hc
   generalize lenS (L.take i) = S at hle HS ⊢
   generalize x.m = M at hle HS hc ⊢
   have q1 : wrap64 ((S : Int) + (M : Int)) = ((S + M : Nat) : Int) := by unfold wrap64; omega
   have q2 : decide (((S + M : Nat) : Int) < 0) = false := by simp; omega
   have q3 : decide ((S : Int) + (M : Int) < 0) = false := by simp; omega
   clear hp hL hx hv
   go_wp2
   refine ⟨⟨trivial,i + 1,by go_num,by omega, ?_⟩,by simp [intOf]; omega⟩
   rw [HS.out]; go_num
  ·have hlt' : decide ((i : Int) < (n : Int)) = false := by simp; omega
   have hlt2 : decide (i < n) = false := by simp; omega
   have hall : L.take i = L := List.take_of_length_le (by have := HN.out; omega)
   rw [hall]
   rename World => W0
   have hcon := growI_any W0 (lenS L) hs
   clear hall
   go_wp2_with (go_at_call 147; refine hcon.mono ?_; rintro e w1 ⟨v1,rfl,hown1,hb1⟩)
   clear hcon
   go_loopw [6, 27] (fun s x ws => ∃ i : Nat,x = .int .i64 (i : Int) ∧ i ≤ n ∧ ws.ownsRow W0.heap.size 3 1 s (lenS (L.take i)) (allS (L.take i)) ∧ Below W0.heap.size W0 ws) (fun _ x _ => n - (intOf x).toNat)
   case atStart => exact ⟨0,rfl,Nat.zero_le _,hown1,hb1⟩
   case round =>
    clear hlt hlt' hlt2 hi hown1 hb1
    obtain ⟨i,rfl,hi,hown,hB⟩ := hrel
    by_cases hlt : i < n
    ·have hlt' : (i : Int) < (n : Int) := by omega
     obtain ⟨x,hx⟩ : ∃ x,L[i]? = some x := ⟨_,List.getElem?_eq_getElem (by have := HN.out; omega)⟩
     obtain ⟨hpl,hc0⟩ := hp i x hx
     have hc : wr.cell? ⟨p,i,none⟩ = some x.v := (hB.cell (p := ⟨p,i,none⟩) hpl).trans hc0
     have hle := lenS_take_le L (i + 1)
     rw [take_snoc hx,lenS_snoc] at hle
     have HS : Hid (lenS (L.take (i + 1)) = lenS (L.take i) + x.m ∧ allS (L.take (i + 1)) = allS (L.take i) ++ x.cs) := ⟨by rw [take_snoc hx,lenS_snoc],by rw [take_snoc hx,allS_snoc]⟩
     have hsrc := (hL x (List.mem_of_getElem? hx)).below hB
     obtain ⟨xv,xm,xc⟩ := x
     obtain ⟨hlen,hone,hat⟩ := hsrc
     simp only at hlen hone hat hc hle HS
     generalize lenS (L.take i) = S at hle HS hown
     generalize allS (L.take i) = A at HS hown
     have hpw : p < wr.heap.size := by have := hB.size; omega
     have hsB := hB.size
     clear hp hL hx hc0
     rcases hat with ⟨rfl,rfl⟩ | ⟨ad,cp,rfl,hcs⟩
     ·go_wp2_with (at_builtin; refine wpList_append_own_none rfl (.tmp 31) (.tmp 32) 35 rfl W0.heap.size 3 i0 1 Tryz.underlying35 hi0 _ S _ rfl hown rfl ?_)
      refine ⟨⟨i + 1,by go_num,by omega, ?_,hB⟩,by simp [intOf]; omega⟩
      have h0 : xc = [] := List.eq_nil_of_length_eq_zero (by simpa using hlen)
      rw [HS.out.1,HS.out.2,h0,List.append_nil]
      exact hown
     ·go_wp2_with (at_builtin; refine wpList_append_own _ rfl (.tmp 31) (.tmp 32) 35 rfl W0.heap.size 3 i0 _ 1 8 Tryz.underlying35 hi0 hz0 hz1 hz2 rfl (by omega) _ S _ rfl hown ad xm cp xc rfl hlen (fun j u hu => (hcs j u hu).2) hone (by unfold maxLen; omega) (by omega) hsB ?_; intro v2 w2 hown2 hg2 _)
      refine ⟨⟨i + 1,by go_num,by omega, ?_,hB.grown hg2 hB.size (fun k hk => (own_tagged hown hk).1)⟩,by simp [intOf]; omega⟩
      rw [HS.out.1,HS.out.2]
      exact hown2
    ·have hlt' : decide ((i : Int) < (n : Int)) = false := by simp; omega
     have hlt2 : decide (i < n) = false := by simp; omega
     have hall : L.take i = L := List.take_of_length_le (by have := HN.out; omega)
     rw [hall] at hown
     clear hall
     go_wp2
     go_ret
     exact ⟨_,rfl,hown,hB⟩
end
end Go.Proofs.YtdgbgmffpcooeaaGreat
namespace Go.Proofs.YtdgbgmffpcooeaaGreat
open Go.RowKit Go.Maps Go.Sort Go.Shelf
section
theorem keysN_call (mb : Option Nat) (W : World) : Calls Tryz.prog 148 #[.map mb] W fun e w' => e = .returned (.func (.func 184) #[] #[.pointer (some ⟨W.heap.size, 0,none⟩)]) ∧ w' = W.alloc (.cells #[.map mb] 183) :=
 callsIn_wide.1 (AnyZI.keys_in Tryz.keysN Fence.wide 5 trivial rfl mb W)
set_option maxHeartbeats 1000000 in
theorem sortedN_call (b nn : Nat) (D0 : DataW Value) (R : Value → Option (DataW Value × List MemPlace)) (w : World) (hown : w.ownsMap Tryz.prog 3 R b nn D0) (hmax : Maps.size D0 ≤ maxLen) (hbytes : Maps.size D0 * 8 ≤ 140737488355328) :
  Calls Tryz.prog 71 #[.func (.func 184) #[] #[.pointer (some ⟨w.heap.size, 0,none⟩)]] (w.alloc (.cells #[.map (some b)] 183)) fun e w' => ∃ (v : Value) (ss : List Int),e = .returned v ∧ ss.Perm (intKeys D0) ∧
   w'.ownsRow (w.alloc (.cells #[.map (some b)] 183)).heap.size 3 1 v ss.length ((ss.mergeSort (fun x y => decide (x ≤ y))).map encZ) ∧ (v = .slice none 0 0 ↔ ss = []) ∧ Below (w.alloc (.cells #[.map (some b)] 183)).heap.size (w.alloc (.cells #[.map (some b)] 183)) w' := by
 refine (callsIn_wide (n := 5)).1 ?_
 have hbl := hown.lt
 have hseq : SeqGives Fence.wide 2 Tryz.prog 184 #[.pointer (some ⟨w.heap.size, 0,none⟩)] encZ (fun ss => ss.Perm (intKeys D0)) (Maps.size D0) (w.alloc (.cells #[.map (some b)] 183)) :=
  AnyZI.keys_gives (ρ := Tryz.keysN_ren) { Tryz.keysN with } Fence.wide _ trivial rfl (by omega) w.heap.size b nn D0 _ (by simp) (by simp) (by
   obtain ⟨es,clock,hb,Ft,hs,hD⟩ := hown
   exact ⟨es,clock,(Below.heap_alloc _ _ b hbl).trans hb,Ft,hs,hD⟩)
 have cS := AnyZI.sorted_in Tryz.sortedI Fence.wide 5 trivial trivial trivial trivial rfl (by omega) (sortsI _) (enters_of Tryz.func93 (by kernel_rfl) rfl) 184 #[.pointer (some ⟨w.heap.size, 0,none⟩)] trivial (enters_of Tryz.func184 (by kernel_rfl) rfl) _ _ hmax hbytes _ hseq
 exact cS
end
end Go.Proofs.YtdgbgmffpcooeaaGreat
namespace Go.Proofs.YtdgbgmffpcooeaaGreat
open Go.RowKit Go.Lib Go.Maps
section
def madeOf (made : Nat → Option (Node Box)) (i : Nat) : Bool := (made i).isSome
theorem keysN_sorted {W : World} {m k : Nat} {D : DataW Value} {made : Nat → Option (Node Box)} {W0 : World} (hown : W.ownsMap Tryz.prog 3 nodR m k D) (h : MadeIs W0 D made) {ss : List Int} (hp : ss.Perm (intKeys D)) :
  ss.mergeSort (fun x y => decide (x ≤ y)) = (rowOf (madeOf made) 4096).map (fun i : Nat => (i : Int)) ∧ ss.length = (rowOf (madeOf made) 4096).length := by
 obtain ⟨es,rfl,hpw,_⟩ := hown.entries (int_keyed Tryz.underlying3)
 have hkeys : ∀ p ∈ es, ∃ i,i < 4096 ∧ p.1 = kl i := fun p hpm => by
  refine h.keys p.1 ?_
  rw [has_eq,List.any_eq_true]
  obtain ⟨p1,p2⟩ := p
  refine ⟨(p1,p2),hpm, ?_⟩
  have hI := (hown.entries (int_keyed Tryz.underlying3))
  obtain ⟨es',e',_,hkl⟩ := hI
  injection e' with e'
  subst e'
  have := hkl (p1,p2) hpm
  cases p1 <;> simp_all [WideAt.IsKeyLit,Lit.sameKey]
 have hperm : ((rowOf (madeOf made) 4096).map (fun i : Nat => (i : Int))).Perm (intKeys (.map es : DataW Value)) := by
  refine perm_intKeys hpw (fun p hpm => by obtain ⟨i,_,e⟩ := hkeys p hpm; exact ⟨_,e⟩) ?_ (fun x => ?_)
  ·exact List.Pairwise.map _ (fun a b hab => by omega) (rowOf_sorted (madeOf made) 4096)
  ·rw [List.mem_map]
   constructor
   ·rintro ⟨i,hi,rfl⟩
    obtain ⟨h1,h2⟩ := (mem_rowOf _ _ _).1 hi
    rw [h.has_ i h1]; exact h2
   ·intro hx
    obtain ⟨i,hi,e⟩ := h.keys _ hx
    have e' : (Lit.int .i64 x) = .int .i64 (i : Int) := e
    injection e' with _ e2
    subst e2
    rw [h.has_ i hi] at hx
    exact ⟨i,(mem_rowOf _ _ _).2 ⟨hi,hx⟩,rfl⟩
 have hpp : ss.Perm ((rowOf (madeOf made) 4096).map (fun i : Nat => (i : Int))) := hp.trans hperm.symm
 refine ⟨?_,by rw [hpp.length_eq,List.length_map]⟩
 have := mergeSort_of_perm_i hpp
 rw [this]
 refine List.mergeSort_of_pairwise ?_
 exact List.Pairwise.map _ (fun a b hab => by simp; omega) (rowOf_sorted (madeOf made) 4096)
theorem nmap_size {W : World} {m k : Nat} {D : DataW Value} (hown : W.ownsMap Tryz.prog 3 nodR m k D) : Maps.size D ≤ k := by
 obtain ⟨es,c,h1,h2,h3,rfl⟩ := hown
 have := length_read (P := Tryz.prog) (k := 3) (R0 := nodR) es
 simp only [Maps.size]
 omega
structure Ct (W : World) (A : PA) (t : Nat) (f : Value) (cb c mb root : Nat) (s : CS Box) (fv lv : Value) : Prop where
 tr : TreeB W t A f
 ch : ChS W cb c t mb root s fv lv
 tl : t < cb
 al : ∀ k,A.F k → k < cb
 cl : c < W.heap.size ∧ mb < W.heap.size ∧ cb ≤ W.heap.size
section
variable {W W' : World} {base : Nat} {A : PA} {s0 ps : PS} {t : Nat} {f : Value} {cb c mb root : Nat} {s : CS Box} {fv lv : Value}
theorem Cg.ct (h : Cg W base A s0 t f cb c mb root s fv lv) : Ct W A t f cb c mb root s fv lv := ⟨h.tr,h.ch,h.tl,h.al,h.cl⟩
theorem PD.nott (hp : PD W base A ps) (ht : TreeB W t A f) : ¬ A.F t := fun hf => by
 have hq : W.heap[t]? = _ := ht
 obtain ⟨_,_,⟨es,cc,m1,_⟩,_⟩ := hp.map
 obtain ⟨cur,b1,_⟩ := hp.sec.blk
 have p1 : W.heap[A.p]? = _ := hp.blkP
 have q1 : W.heap[A.q]? = _ := hp.blkQ
 rcases hf with e | e | e | e
 ·rw [e,p1] at hq; simp at hq
 ·rw [e,q1] at hq; simp at hq
 ·rw [e,b1] at hq; simp at hq
 ·rw [e,m1] at hq; simp at hq
theorem Ct.off (h : Ct W A t f cb c mb root s fv lv) (hp : PD W base A ps) (ho : Off A.F W W') : Ct W' A t f cb c mb root s fv lv := by
 have hcl := h.cl
 have hsz := ho.size
 exact ⟨h.tr.off ho (hp.nott h.tr),h.ch.off ho h.al (fun b hb => hp.norow b hb),h.tl,h.al,⟨by omega,by omega,by omega⟩⟩
theorem Ct.below (h : Ct W A t f cb c mb root s fv lv) (hb : Below W.heap.size W W') : Ct W' A t f cb c mb root s fv lv := by
 have hcl := h.cl
 have hsz := hb.size
 exact ⟨h.tr.below hb h.tr.lt,h.ch.off (F := fun _ => False) (Off.of_below hb) (fun _ h => h.elim) (fun _ h => h.elim),h.tl,h.al,⟨by omega,by omega,by omega⟩⟩
end
set_option maxHeartbeats 1000000 in
theorem pflush2_any (w : World) (base : Nat) (A : PA) (s : PS) (h : PD w base A s) (hlf : -1 ≤ s.left ∧ s.left ≤ 9223372036854775807) :
  Calls Tryz.prog 76 #[.pointer (some ⟨A.q, 0,none⟩)] w fun e w' => ∃ m',e = .returned (.int .i64 s.flush.1) ∧ PD w' base { A with m := m' } s.flush.2 ∧ Off A.F w w' ∧ (m' = A.m ∨ w.heap.size ≤ m') := by
 have hcon := pfails_any w base A s h
 cases hb : s.brk with
 | true =>
  have e : s.flush = (4,s.asked) := by unfold PS.flush; rw [hb]; rfl
  rw [e]
  rw [hb] at hcon
  go_enter Tryz.func76,Tryz.ntmps76
  go_wp2_with (go_at_call 106; refine hcon.mono ?_; rintro e w1 ⟨rfl,hR,ho⟩)
  go_ret
  exact ⟨A.m,rfl,hR,ho, .inl rfl⟩
 | false =>
  have e : s.flush = (0,s.asked.spent.settled) := by unfold PS.flush; rw [hb]; rfl
  rw [e]
  rw [hb] at hcon
  go_enter Tryz.func76,Tryz.ntmps76
  go_wp2_with (first
   | (go_at_call 106; refine hcon.mono ?_; rintro e w1 ⟨rfl,hR,ho⟩)
   | (go_at_call 107; refine (pspend_any w1 base A s.asked hR hlf).mono ?_; rintro e w2 ⟨rfl,hR2,ho2⟩)
   | (go_at_call 73; refine (psettle_any w2 base A s.asked.spent hR2).mono ?_; rintro e w3 ⟨rfl,hR3,ho3⟩))
  go_ret
  exact ⟨w2.heap.size,rfl,hR3,(ho.trans ho2).trans ho3, .inr (ho.trans ho2).size⟩
def PS.wr (s : PS) (x : Nat × Node Box) : Int × PS := s.write (x.1 : Int) ⟨(nodeB x.2).toArray⟩
def wrAll : List (Nat × Node Box) → PS → Int × PS
 | [],s => (0,s)
 | x :: l,s => if (s.wr x).1 = 0 then wrAll l (s.wr x).2 else s.wr x
theorem wrAll_snoc : ∀ (a : List (Nat × Node Box)) (x : Nat × Node Box) (s s' : PS),wrAll a s = (0,s') → wrAll (a ++ [x]) s = s'.wr x
 | [],x,s,s',h => by
  simp only [wrAll,Prod.mk.injEq,true_and] at h
  subst h
  simp only [List.nil_append,wrAll]
  split
  ·rename_i h0; exact Prod.ext h0.symm rfl
  ·rfl
 | y :: a,x,s,s',h => by
  simp only [List.cons_append,wrAll] at h ⊢
  split at h
  ·rename_i h0; rw [if_pos h0]; exact wrAll_snoc a x _ s' h
  ·rename_i h0; rw [h] at h0; exact absurd rfl h0
theorem wrAll_stop : ∀ (a : List (Nat × Node Box)) (x : Nat × Node Box) (r : List (Nat × Node Box)) (s s' : PS),wrAll a s = (0,s') → (s'.wr x).1 ≠ 0 → wrAll (a ++ x :: r) s = s'.wr x
 | [],x,r,s,s',h,hx => by
  simp only [wrAll,Prod.mk.injEq,true_and] at h
  subst h
  simp only [List.nil_append,wrAll,if_neg hx]
 | y :: a,x,r,s,s',h,hx => by
  simp only [List.cons_append,wrAll] at h ⊢
  split at h
  ·rename_i h0; rw [if_pos h0]; exact wrAll_stop a x r _ s' h hx
  ·rename_i h0; rw [h] at h0; exact absurd rfl h0
theorem spent_left {s : PS} (h : -1 ≤ s.left ∧ s.left ≤ 9223372036854775807) : -1 ≤ s.spent.left ∧ s.spent.left ≤ 9223372036854775807 := by
 unfold PS.spent
 by_cases h0 : 0 < s.left
 ·simp only [h0,if_true]; omega
 ·simp only [h0,if_false]; exact h
theorem write_left {s : PS} {i : Int} {b : ByteArray} (h : -1 ≤ s.left ∧ s.left ≤ 9223372036854775807) : -1 ≤ (s.write i b).2.left ∧ (s.write i b).2.left ≤ 9223372036854775807 := by
 unfold PS.write
 split
 ·exact h
 ·split
  ·exact h
  ·split
   ·exact h
   ·exact spent_left (s := s.asked) h
theorem flush_left {s : PS} (h : -1 ≤ s.left ∧ s.left ≤ 9223372036854775807) : -1 ≤ s.flush.2.left ∧ s.flush.2.left ≤ 9223372036854775807 := by
 unfold PS.flush
 split
 ·exact h
 ·exact spent_left (s := s.asked) h
theorem wr_left {s : PS} {x : Nat × Node Box} (h : -1 ≤ s.left ∧ s.left ≤ 9223372036854775807) : -1 ≤ (s.wr x).2.left ∧ (s.wr x).2.left ≤ 9223372036854775807 := write_left h
def newOf (made : Nat → Option (Node Box)) : List (Nat × Node Box) := (rowOf (madeOf made) 4096).map fun i => (i,(made i).getD (.leaf []))
def PS.nodes (s : PS) (made : Nat → Option (Node Box)) : Int × PS := if (wrAll (newOf made) s).1 = 0 then (wrAll (newOf made) s).2.flush else wrAll (newOf made) s
end
end Go.Proofs.YtdgbgmffpcooeaaGreat
