/- Pu1 Pu2 Fr3 -/
import Derived.Test.YtdgbgmffpcooeaaGreatU26
import Derived.Test.YtdgbgmffpcooeaaGreatU19
namespace Go.Proofs.YtdgbgmffpcooeaaGreat
open Go.RowKit
section
structure Tr (s : PS) (root : Nat) (es : List (Key × Box)) (us : List Nat) : Prop where
 head : headOf (s.now 0).data.toList = some root
 wt : WT (nodesN s) root es us
 nd : us.Nodup
 ins : ∀ t ∈ us, 1 ≤ t ∧ t < s.n
 up : Rising es
theorem Tr.congr {s c : PS} {root : Nat} {es : List (Key × Box)} {us : List Nat} (h : Tr s root es us) (hn : c.n = s.n) (h0 : c.now 0 = s.now 0) (hu : ∀ t ∈ us,c.now t = s.now t) : Tr c root es us := by
 refine ⟨by rw [h0]; exact h.head,h.wt.congr fun t ht => ?_,h.nd,fun t ht => by rw [hn]; exact h.ins t ht,h.up⟩
 unfold nodesN nodesOf
 rw [hn,hu t ht]
theorem flat_sub {α β : Type} {f : α → List β} {c : α} {ks : List α} (h : c ∈ ks) : (f c).Sublist (ks.flatMap f) := by
 obtain ⟨a,b,rfl⟩ := List.append_of_mem h
 rw [List.flatMap_append,List.flatMap_cons]
 exact (List.sublist_append_left _ _).trans (List.sublist_append_right _ _)
theorem tre_stands {M : Nat → Option (Node Box)} : ∀ (h : Nat) {n : Node Box} {es : List (Key × Box)} {us : List Nat},Tre M h n es us → Rising es → (∀ p ∈ es,PairOk rectC p) → (∀ t ∈ us,t < 65536) → n.size ≤ n.most → 1 ≤ n.size → (h = 0 ∨ 2 ≤ n.size) → Stands n ∧ ∀ t ∈ us, ∃ nd,M t = some nd ∧ Stands nd
 | 0,n,es,us,ht,hr,hp,hu,h1,h2,_ => by
  obtain ⟨rfl,rfl⟩ := ht
  exact ⟨⟨h2,h1,hr,hp⟩,fun t ht => by cases ht⟩
 | h + 1,n,es,us,ht,hr,hp,hu,h1,h2,h3 => by
  obtain ⟨ks,rfl,hk,rfl,rfl⟩ := tre_succ.1 ht
  have hin : ∀ c ∈ ks,Rising c.es ∧ (∀ p ∈ c.es,PairOk rectC p) ∧ (∀ t ∈ c.all,t < 65536) := fun c hc =>
   ⟨hr.sub (flat_sub hc),fun p hp' => hp p (List.mem_flatMap.2 ⟨c,hc,hp'⟩),fun t ht' => hu t (List.mem_flatMap.2 ⟨c,hc,ht'⟩)⟩
  have hall : ∀ c ∈ ks,Stands c.nd ∧ ∀ t ∈ c.us, ∃ nd,M t = some nd ∧ Stands nd := fun c hc => by
   have r5 := rich_size (hk c hc).rich
   exact tre_stands h (hk c hc).tre (hin c hc).1 (hin c hc).2.1 (fun t ht' => (hin c hc).2.2 t (List.mem_cons_of_mem _ ht')) (hk c hc).fits (by omega) (by omega)
  refine ⟨⟨by have := h3.resolve_left (by omega); exact this,h1,kids_rising ks hk hr,fun p hp' => ?_⟩,fun t ht' => ?_⟩
  ·obtain ⟨c,hc,rfl⟩ := List.mem_map.1 hp'
   obtain ⟨v,t',e⟩ := (hk c hc).ne
   refine ⟨((hin c hc).2.1 (c.key,v) (by rw [e]; exact List.mem_cons_self)).1,(hin c hc).2.2 c.sec List.mem_cons_self⟩
  ·obtain ⟨c,hc,ht2⟩ := List.mem_flatMap.1 ht'
   rcases List.mem_cons.1 ht2 with rfl | ht2
   ·exact ⟨c.nd,(hk c hc).at_,(hall c hc).1⟩
   ·exact (hall c hc).2 t ht2
theorem WT.stands {M : Nat → Option (Node Box)} {root : Nat} {es : List (Key × Box)} {us : List Nat} (h : WT M root es us) (hr : Rising es) (hp : ∀ p ∈ es,PairOk rectC p) (hu : ∀ t ∈ us,t < 65536) : ∀ t ∈ us, ∃ nd,M t = some nd ∧ Stands nd := by
 rcases h with ⟨_,_,rfl⟩ | ⟨_,h,nd,u,h1,h2,rfl,h3,h4,h5⟩
 ·intro t ht; cases ht
 ·obtain ⟨a,b⟩ := tre_stands h h2 hr hp (fun t ht => hu t (List.mem_cons_of_mem _ ht)) h3 h4 h5
  intro t ht
  rcases List.mem_cons.1 ht with rfl | ht
  ·exact ⟨nd,h1,a⟩
  ·exact b t ht
theorem tre_pok {M : Nat → Option (Node Box)} (hM : ∀ t nd,M t = some nd → Stands nd) : ∀ (h : Nat) {n : Node Box} {es : List (Key × Box)} {us : List Nat},Tre M h n es us → Stands n → ∀ p ∈ es,PairOk rectC p
 | 0,n,es,us,ht,hs => by
  obtain ⟨rfl,rfl⟩ := ht
  exact hs.2.2.2
 | h + 1,n,es,us,ht,_ => by
  obtain ⟨ks,rfl,hk,rfl,rfl⟩ := tre_succ.1 ht
  intro p hp
  obtain ⟨c,hc,hp⟩ := List.mem_flatMap.1 hp
  exact tre_pok hM h (hk c hc).tre (hM _ _ (hk c hc).at_) p hp
theorem nodesN_stands {s : PS} {t : Nat} {nd : Node Box} (h : nodesN s t = some nd) : Stands nd := by
 unfold nodesN at h
 split at h
 ·exact (nodeOf_some h).1
 ·cases h
theorem Tr.pok {s : PS} {root : Nat} {es : List (Key × Box)} {us : List Nat} (h : Tr s root es us) : ∀ p ∈ es,PairOk rectC p := by
 rcases h.wt with ⟨_,rfl,_⟩ | ⟨_,k,nd,u,h1,h2,_⟩
 ·intro p hp; cases hp
 ·exact tre_pok (fun t nd => nodesN_stands) k h2 (nodesN_stands h1)
def Adds (s s' : PS) (k : Nat) : Prop := (I64 s.steps → I64 s'.steps) ∧ ∃ j : Nat,j ≤ k ∧ wrap64 s'.steps = wrap64 (s.steps + (j : Int))
theorem Adds.refl (s : PS) : Adds s s 0 := ⟨id, 0,Nat.le_refl _,by simp⟩
theorem Adds.mono {s s' : PS} {k l : Nat} (h : Adds s s' k) (hl : k ≤ l) : Adds s s' l := by
 obtain ⟨a,j,b,c⟩ := h
 exact ⟨a,j,by omega,c⟩
theorem Adds.trans {a b c : PS} {k l : Nat} (h : Adds a b k) (g : Adds b c l) : Adds a c (k + l) := by
 obtain ⟨h0,i,h1,h2⟩ := h
 obtain ⟨g0,j,g1,g2⟩ := g
 refine ⟨fun x => g0 (h0 x),i + j,by omega, ?_⟩
 unfold wrap64 at *
 omega
theorem Adds.at_ (s : PS) (k : Nat) : Adds s (s.at_ k) k := by
 refine ⟨fun _ => ?_,k,Nat.le_refl _, ?_⟩
 ·unfold PS.at_ wrap64 I64; simp only; omega
 ·unfold PS.at_ wrap64; simp only; omega
inductive Wrote (s : PS) (i : Nat) (b : ByteArray) : Int × PS → Prop where
 | no (s' : PS) : s.brk = true → s'.n = s.n → s'.now = s.now → s'.old = s.old → s'.broken = true → s'.steps = s.steps → Wrote s i b (4,s')
 | yes (s' : PS) : s.brk = false → s'.n = s.n → s'.now = upd s.now i b → (∀ t,t ≠ i → s'.old t = s.old t) → s'.old i = some ((s.old i).getD (s.now i)) → s'.steps = wrap64 (s.steps + 1) → Wrote s i b (0,s')
theorem write_is (s : PS) (i : Nat) (b : ByteArray) (hi : i < s.n) (hb : b.size = 256) : Wrote s i b (s.write (i : Int) b) := by
 unfold PS.write
 rw [if_neg (by omega),if_neg (by omega)]
 cases h : s.brk with
 | true =>
  rw [if_pos rfl]
  exact .no _ h rfl rfl rfl h rfl
 | false =>
  rw [if_neg (by decide)]
  refine .yes _ h rfl (by simp) (fun t ht => ?_) ?_ rfl
  ·simp only [Int.toNat_natCast]
   split
   ·rfl
   ·simp [upd,ht]
  ·simp only [Int.toNat_natCast]
   cases ho : s.old i with
   | none => simp [upd]
   | some x => simp [ho]
inductive Flushed (s : PS) : Int × PS → Prop where
 | no (s' : PS) : s.brk = true → s'.n = s.n → s'.now = s.now → s'.old = s.old → s'.broken = true → s'.steps = s.steps → Flushed s (4,s')
 | yes (s' : PS) : s.brk = false → s'.n = s.n → s'.now = s.now → (∀ t,s'.old t = none) → s'.steps = s.steps → Flushed s (0,s')
theorem flush_is (s : PS) : Flushed s s.flush := by
 unfold PS.flush
 cases h : s.brk with
 | true => rw [if_pos rfl]; exact .no _ h rfl rfl rfl h rfl
 | false => rw [if_neg (by decide)]; exact .yes _ h rfl rfl (fun _ => rfl) rfl
def bytesOf (nd : Node Box) : ByteArray := ⟨(nodeB nd).toArray⟩
theorem bytesOf_size {nd : Node Box} (h : Stands nd) : (bytesOf nd).size = 256 := by
 have := nodeB_length h
 simp [bytesOf,ByteArray.size,this]
theorem adds1 {s s' : PS} (h : s'.steps = wrap64 (s.steps + 1)) : Adds s s' 1 := by
 refine ⟨fun _ => ?_, 1,Nat.le_refl _, ?_⟩
 ·rw [h]; unfold wrap64 I64; omega
 ·rw [h]; unfold wrap64; omega
theorem adds0 {s s' : PS} (h : s'.steps = s.steps) : Adds s s' 0 := ⟨fun x => by rw [h]; exact x, 0,Nat.le_refl _,by rw [h]; simp⟩
theorem wrAll_is : ∀ (l : List (Nat × Node Box)) (s : PS),(∀ x ∈ l,x.1 < s.n ∧ Stands x.2) → (l.map (·.1)).Nodup →
  (wrAll l s).2.n = s.n ∧ (∀ t,(∀ x ∈ l,x.1 ≠ t) → (wrAll l s).2.now t = s.now t ∧ (wrAll l s).2.old t = s.old t) ∧ (((wrAll l s).1 = 0 ∧ ∀ x ∈ l,(wrAll l s).2.now x.1 = bytesOf x.2) ∨ ((wrAll l s).1 = 4 ∧ (wrAll l s).2.broken = true)) ∧ Adds s (wrAll l s).2 l.length
 | [],s,_,_ => ⟨rfl,fun _ _ => ⟨rfl,rfl⟩, .inl ⟨rfl,fun x hx => by cases hx⟩,Adds.refl s⟩
 | x :: l,s,hl,hn => by
  have hx := hl x List.mem_cons_self
  have hw := write_is s x.1 (bytesOf x.2) hx.1 (bytesOf_size hx.2)
  have hwe : s.wr x = s.write (x.1 : Int) (bytesOf x.2) := rfl
  unfold wrAll
  rw [hwe]
  have hn' := List.nodup_cons.1 hn
  generalize s.write (x.1 : Int) (bytesOf x.2) = r at hw
  cases hw with
  | no s' h1 h2 h3 h4 h5 h6 =>
   rw [if_neg (show ¬ (4 : Int) = 0 by decide)]
   exact ⟨h2,fun t _ => ⟨by rw [h3],by rw [h4]⟩, .inr ⟨rfl,h5⟩,(adds0 h6).mono (by omega)⟩
  | yes s' h1 h2 h3 h4 h5 h6 =>
   rw [if_pos rfl]
   obtain ⟨g1,g2,g3,g4⟩ := wrAll_is l s' (fun y hy => by rw [h2]; exact hl y (List.mem_cons_of_mem _ hy)) hn'.2
   refine ⟨g1.trans h2,fun t ht => ?_, ?_,by have := (adds1 h6).trans g4; simp only [List.length_cons]; rw [Nat.add_comm]; exact this⟩
   ·have ht0 := ht x List.mem_cons_self
    obtain ⟨k1,k2⟩ := g2 t fun y hy => ht y (List.mem_cons_of_mem _ hy)
    refine ⟨k1.trans ?_,k2.trans (h4 t (Ne.symm ht0))⟩
    rw [h3]; simp [upd,Ne.symm ht0]
   ·rcases g3 with ⟨e,g3⟩ | g3
    ·refine .inl ⟨e,fun y hy => ?_⟩
     rcases List.mem_cons.1 hy with rfl | hy
     ·rw [(g2 y.1 fun z hz e => hn'.1 (List.mem_map.2 ⟨z,hz,e⟩)).1,h3]; simp [upd]
     ·exact g3 y hy
    ·exact .inr g3
def Falls (s c : PS) : Prop := c.n = s.n ∧ ∀ t,c.now t = s.now t ∨ s.old t = some (c.now t)
def PS.commit (s : PS) (made : Nat → Option (Node Box)) (root : Nat) : Int × PS := if (s.nodes made).1 = 0 then (s.nodes made).2.headW root else s.nodes made
theorem newOf_mem {made : Nat → Option (Node Box)} (hm : ∀ t nd,made t = some nd → t < 4096) {x : Nat × Node Box} : x ∈ newOf made ↔ made x.1 = some x.2 := by
 unfold newOf
 rw [List.mem_map]
 constructor
 ·rintro ⟨i,hi,rfl⟩
  obtain ⟨_,h2⟩ := (mem_rowOf _ _ _).1 hi
  obtain ⟨nd,hnd⟩ := Option.isSome_iff_exists.1 h2
  simp [hnd]
 ·intro h
  exact ⟨x.1,(mem_rowOf _ _ _).2 ⟨hm _ _ h,by unfold madeOf; rw [h]; rfl⟩,by rw [h]; rfl⟩
theorem newOf_nodup (made : Nat → Option (Node Box)) : ((newOf made).map (·.1)).Nodup := by
 unfold newOf
 rw [List.map_map]
 have : (Prod.fst ∘ fun i => (i,(made i).getD (.leaf []))) = (id : Nat → Nat) := rfl
 rw [this,List.map_id]
 exact (rowOf_sorted _ _).imp fun h => Nat.ne_of_lt h
theorem data_of (l : List UInt8) : (⟨l.toArray⟩ : ByteArray).data.toList = l := by simp
inductive Committed (s : PS) (made : Nat → Option (Node Box)) (root : Nat) : Int × PS → Prop where
 | done (s' : PS) : s'.n = s.n → (∀ t nd,made t = some nd → s'.now t = bytesOf nd) → (∀ t,t ≠ 0 → made t = none → s'.now t = s.now t) → s'.now 0 = ⟨(headB root).toArray⟩ → (∀ t,s'.old t = none) → Committed s made root (0,s')
 | early (s' : PS) : s'.n = s.n → s'.broken = true → (∀ t,made t = none → s'.now t = s.now t ∧ s'.old t = none) → Committed s made root (4,s')
 | late (s' : PS) : s'.n = s.n → s'.broken = true → (∀ t nd,made t = some nd → s'.now t = bytesOf nd) → (∀ t,t ≠ 0 → made t = none → s'.now t = s.now t) → s'.now 0 = ⟨(headB root).toArray⟩ → (∀ t,t ≠ 0 → s'.old t = none) → s'.old 0 = some (s.now 0) → Committed s made root (4,s')
theorem commit_is (s : PS) (made : Nat → Option (Node Box)) (root : Nat) (hm : ∀ t nd,made t = some nd → 1 ≤ t ∧ t < s.n ∧ Stands nd) (hn : s.n ≤ 4096) (h1 : 1 ≤ s.n) (hold : ∀ t,s.old t = none) :
  Committed s made root (s.commit made root) ∧ Adds s (s.commit made root).2 ((newOf made).length + 1) := by
 have hm4 : ∀ t nd,made t = some nd → t < 4096 := fun t nd h => by have := hm t nd h; omega
 obtain ⟨g1,g2,g3,g4⟩ := wrAll_is (newOf made) s (fun x hx => ⟨(hm _ _ ((newOf_mem hm4).1 hx)).2.1,(hm _ _ ((newOf_mem hm4).1 hx)).2.2⟩) (newOf_nodup made)
 have hout : ∀ t,made t = none → ∀ x ∈ newOf made,x.1 ≠ t := fun t ht x hx e => by
  have := (newOf_mem hm4).1 hx
  rw [e,ht] at this; cases this
 have m0 : made 0 = none := by
  cases h : made 0 with
  | none => rfl
  | some nd => have := hm 0 nd h; omega
 unfold PS.commit PS.nodes
 generalize wrAll (newOf made) s = r at g1 g2 g3 g4 ⊢
 obtain ⟨e,s1⟩ := r
 simp only at g1 g2 g3 g4 ⊢
 replace g3 := g3.symm
 rcases g3 with ⟨rfl,g3⟩ | ⟨rfl,g3⟩
 ·simp only [show ¬ ((4 : Int) = 0) by decide,if_false]
  exact ⟨.early _ g1 g3 fun t ht => ⟨(g2 t (hout t ht)).1,(g2 t (hout t ht)).2.trans (hold t)⟩,g4.mono (by omega)⟩
 ·simp only [if_true]
  have hf := flush_is s1
  generalize s1.flush = r at hf
  cases hf with
  | no s2 k1 k2 k3 k4 k5 k6 =>
   simp only [show ¬ ((4 : Int) = 0) by decide,if_false]
   exact ⟨.early _ (k2.trans g1) k5 fun t ht => ⟨by rw [k3]; exact (g2 t (hout t ht)).1,by rw [k4]; exact (g2 t (hout t ht)).2.trans (hold t)⟩,(g4.trans (adds0 k6)).mono (by omega)⟩
  | yes s2 k1 k2 k3 k4 k5 =>
   simp only [if_true]
   unfold PS.headW
   have hw := write_is s2 0 ⟨(headB root).toArray⟩ (by omega) (by have := headB_length root; simp [ByteArray.size,this])
   simp only [Int.ofNat_zero] at hw
   generalize s2.write 0 ⟨(headB root).toArray⟩ = r at hw
   have now2 : ∀ t nd,made t = some nd → s2.now t = bytesOf nd := fun t nd h => by rw [k3]; exact g3 (t,nd) ((newOf_mem hm4).2 h)
   have now2' : ∀ t,made t = none → s2.now t = s.now t := fun t h => by rw [k3]; exact (g2 t (hout t h)).1
   have a2 := g4.trans (adds0 k5)
   cases hw with
   | no s3 l1 l2 l3 l4 l5 l6 =>
    simp only [show ¬ ((4 : Int) = 0) by decide,if_false]
    exact ⟨.early _ ((l2.trans k2).trans g1) l5 fun t ht => ⟨by rw [l3]; exact now2' t ht,by rw [l4]; exact k4 t⟩,(a2.trans (adds0 l6)).mono (by omega)⟩
   | yes s3 l1 l2 l3 l4 l5 l6 =>
    simp only [if_true]
    have now3 : ∀ t nd,made t = some nd → s3.now t = bytesOf nd := fun t nd h => by
     have := hm t nd h
     rw [l3]; simp only [upd]; rw [if_neg (by omega)]; exact now2 t nd h
    have now3' : ∀ t,t ≠ 0 → made t = none → s3.now t = s.now t := fun t h0 h => by
     rw [l3]; simp only [upd]; rw [if_neg h0]; exact now2' t h
    have now30 : s3.now 0 = ⟨(headB root).toArray⟩ := by rw [l3]; simp [upd]
    have a3 := a2.trans (adds1 l6)
    have hf := flush_is s3
    generalize s3.flush = r at hf
    cases hf with
    | no s4 m1 m2 m3 m4 m5 m6 =>
     refine ⟨.late _ (((m2.trans l2).trans k2).trans g1) m5 (by rw [m3]; exact now3) (by rw [m3]; exact now3') (by rw [m3]; exact now30) (fun t ht => by rw [m4,l4 t ht]; exact k4 t) ?_,(a3.trans (adds0 m6)).mono (by omega)⟩
     rw [m4,l5,k4 0,now2' 0 m0]; rfl
    | yes s4 m1 m2 m3 m4 m5 =>
     exact ⟨.done _ (((m2.trans l2).trans k2).trans g1) (by rw [m3]; exact now3) (by rw [m3]; exact now3') (by rw [m3]; exact now30) m4,(a3.trans (adds0 m5)).mono (by omega)⟩
section
variable {s s' : PS} {root root' : Nat} {es es' : List (Key × Box)} {us us' : List Nat} {cs : CS Box}
theorem Ok.stands (ok : Ok s.n (fun t => t ∈ us) (fun t => t ∈ us') cs) (wt : WT (cur (nodesN s) cs) root' es' us') (hr : Rising es') (hp : ∀ p ∈ es',PairOk rectC p) (hn : s.n ≤ 4096) (t : Nat) (nd : Node Box) (h : cs.made t = some nd) : 1 ≤ t ∧ t < s.n ∧ Stands nd := by
 have hL := ((ok.made t).1 (by rw [h]; rfl)).1
 obtain ⟨a,b⟩ := ok.inL t hL
 obtain ⟨nd',e,h'⟩ := wt.stands hr hp (fun t ht => by have := ok.inL t ht; omega) t hL
 unfold cur at e
 rw [h] at e
 simp only [Option.some_or,Option.some.injEq] at e
 subst e
 exact ⟨a,b,h'⟩
theorem Ok.after (ok : Ok s.n (fun t => t ∈ us) (fun t => t ∈ us') cs) (wt : WT (cur (nodesN s) cs) root' es' us') (hnd : us'.Nodup) (hr : Rising es') (hp : ∀ p ∈ es',PairOk rectC p) (hn : s.n ≤ 4096)
  (e1 : s'.n = s.n) (e2 : ∀ t nd,cs.made t = some nd → s'.now t = bytesOf nd) (e3 : ∀ t,t ≠ 0 → cs.made t = none → s'.now t = s.now t) (e4 : s'.now 0 = ⟨(headB root').toArray⟩) : Tr s' root' es' us' := by
 have hroot : root' < 65536 := by
  rcases wt with ⟨rfl,_⟩ | ⟨_,_,_,u,_,_,rfl,_⟩
  ·decide
  ·have := ok.inL root' List.mem_cons_self; omega
 refine ⟨by rw [e4,data_of]; exact headOf_B hroot,wt.congr fun t ht => ?_,hnd,fun t ht => by rw [e1]; exact ok.inL t ht,hr⟩
 obtain ⟨b1,b2⟩ := ok.inL t ht
 unfold cur
 cases hm : cs.made t with
 | some nd =>
  have hs := ok.stands wt hr hp hn t nd hm
  unfold nodesN nodesOf
  rw [e1,if_pos b2,e2 t nd hm]
  show nodeOf (bytesOf nd).data.toList = _
  unfold bytesOf
  rw [data_of,nodeOf_B hs.2.2]
  rfl
 | none =>
  unfold nodesN nodesOf
  rw [e1,e3 t (by omega) hm]
  rfl
theorem commit_ok (h : Tr s root es us) (ok : Ok s.n (fun t => t ∈ us) (fun t => t ∈ us') cs) (wt : WT (cur (nodesN s) cs) root' es' us') (hnd : us'.Nodup) (hr : Rising es') (hp : ∀ p ∈ es',PairOk rectC p) (hn : s.n ≤ 4096) (h1 : 1 ≤ s.n) (hold : ∀ t,s.old t = none) :
  (((s.commit cs.made root').1 = 0 ∧ Tr (s.commit cs.made root').2 root' es' us' ∧ ∀ t,(s.commit cs.made root').2.old t = none) ∨ ((s.commit cs.made root').1 = 4 ∧ (s.commit cs.made root').2.broken = true ∧ ∀ c,Falls (s.commit cs.made root').2 c → Tr c root es us ∨ Tr c root' es' us')) ∧ (s.commit cs.made root').2.n = s.n ∧ Adds s (s.commit cs.made root').2 ((newOf cs.made).length + 1) := by
 obtain ⟨hc,ha⟩ := commit_is s cs.made root' (ok.stands wt hr hp hn) hn h1 hold
 have hU : ∀ t ∈ us,cs.made t = none := fun t ht => by
  cases hm : cs.made t with
  | none => rfl
  | some nd => exact absurd ht ((ok.made t).1 (by rw [hm]; rfl)).2
 have h0 : cs.made 0 = none := by
  cases hm : cs.made 0 with
  | none => rfl
  | some nd => have := ok.stands wt hr hp hn 0 nd hm; omega
 have hne : ∀ t ∈ us,t ≠ 0 := fun t ht => by have := h.ins t ht; omega
 generalize s.commit cs.made root' = r at hc ha ⊢
 cases hc with
 | done s' e1 e2 e3 e4 e5 => exact ⟨.inl ⟨rfl,ok.after wt hnd hr hp hn e1 e2 e3 e4,e5⟩,e1,ha⟩
 | early s' e1 e2 e3 =>
  refine ⟨.inr ⟨rfl,e2,fun c ⟨c1,c2⟩ => .inl ?_⟩,e1,ha⟩
  have hcn : ∀ t,cs.made t = none → c.now t = s.now t := fun t ht => by
   rcases c2 t with g | g
   ·rw [g]; exact (e3 t ht).1
   ·rw [(e3 t ht).2] at g; cases g
  exact h.congr (c1.trans e1) (hcn 0 h0) fun t ht => hcn t (hU t ht)
 | late s' e1 e2 e3 e4 e5 e6 e7 =>
  refine ⟨.inr ⟨rfl,e2,fun c ⟨c1,c2⟩ => ?_⟩,e1,ha⟩
  have hcn : ∀ t,t ≠ 0 → c.now t = s'.now t := fun t ht => by
   rcases c2 t with g | g
   ·exact g
   ·rw [e6 t ht] at g; cases g
  rcases c2 0 with g | g
  ·exact .inr (ok.after wt hnd hr hp hn (c1.trans e1) (fun t nd ht => by have := ok.stands wt hr hp hn t nd ht; rw [hcn t (by omega)]; exact e3 t nd ht) (fun t ht0 ht => by rw [hcn t ht0]; exact e4 t ht0 ht) (g.trans e5))
  ·rw [e7] at g
   exact .inl (h.congr (c1.trans e1) (Option.some.inj g).symm fun t ht => by rw [hcn t (hne t ht)]; exact e4 t (hne t ht) (hU t ht))
structure Frees (n : Nat) (us fr : List Nat) : Prop where
 nd : fr.Nodup
 mem : ∀ t,t ∈ fr ↔ 1 ≤ t ∧ t < n ∧ t ∉ us
theorem Ok.begin {n : Nat} {us fr : List Nat} (hf : Frees n us fr) (hu : ∀ t ∈ us, 1 ≤ t ∧ t < n) : Ok n (fun t => t ∈ us) (fun t => t ∈ us) (⟨fr, [],fun _ => none, 0, 0⟩ : CS Box) :=
 ⟨fun t => by simp,fun t => by simp,fun t => by simp [hf.mem t],hf.nd,List.nodup_nil,hu,hu⟩
theorem cur_begin {D : Nat → Option (Node Box)} {fr : List Nat} : cur D (⟨fr, [],fun _ => none, 0, 0⟩ : CS Box) = D := by
 funext t; simp [cur]
theorem Ok.ends {n : Nat} (ok : Ok n (fun t => t ∈ us) (fun t => t ∈ us') cs) : Frees n us' (cs.free ++ cs.left) := by
 refine ⟨List.nodup_append.2 ⟨ok.fnd,ok.lnd,fun a ha b hb e => ?_⟩,fun t => ?_⟩
 ·subst e
  exact ((ok.free a).1 ha).2.2.1 ((ok.left a).1 hb).1
 ·rw [List.mem_append,ok.free t,ok.left t]
  constructor
  ·rintro (⟨a,b,_,d⟩ | ⟨a,b⟩)
   ·exact ⟨a,b,d⟩
   ·exact ⟨(ok.inU t a).1,(ok.inU t a).2,b⟩
  ·rintro ⟨a,b,d⟩
   by_cases hU : t ∈ us
   ·exact .inr ⟨hU,d⟩
   ·exact .inl ⟨a,b,hU,d⟩
theorem Frees.length {n : Nat} {us fr : List Nat} (h : Frees n us fr) (hu : ∀ t ∈ us, 1 ≤ t ∧ t < n) (hn : us.Nodup) (h1 : 1 ≤ n) : fr.length + us.length + 1 = n := by
 have hp : ((0 :: us) ++ fr).Perm (List.range n) := by
  refine (List.perm_ext_iff_of_nodup ?_ List.nodup_range).2 fun t => ?_
  ·refine List.nodup_append.2 ⟨List.nodup_cons.2 ⟨fun g => by have := hu 0 g; omega,hn⟩,h.nd,fun a ha b hb e => ?_⟩
   subst e
   have := (h.mem a).1 hb
   rcases List.mem_cons.1 ha with rfl | ha
   ·omega
   ·exact this.2.2 ha
  ·rw [List.mem_append,List.mem_cons,List.mem_range,h.mem t]
   by_cases hU : t ∈ us
   ·have := hu t hU; simp [hU]; omega
   ·simp [hU]; omega
 have := hp.length_eq
 simp at this
 omega
end
end
section
structure Way (s0 : PS) (us : List Nat) (cs : CS Box) (root : Nat) (es : List (Key × Box)) (us' : List Nat) : Prop where
 ok : Ok s0.n (fun t => t ∈ us) (fun t => t ∈ us') cs
 wt : WT (cur (nodesN s0) cs) root es us'
 nd : us'.Nodup
 up : Rising es
 pok : ∀ p ∈ es,PairOk rectC p
section
variable {s0 : PS} {us us' : List Nat} {cs : CS Box} {root : Nat} {es : List (Key × Box)}
theorem Way.begin {fr : List Nat} (h : Tr s0 root es us) (hf : Frees s0.n us fr) : Way s0 us ⟨fr, [],fun _ => none, 0, 0⟩ root es us :=
 ⟨Ok.begin hf h.ins,by rw [cur_begin]; exact h.wt,h.nd,h.up,h.pok⟩
theorem stands_size {nd : Node Box} (h : Stands nd) : nd.size ≤ 14 := by
 cases nd with
 | leaf r => have := h.2.1; simp only [Node.size]; omega
 | branch r => exact h.2.1
theorem Way.lowF (h : Way s0 us cs root es us') (hn : s0.n ≤ 4096) : ∀ x ∈ cs.free,x < 4096 := fun x hx => by have := (h.ok.free x).1 hx; omega
theorem Way.lowM (h : Way s0 us cs root es us') (hn : s0.n ≤ 4096) : ∀ i nd,cs.made i = some nd → i < 4096 ∧ nd.size ≤ 14 := fun i nd hm => by
 have := h.ok.stands h.wt h.up h.pok hn i nd hm
 exact ⟨by omega,stands_size this.2.2⟩
theorem Way.ends (h : Way s0 us cs root es us') : Frees s0.n us' (cs.free ++ cs.left) := h.ok.ends
theorem Way.count (h : Way s0 us cs root es us') (h1 : 1 ≤ s0.n) : cs.free.length + cs.left.length + us'.length + 1 = s0.n := by
 have := h.ends.length h.ok.inL h.nd h1
 simpa using this
theorem Way.made {fr : List Nat} (h : Way s0 us cs root es us') (hf : Frees s0.n us fr) (hn : s0.n ≤ 4096) : (newOf cs.made).length + cs.free.length = fr.length := by
 have hm4 : ∀ t nd,cs.made t = some nd → t < 4096 := fun t nd e => (h.lowM hn t nd e).1
 have hp : ((newOf cs.made).map (·.1) ++ cs.free).Perm fr := by
  refine (List.perm_ext_iff_of_nodup ?_ hf.nd).2 fun t => ?_
  ·refine List.nodup_append.2 ⟨newOf_nodup _,h.ok.fnd,fun a ha b hb e => ?_⟩
   subst e
   obtain ⟨x,hx,rfl⟩ := List.mem_map.1 ha
   have := (newOf_mem hm4).1 hx
   exact ((h.ok.free x.1).1 hb).2.2.2 ((h.ok.made x.1).1 (by rw [this]; rfl)).1
  ·rw [List.mem_append,hf.mem t,h.ok.free t]
   have hmt : t ∈ (newOf cs.made).map (·.1) ↔ t ∈ us' ∧ t ∉ us := by
    rw [← h.ok.made t,List.mem_map]
    constructor
    ·rintro ⟨x,hx,rfl⟩; rw [(newOf_mem hm4).1 hx]; rfl
    ·intro g
     obtain ⟨nd,e⟩ := Option.isSome_iff_exists.1 g
     exact ⟨(t,nd),(newOf_mem hm4).2 e,rfl⟩
   rw [hmt]
   by_cases a : t ∈ us'
   ·have := h.ok.inL t a
    simp [a]; exact ⟨fun g => ⟨this.1,this.2,g⟩,fun g => g.2.2⟩
   ·simp [a]
 have := hp.length_eq
 simpa using this
theorem pow7 {a b : Nat} (h : 10 * 7 ^ a < 10 * 7 ^ b) : a < b := by
 by_cases g : a < b
 ·exact g
 ·have := Nat.pow_le_pow_right (show 0 < 7 by decide) (show b ≤ a by omega)
  omega
theorem Way.step (h : Way s0 us cs root es us') {k : Key} {op : List (Key × Box) → List (Key × Box)} (ho : OpOk k op) (hop : ∀ p ∈ op es,PairOk rectC p) (hup : Rising (op es)) {g : Nat} (hl : es.length < 10 * 7 ^ (g + 1)) :
  ∃ f,f ≤ g + 1 ∧ ((changeF (nodesN s0) k op (f + 1) cs root = .space ∧ cs.free.length < 2 * f + 4) ∨
   ∃ root' cs' us2,changeF (nodesN s0) k op (f + 1) cs root = .ok (root',cs') ∧ Way s0 us cs' root' (op es) us2 ∧ cs'.reads ≤ cs.reads + 2 * (f + 1) ∧ cs.free.length ≤ cs'.free.length + 2 * f + 4) := by
 obtain ⟨f,hf,hres⟩ := change_ok ho h.ok h.wt h.nd h.up
 obtain ⟨f,rfl⟩ : ∃ f',f = f' + 1 := by
  rcases hf with rfl | ⟨g',rfl,_⟩
  ·exact ⟨0,rfl⟩
  ·exact ⟨g' + 1,rfl⟩
 have hfg : f ≤ g + 1 := by
  rcases hf with hf | ⟨g',hf,hb⟩
  ·omega
  ·have := pow7 (Nat.lt_of_le_of_lt hb hl); omega
 obtain ⟨i1,i2⟩ := changeF_free (D := nodesN s0) (k := k) (op := op) f cs root
 refine ⟨f,hfg, ?_⟩
 rcases hres with e | ⟨root',cs',us2,e,a,b,c,d⟩
 ·exact .inl ⟨e,i1 e⟩
 ·exact .inr ⟨root',cs',us2,e,⟨a,b,c,hup,hop⟩,d,(i2 _ e).1⟩
theorem Way.put (h : Way s0 us cs root es us') (x : Key × Box) (hx : PairOk rectC x) {g : Nat} (hl : es.length < 10 * 7 ^ (g + 1)) :
  ∃ f,f ≤ g + 1 ∧ ((changeF (nodesN s0) x.1 (ins x.1 x.2) (f + 1) cs root = .space ∧ cs.free.length < 2 * f + 4) ∨
   ∃ root' cs' us2,changeF (nodesN s0) x.1 (ins x.1 x.2) (f + 1) cs root = .ok (root',cs') ∧ Way s0 us cs' root' (ins x.1 x.2 es) us2 ∧ cs'.reads ≤ cs.reads + 2 * (f + 1) ∧ cs.free.length ≤ cs'.free.length + 2 * f + 4) :=
 h.step (opOk_ins _ _) (fun p hp => by
  rcases mem_ins.1 hp with ⟨hp,_⟩ | rfl
  ·exact h.pok p hp
  ·exact hx) (rising_ins h.up) hl
theorem Way.del (h : Way s0 us cs root es us') (k : Key) {g : Nat} (hl : es.length < 10 * 7 ^ (g + 1)) :
  ∃ f,f ≤ g + 1 ∧ ((changeF (nodesN s0) k (del k) (f + 1) cs root = .space ∧ cs.free.length < 2 * f + 4) ∨
   ∃ root' cs' us2,changeF (nodesN s0) k (del k) (f + 1) cs root = .ok (root',cs') ∧ Way s0 us cs' root' (del k es) us2 ∧ cs'.reads ≤ cs.reads + 2 * (f + 1) ∧ cs.free.length ≤ cs'.free.length + 2 * f + 4) :=
 h.step (opOk_del _) (fun p hp => h.pok p (mem_del.1 hp).1) (rising_del h.up) hl
theorem tre_few {M : Nat → Option (Node Box)} : ∀ (h : Nat) {n : Node Box} {es : List (Key × Box)} {us : List Nat},Tre M h n es us → n.size ≤ n.most → es.length ≤ 10 * (us.length + 1)
 | 0,n,es,us,ht,hs => by
  obtain ⟨rfl,rfl⟩ := ht
  simpa [Node.size,Node.most] using hs
 | h + 1,n,es,us,ht,_ => by
  obtain ⟨ks,rfl,hk,rfl,rfl⟩ := tre_succ.1 ht
  have : ∀ (l : List (Kid Box)),(∀ c ∈ l,c.es.length ≤ 10 * (c.us.length + 1)) → (l.flatMap Kid.es).length ≤ 10 * (l.flatMap Kid.all).length := by
   intro l
   induction l with
   | nil => intro _; simp
   | cons c l ih =>
    intro hl
    have h1 := hl c List.mem_cons_self
    have h2 := ih fun d hd => hl d (List.mem_cons_of_mem _ hd)
    simp only [List.flatMap_cons,List.length_append,Kid.all,List.length_cons]
    omega
  have := this ks fun c hc => tre_few h (hk c hc).tre (hk c hc).fits
  omega
theorem WT.few {M : Nat → Option (Node Box)} {root : Nat} {es : List (Key × Box)} {us : List Nat} (h : WT M root es us) : es.length ≤ 10 * us.length := by
 rcases h with ⟨_,rfl,rfl⟩ | ⟨_,h,nd,u,_,h2,rfl,h3,_⟩
 ·simp
 ·exact tre_few h h2 h3
theorem Way.few (h : Way s0 us cs root es us') (h1 : 1 ≤ s0.n) (hn : s0.n ≤ 4096) : es.length < 10 * 7 ^ 5 := by
 have a := h.wt.few
 have b := h.count h1
 omega
end
end
end Go.Proofs.YtdgbgmffpcooeaaGreat
namespace Go.Proofs.YtdgbgmffpcooeaaGreat
open Go.RowKit Go.Lib Go.Shelf
section
attribute [local go_sem] Oper.semAt_some
def oks (l : List (Key × Box)) : List Tld := l.map fun x => (x, 0)
def zeroT : Tld := (((0, 0),⟨0, 0, 0, 0⟩), 4)
theorem from_any (w : World) (t : Nat) (k : Key) :
  Calls Tryz.prog 87 #[.pointer (some ⟨t, 0,none⟩),keyV k] w fun e w' => e = .returned (.func (.func 120) #[] #[.pointer (some ⟨w.heap.size, 0,none⟩), .pointer (some ⟨w.heap.size + 1, 0,none⟩)]) ∧ w' = (w.alloc (.cells #[.pointer (some ⟨t, 0,none⟩)] 122)).alloc (.cells #[.int .i64 k.1, .int .i64 k.2] 154) := by
 go_enter Tryz.func87,Tryz.ntmps87
 go_wp2
 go_ret
 exact ⟨rfl,rfl⟩
def EndD (base : Nat) (A : PA) (s : PS) (t : Nat) (f : Value) (K : Nat) (few : Prop) (W : World) : Prop := ∃ r,PD W base A (s.at_ r) ∧ TreeB W t A f ∧ (few → r ≤ K) ∧ r ≤ 1 + 15 ^ (K / 2)
set_option maxRecDepth 100000 in
set_option maxHeartbeats 4000000 in
theorem from_live (n base : Nat) (A : PA) (s : PS) (t : Nat) (f : Value) (root : Nat) (es : List (Key × Box)) (us : List Nat) (k : Key) (K : Nat) (M0 : Nat → Prop) (w : World) (tb kb : Nat) (hs : s.brk = false) (hT : Tr s root es us)
  (hK : ∀ h nd u,Tre (nodesN s) h nd es u → nd.size ≤ nd.most → 1 ≤ nd.size → (h = 0 ∨ 2 ≤ nd.size) → 2 * h + 2 ≤ K) (hK1 : 2 ≤ K)
  (hp : PD w base A s) (ht : TreeB w t A f) (htb : Blk w tb 122 #[.pointer (some ⟨t, 0,none⟩)]) (hkb : Blk w kb 154 #[.int .i64 k.1, .int .i64 k.2])
  (hM : ∀ b,M0 b → b < w.heap.size) (hMA : ∀ b,A.F b → ¬ M0 b) (hMt : ¬ M0 t) :
  Tells n Tryz.prog 120 #[.pointer (some ⟨tb, 0,none⟩), .pointer (some ⟨kb, 0,none⟩)] tldE A.F M0 (oks (frm k es)) (EndD base A s t f K (frm k es = [])) (fun i => EndD base A s t f K (i = 1)) w := by
 intro l J Jx W hbw hlp hlw hJ hJx hY h0
 have hpW : PD W base A s := hp.below hbw
 have htW : TreeB W t A f := (hbw.block t ht.lt).trans ht
 have htbW : Blk W tb 122 #[.pointer (some ⟨t, 0,none⟩)] := (hbw.block tb htb.lt).trans htb
 have hkbW : Blk W kb 154 #[.int .i64 k.1, .int .i64 k.2] := (hbw.block kb hkb.lt).trans hkb
 have hroot := root_live W base A s hpW t f htW hs
 rw [hT.head] at hroot
 simp only at hroot
 have htbA : ¬ A.F tb := fun h => hpW.notTag h htbW (by decide) (by decide) (by decide)
 have hkbA : ¬ A.F kb := fun h => hpW.notTag h hkbW (by decide) (by decide) (by decide)
 have hdd : ∀ k : Nat,(Fence.wide.depth.isSome = true → 1 ≤ k) := fun k h => by cases h
 have hmx : Tryz.prog.follows .mixedOrders = true := by kernel_rfl
 have ct : W.cell? ⟨tb, 0,none⟩ = some (.pointer (some ⟨t, 0,none⟩)) := htbW.cell 0
 have hszW := hbw.size
 have HF : Hid (∀ W1,Off A.F W W1 → PD W1 base A s.adv → It base A s t f l W1 M0 1 ∧ J 0 M0 W1 ∧ W1.cell? ⟨tb, 0,none⟩ = some (.pointer (some ⟨t, 0,none⟩)) ∧ W1.cell? ⟨kb, 0,none⟩ = some (.int .i64 k.1) ∧ W1.cell? ⟨kb, 1,none⟩ = some (.int .i64 k.2)) := fun W1 o1 p1 => by
  obtain ⟨q,hq⟩ := hlp
  have hs1 := o1.size
  have b1 : Blk W1 tb 122 #[.pointer (some ⟨t, 0,none⟩)] := (o1.block tb htbW.lt htbA).trans htbW
  have b2 : Blk W1 kb 154 #[.int .i64 k.1, .int .i64 k.2] := (o1.block kb hkbW.lt hkbA).trans hkbW
  exact ⟨⟨p1,(o1.block t htW.lt (hpW.nott' htW)).trans htW,⟨q,(o1.block l (Array.getElem?_eq_some_iff.1 hq).1 (fun h => hpW.notLoop ⟨q,hq⟩ h rfl)).trans hq⟩,fun b hb => by have := hM b hb; omega,hMA,hMt⟩,hJ _ _ _ _ h0 o1,b1.cell 0,b2.cell 0,b2.cell 1⟩
 have HXS : Hid (∀ j x,(frm k es)[j]? = some x → (oks (frm k es))[0 + j]? = some (x, 0)) := fun j x hx => by
  rw [Nat.zero_add]; unfold oks; rw [List.getElem?_map,hx]; rfl
 have hlen : (oks (frm k es)).length = (frm k es).length := by unfold oks; rw [List.length_map]
 have HLEN : Hid ((oks (frm k es)).length = (frm k es).length) := hlen
 have HY : Hid _ := hY
 refine callsIn_of_wp Tryz.func120 rfl trivial ?_ rfl
 simp only [Tryz.ntmps120,List.size_toArray,List.length_cons,List.length_nil,Nat.reduceAdd,Nat.reduceSub,Array.replicate_succ,Array.replicate_zero,List.push_toArray,List.append_toArray,List.nil_append,List.cons_append]
 rcases hT.wt with ⟨rfl,hes,_⟩ | ⟨h0',h,nd,u,hnd,htre,_,g1,g2,g3⟩
 ·have HE : Hid (frm k es = []) := by show _ = _; rw [hes]; rfl
  clear hlen hY hT hK hp ht htb hkb hpW htW htbW hkbW hlp hes h0
  gi_wp2_with (refine ⟨trivial,hdd _, ?_⟩; gi_at_call 100; refine (callsIn_wide.2 hroot).mono ?_; rintro e w1 ⟨rfl,hP1,o1⟩)
  go_end0
  obtain ⟨i1,j1,_⟩ := HF.out w1 o1 hP1
  refine ⟨⟨_,rfl⟩, .inl ⟨M0,by rw [HLEN.out,HE.out]; exact j1, 1,i1.pd,i1.tr,fun _ => by omega,Nat.le_add_right ..⟩⟩
 ·have hr0 : ((root : Int) != 0) = true := by simp; omega
  have hKh := hK h nd u htre g1 g2 g3
  have HTELL : Hid (∀ n W1,Off A.F W W1 → PD W1 base A s.adv → CallsIn Fence.wide n Tryz.prog 121 #[.pointer (some ⟨t, 0,none⟩), .int .i64 (root : Int),keyV k, .func (.yield l) #[] #[]] W1 (TellP base A s t f l J Jx k h es 0 1 M0 W1)) := fun n' W1 o1 p1 =>
   tell_in base A s t f l hs J Jx hJ (oks (frm k es)) (fun m i x M W1 hx hj => yieldW_any m (HY.out i x M W1 hx hj)) k h n' root nd es u hnd htre hT.up 0 1 HXS.out M0 W1 (HF.out W1 o1 p1).1 (HF.out W1 o1 p1).2.1
  clear hlen hY hT hK hp ht htb hkb hpW htW htbW hkbW hlp h0
  gi_upto_region 4 with (refine ⟨trivial,hdd _, ?_⟩; gi_at_call 100; refine (callsIn_wide.2 hroot).mono ?_; rintro e w1 ⟨rfl,hP1,o1⟩)
  obtain ⟨i1,j1,d0,d1,d2⟩ := HF.out w1 o1 hP1
  have htl := HTELL.out (n - 1) w1 o1 hP1
  have HC : Hid (CallsIn Fence.wide (n - 1) Tryz.prog 121 #[.pointer (some ⟨t, 0,none⟩), .int .i64 (root : Int),keyV k, .func (.yield l) #[] #[]] w1 (TellP base A s t f l J Jx k h es 0 1 M0 w1)) := htl
  clear htl HTELL
  gi_wp2_with (refine ⟨trivial,hdd _, ?_⟩; gi_at_call 121; refine CallsIn.mono HC.out ?_; rintro e W5 ⟨o5,hcase⟩; rcases hcase with ⟨rfl,M2,r2,hJ5,hI5,hM5,hr5⟩ | ⟨rfl,i,r2,hi,hx5,hP5,hT5,hr5⟩)
  ·go_end0
   refine ⟨⟨_,rfl⟩, .inl ⟨M2,by rw [HLEN.out, ← Nat.zero_add (frm k es).length]; exact hJ5,r2,hI5.pd,hI5.tr,fun hf => ?_,Nat.le_trans hr5.2 (Nat.add_le_add_left (Nat.pow_le_pow_right (by decide) (by omega)) 1)⟩⟩
   have := hr5.1 hf
   omega
  ·go_end0
   refine ⟨⟨_,rfl⟩, .inr ⟨i,hi,hx5,r2,hP5,hT5,fun hi1 => ?_,Nat.le_trans hr5.2 (Nat.add_le_add_left (Nat.pow_le_pow_right (by decide) (by omega)) 1)⟩⟩
   have := (hr5.1 (by omega)).1
   omega
end
end Go.Proofs.YtdgbgmffpcooeaaGreat
