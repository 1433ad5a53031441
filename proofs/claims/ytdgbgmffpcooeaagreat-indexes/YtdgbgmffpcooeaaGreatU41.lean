/- Ck4 Oo2 Md1 Rm1 Un1 Nm1 -/
import Derived.Test.YtdgbgmffpcooeaaGreatU40
namespace Go.Proofs.YtdgbgmffpcooeaaGreat
open Go.RowKit Go.Lib Go.Shelf
section
theorem idB_iff {id : Int} : idB id = true ↔ 0 ≤ id ∧ id ≤ 4611686018427387904 := by
 unfold idB; rw [Bool.and_eq_true,decide_eq_true_iff,decide_eq_true_iff]
theorem checked {es l' : List Ent} (hr : Rising es) (hok : ∀ x ∈ es,OkE x) (hp : l'.Perm (wanted plc es)) (hs : l'.Pairwise (fun x y => ¬ klt y.1 x.1)) : (allEq eqEB es l' = true ∧ ∃ tb,Idx plc tb es) ∨ (allEq eqEB es l' = false ∧ ∀ tb, ¬ Idx plc tb es) := by
 cases h : allEq eqEB es l' with
 | true =>
  refine .inl ⟨rfl, ?_⟩
  have e := allEq_iff.1 h
  subst e
  obtain ⟨tb,hi,_⟩ := check_sound plc hr (fun x hx hge => ⟨idB_iff.1 (hok x hx hge).1,plc_ok (hok x hx hge).2⟩) (fun x => hp.mem_iff)
  exact ⟨tb,hi⟩
 | false =>
  refine .inr ⟨rfl,fun tb hi => ?_⟩
  have hk : l'.Pairwise fun x y => x.1 ≠ y.1 := (hp.pairwise_iff (fun h => Ne.symm h)).2 (wanted_keys hi)
  have e := sorted_is hr (fun x => (check_full hi x).trans hp.mem_iff.symm) hs hk
  rw [allEq_iff.2 e.symm] at h
  cases h
theorem unchecked {es : List Ent} {x : Ent} (hx : x ∈ es) (hno : ¬ OkE x) (tb : List (Int × Box)) : ¬ Idx plc tb es := fun hi => hno fun hge => by
 obtain ⟨_,hm⟩ := hi.num hx hge
 exact ⟨idB_iff.2 (hi.id _ hm),plc_inv (hi.pl _ hm)⟩
theorem frm_zero {es : List Ent} (h : FromK es) : frm (0, 0) es = es := by
 refine List.filter_eq_self.2 fun x hx => decide_eq_true ?_
 have := h x hx
 unfold klt at this ⊢
 omega
theorem check_live (w : World) (base : Nat) (A : PA) (s : PS) (t : Nat) (f : Value) (root : Nat) (es : List Ent) (us : List Nat) (hp : PD w base A s) (ht : TreeB w t A f) (hs : s.brk = false) (hT : Tr s root es us) (hk : FromK es) :
  Calls Tryz.prog 75 #[.pointer (some ⟨t, 0,none⟩)] w fun e w' => ∃ er : Int,e = .returned (.int .i64 er) ∧ Off A.F w w' ∧ (∃ r,r ≤ 1 + 15 ^ 6 ∧ PD w' base A (s.at_ r) ∧ TreeB w' t A f) ∧ ((er = 0 ∧ ∃ tb,Idx plc tb es) ∨ (er = 7 ∧ ∀ tb, ¬ Idx plc tb es)) := by
 have hF : ∀ k,A.F k → k < w.heap.size := fun k hk => (hp.lt k hk).2
 have hl := hT.few hp.n2
 have hfa := frm_zero hk
 refine (check_any w A t es (EndD base A s t f 12 (frm (0, 0) es = [])) (fun i => EndD base A s t f 12 (i = 1)) (by omega) hF ht.lt (fun X Y h ho => h.off hF ht.lt ho) (fun i X Y h ho => h.off hF ht.lt ho) (fun W tb kb M0 hb h1 h2 h3 h4 h5 => by
  have := from_live 5 base A s t f root es us (0, 0) 12 M0 W tb kb hs hT (fun h nd u a b c d => height_le a hl d) (by omega) (hp.below hb) ((hb.block t ht.lt).trans ht) h1 h2 h3 h4 h5
  rw [hfa] at this
  rw [hfa]
  exact this)).mono ?_
 rintro e w' ⟨ho,er,rfl,⟨hok,⟨l',hp',hs',her⟩,r,h1,h2,h3⟩ | ⟨rfl,⟨x,hx,hno⟩,i,r,h1,h2,h3⟩⟩
 ·refine ⟨er,rfl,ho,⟨r,h3.2,h1,h2⟩, ?_⟩
  rcases checked hT.up hok hp' hs' with ⟨e,hi⟩ | ⟨e,hi⟩
  ·rw [e,if_pos rfl] at her; exact .inl ⟨her,hi⟩
  ·rw [e,if_neg (by decide)] at her; exact .inr ⟨her,hi⟩
 ·exact ⟨7,rfl,ho,⟨r,h3.2,h1,h2⟩, .inr ⟨rfl,fun tb => unchecked hx hno tb⟩⟩
end
end Go.Proofs.YtdgbgmffpcooeaaGreat
namespace Go.Proofs.YtdgbgmffpcooeaaGreat
open Go.RowKit Go.Lib
section
def OpenI (w : World) (base : Nat) (A : PA) (s : PS) (e : Ending) (w' : World) : Prop :=
 Off A.F w w' ∧ ((∃ x t m' f fr root es us tb r,e = .returned (.tuple #[.pointer (some ⟨x, 0,none⟩), .int .i64 0]) ∧ (m' = A.m ∨ w.heap.size ≤ m') ∧ w.heap.size ≤ t ∧ w.heap.size ≤ x ∧ IxS w' base { A with m := m' } (s.at_ r).flush.2 x t false f fr ∧ Tr s root es us ∧ Frees s.n us fr ∧ Idx plc tb es ∧ (root = 0 → r ≤ 1 + (1 + 15 ^ 6)) ∧ FreshV w f) ∨
 (e = .returned (.tuple #[.pointer none, .int .i64 7]) ∧ (∃ r,PD w' base A (s.at_ r)) ∧ ((∀ root es us,Tr s root es us → ¬ FromK es) ∨ ∃ root es us,Tr s root es us ∧ FromK es ∧ ∀ tb, ¬ Idx plc tb es)))
set_option maxRecDepth 100000 in
set_option maxHeartbeats 4000000 in
theorem iopen_live (w : World) (base : Nat) (A : PA) (s : PS) (hp : PD w base A s) (hs : s.brk = false) (hlf : -1 ≤ s.left ∧ s.left ≤ 9223372036854775807) :
  Calls Tryz.prog 51 #[.pointer (some ⟨A.q, 0,none⟩)] w (OpenI w base A s) := by
 have hto : Calls Tryz.prog 74 #[.pointer (some ⟨A.q, 0,none⟩)] w fun e w' => ∃ (pv : Option Addr) (er : Int),e = .returned (.tuple #[.pointer pv, .int .i64 er]) ∧ OpenP w base A s (.returned (.tuple #[.pointer pv, .int .i64 er])) w' := by
  refine (topen_live w base A s hp hs).mono ?_
  rintro e w' ⟨ho,⟨T,root,es,us,f,fr,r,rfl,h⟩ | ⟨rfl,h⟩⟩
  ·exact ⟨_,_,rfl,ho, .inl ⟨T,root,es,us,f,fr,r,rfl,h⟩⟩
  ·exact ⟨_,_,rfl,ho, .inr ⟨rfl,h⟩⟩
 have hFw : ∀ k,A.F k → k < w.heap.size := fun k hk => (hp.lt k hk).2
 clear hp
 go_enter Tryz.func51,Tryz.ntmps51
 go_upto_region 2 with (go_at_call 74; refine hto.mono ?_; rintro e w1 ⟨pv,er,rfl,hO⟩)
 obtain ⟨ho,h | h⟩ := hO
 ·obtain ⟨T,root,es,us,f,fr,r,heq,hT,hk,hfr,hpd,htr,hrow,hTl,hr1⟩ := h
  cases heq
  have hck := check_live w1 base A (s.at_ r) T f root es us hpd htr hs (hT.congr rfl rfl (fun _ _ => rfl)) hk
  have HR1 : Hid (root = 0 → r = 1) := hr1
  clear hr1
  have HT : Hid (Tr s root es us) := hT
  have HK : Hid (FromK es) := hk
  have HFR : Hid (Frees s.n us fr) := hfr
  have HRW : Hid (w1.ownsRow w.heap.size 3 1 f fr.length (secsV fr)) := hrow
  clear hto hT hk hfr hrow hpd htr
  go_upto_region 5 with (go_at_call 75; refine hck.mono ?_; rintro e w2 ⟨er,rfl,ho2,⟨r2,hr2,hp2,ht2⟩,hor⟩)
  rw [PS.at_at] at hp2
  have HR2 : Hid (r2 ≤ 1 + 15 ^ 6) := hr2
  clear hr2
  have hs1 := ho.size
  have hs2 := ho2.size
  have nF : ∀ k,w.heap.size ≤ k → ¬ A.F k := fun k hk h => by have := hFw k h; omega
  rcases hor with ⟨rfl,tb,hidx⟩ | ⟨rfl,hno⟩
  ·have hfl := pflush2_any w2 base A (s.at_ (r + r2)) hp2 hlf
   have e0 : (s.at_ (r + r2)).flush.1 = 0 := by unfold PS.flush; rw [show (s.at_ (r + r2)).brk = false from hs]; rfl
   rw [e0] at hfl
   have HI : Hid (Idx plc tb es) := hidx
   clear hck e0 hidx
   go_wp2_with (go_at_call 76; refine hfl.mono ?_; rintro e w3 ⟨m',rfl,hp3,ho3,hm⟩)
   go_ret2
   have hs3 := ho3.size
   have ht3 : TreeB w3 T A f := (ho3.block _ ht2.lt (nF _ hTl)).trans ht2
   have hr3 := own_offv (own_offv HRW.out ho2 (fun g hg hf => nF g (own_tagged HRW.out hg).1 hf)) ho3 (fun g hg hf => nF g (own_tagged HRW.out hg).1 hf)
   have hb4 : Below w3.heap.size w3 (w3.alloc (.cells #[.pointer (some ⟨T, 0,none⟩), .bool false] 124)) := (Below.refl _ w3).alloc (Nat.le_refl _) _
   refine ⟨((ho.trans ho2).trans ho3).trans (Off.of_below hb4), .inl ⟨w3.heap.size,T,m',f,fr,root,es,us,tb,r + r2,rfl,hm.imp id (fun h => by omega),hTl,by omega,⟨hp3.below hb4,(hb4.block _ ht3.lt).trans ht3,own_mono (own_offv hr3 (Off.of_below (F := fun _ => False) hb4) (fun _ _ h => h)) (Nat.zero_le _),Blk.new w3 124 _⟩,HT.out,HFR.out,HI.out,fun h => by have := HR1.out h; have := HR2.out; omega,fun g hg => (own_tagged HRW.out hg).1⟩⟩
  ·clear hck
   go_wp2
   go_ret2
   exact ⟨ho.trans ho2, .inr ⟨rfl,⟨r + r2,hp2⟩, .inr ⟨root,es,us,HT.out,HK.out,hno⟩⟩⟩
 ·obtain ⟨heq,hno,r,hpd⟩ := h
  cases heq
  have HN : Hid (∀ root es us,Tr s root es us → ¬ FromK es) := hno
  clear hno hto
  go_wp2
  go_ret2
  exact ⟨ho, .inr ⟨rfl,⟨r,hpd⟩, .inl HN.out⟩⟩
end
end Go.Proofs.YtdgbgmffpcooeaaGreat
namespace Go.Proofs.YtdgbgmffpcooeaaGreat
section
section
variable {V : Type}
theorem f_all {α : Type} {p : α → Bool} (l : List α) (h : ∀ t ∈ l,p t = true) : l.filter p = l := List.filter_eq_self.2 h
theorem f_no {α : Type} {p : α → Bool} (l : List α) (h : ∀ t ∈ l, ¬ p t = true) : l.filter p = [] := List.filter_eq_nil_iff.2 h
abbrev Ups (tb : List (Int × V)) : Prop := tb.Pairwise fun a b => a.1 < b.1
theorem tput_snoc {id : Int} {v : V} {T : List (Int × V)} {x : Int × V} (hx : id < x.1) : tput id v (T ++ [x]) = tput id v T ++ [x] := by
 unfold tput
 rw [List.filter_append,List.filter_append,f_no [x] (fun t ht => by simp at ht; subst ht; simp; omega),f_all [x] (fun t ht => by simp at ht; subst ht; simpa using hx)]
 simp
def WithP (id : Int) (v : V) (T out : List (Int × V)) (put : Bool) : Prop := (put = false ∧ out = T ∧ ∀ t ∈ T,t.1 < id) ∨ (put = true ∧ out = tput id v T ∧ ∃ t ∈ T,id ≤ t.1)
theorem WithP.nil (id : Int) (v : V) : WithP id v [] [] false := .inl ⟨rfl,rfl,fun t ht => by cases ht⟩
theorem WithP.lt {id : Int} {v : V} {T out : List (Int × V)} {x : Int × V} (h : WithP id v T out false) (hx : x.1 < id) : WithP id v (T ++ [x]) (out ++ [x]) false := by
 rcases h with ⟨_,rfl,h⟩ | ⟨h,_⟩
 ·exact .inl ⟨rfl,rfl,fun t ht => by rcases List.mem_append.1 ht with g | g; exact h t g; simp at g; subst g; exact hx⟩
 ·cases h
theorem WithP.more {id : Int} {v : V} {T out : List (Int × V)} {x : Int × V} (h : WithP id v T out true) (hu : Ups (T ++ [x])) : WithP id v (T ++ [x]) (out ++ [x]) true ∧ x.1 ≠ id := by
 rcases h with ⟨h,_⟩ | ⟨_,rfl,t,ht,h⟩
 ·cases h
 ·have := (List.pairwise_append.1 hu).2.2 t ht x (by simp)
  exact ⟨.inr ⟨rfl,by rw [tput_snoc (by omega)],t,by simp [ht],h⟩,by omega⟩
theorem tput_len {id : Int} {v v0 : V} {tb : List (Int × V)} (hu : Ups tb) (h : tget id tb = some v0) : (tput id v tb).length = tb.length := by
 have hm := (tget_some hu).1 h
 obtain ⟨a,b,rfl⟩ := List.append_of_mem hm
 have h1 := (List.pairwise_append.1 hu).2.2
 have h2 := (List.pairwise_cons.1 (List.pairwise_append.1 hu).2.1).1
 unfold tput
 rw [List.filter_append,List.filter_append,List.filter_cons,List.filter_cons]
 rw [if_neg (by simp),if_neg (by simp)]
 rw [f_all a (fun t ht => decide_eq_true (h1 t ht _ List.mem_cons_self)),f_no b (fun t ht => by have := h2 t ht; simp; omega)]
 rw [f_no a (fun t ht => by have := h1 t ht _ List.mem_cons_self; simp; omega),f_all b (fun t ht => decide_eq_true (h2 t ht))]
 simp
theorem tput_len_new {id : Int} {v : V} {tb : List (Int × V)} (h : tget id tb = none) : (tput id v tb).length = tb.length + 1 := by
 rw [tget_none] at h
 unfold tput
 rw [List.length_append,List.length_cons]
 have : ∀ l : List (Int × V),(∀ t ∈ l,t.1 ≠ id) → (l.filter fun t => decide (t.1 < id)).length + (l.filter fun t => decide (id < t.1)).length = l.length := by
  intro l
  induction l with
  | nil => intro _; rfl
  | cons x l ih =>
   intro hl
   have := ih (fun t ht => hl t (List.mem_cons_of_mem _ ht))
   have hx := hl x List.mem_cons_self
   rw [List.filter_cons,List.filter_cons]
   by_cases g : x.1 < id
   ·rw [if_pos (by simpa using g),if_neg (by simp; omega)]; simp; omega
   ·rw [if_neg (by simpa using g),if_pos (by simp; omega)]; simp; omega
 have := this tb h
 omega
theorem tdel_len {id : Int} {tb : List (Int × V)} : (tdel id tb).length ≤ tb.length := List.length_filter_le ..
end
instance (r v : Box) : Decidable ((both v r).ok) := by unfold Box.ok; infer_instance
def winL (r : Box) (tb : List (Int × Box)) : List Int := (tb.filter fun t => decide ((both t.2 r).ok)).map (·.1)
theorem lt_ext : ∀ {a b : List Int},a.Pairwise (· < ·) → b.Pairwise (· < ·) → (∀ x,x ∈ a ↔ x ∈ b) → a = b
 | [], [],_,_,_ => rfl
 | [],y :: b,_,_,h => by have := (h y).2 List.mem_cons_self; cases this
 | x :: a, [],_,_,h => by have := (h x).1 List.mem_cons_self; cases this
 | x :: a,y :: b,ha,hb,h => by
  obtain ⟨a1,a2⟩ := List.pairwise_cons.1 ha
  obtain ⟨b1,b2⟩ := List.pairwise_cons.1 hb
  have e : x = y := by
   rcases List.mem_cons.1 ((h x).1 List.mem_cons_self) with g | g
   ·exact g
   ·rcases List.mem_cons.1 ((h y).2 List.mem_cons_self) with g2 | g2
    ·exact g2.symm
    ·have := a1 y g2; have := b1 x g; omega
  subst e
  rw [lt_ext a2 b2 (fun z => ⟨fun hz => ?_,fun hz => ?_⟩)]
  ·rcases List.mem_cons.1 ((h z).1 (List.mem_cons_of_mem _ hz)) with g | g
   ·have := a1 z hz; omega
   ·exact g
  ·rcases List.mem_cons.1 ((h z).2 (List.mem_cons_of_mem _ hz)) with g | g
   ·have := b1 z hz; omega
   ·exact g
theorem IsIds.is {r : Box} {tb : List (Int × Box)} {ids : List Int} (h : IsIds r tb ids) (hu : Ups tb) : ids = winL r tb := by
 refine lt_ext h.2 ?_ (fun x => ?_)
 ·exact List.Pairwise.map _ (fun a b hab => hab) (hu.filter _)
 ·rw [h.1]
  unfold winL
  rw [List.mem_map]
  constructor
  ·rintro ⟨v,h1,h2⟩; exact ⟨(x,v),List.mem_filter.2 ⟨h1,decide_eq_true h2⟩,rfl⟩
  ·rintro ⟨⟨y,v⟩,h1,rfl⟩
   obtain ⟨h2,h3⟩ := List.mem_filter.1 h1
   exact ⟨v,h2,of_decide_eq_true h3⟩
end
section
theorem nodup_len {α : Type} : ∀ {l l' : List α},l.Nodup → (∀ x ∈ l,x ∈ l') → l.length ≤ l'.length
 | [],_,_,_ => Nat.zero_le _
 | x :: l,l',hn,h => by
  obtain ⟨h1,h2⟩ := List.nodup_cons.1 hn
  obtain ⟨a,b,rfl⟩ := List.append_of_mem (h x List.mem_cons_self)
  have := nodup_len (l' := a ++ b) h2 (fun y hy => by
   have hm := h y (List.mem_cons_of_mem _ hy)
   rw [List.mem_append,List.mem_cons] at hm
   rw [List.mem_append]
   rcases hm with g | g | g
   ·exact .inl g
   ·subst g; exact absurd hy h1
   ·exact .inr g)
  simp at *
  omega
theorem Rising.nodup {V : Type} {es : List (Key × V)} (h : Rising es) : es.Nodup := h.imp fun hab e => by subst e; unfold klt at hab; omega
theorem Idx.len {V : Type} {pl : V → List Nat} {tb : List (Int × V)} {es : List (Key × V)} (h : Idx pl tb es) : es.length ≤ 5 * tb.length := by
 have h1 : es.length ≤ (tb.flatMap fun t => ents pl t.1 t.2).length := nodup_len h.ris.nodup (fun x hx => List.mem_flatMap.2 ((h.mem x).1 hx))
 have h2 : ∀ l : List (Int × V),(∀ t ∈ l,PlOk pl t.2) → (l.flatMap fun t => ents pl t.1 t.2).length ≤ 5 * l.length := by
  intro l
  induction l with
  | nil => intro _; simp
  | cons t l ih =>
   intro hl
   have := ih (fun t ht => hl t (List.mem_cons_of_mem _ ht))
   have hf := (hl t List.mem_cons_self).few
   rw [List.flatMap_cons,List.length_append,List.length_cons]
   unfold ents at *
   simp at *
   omega
 have := h2 tb h.pl
 omega
theorem Gd.room {s : PS} {fr : List Nat} {root : Nat} {es : List (Key × Box)} {us : List Nat} {tb : List (Int × Box)} (h : Gd s fr root es us tb) (hn : 256 ≤ s.n) (hl : tb.length ≤ (s.n - 200) / 4) : 140 ≤ fr.length := by
 have h1 := h.idx.len
 have h2 := h.tr.wt.secs
 have h3 := h.frs.length h.tr.ins h.tr.nd (by omega)
 omega
theorem room2 {n : Nat} {tb : List (Int × Box)} {es : List (Key × Box)} (h : Idx plc tb es) (hn : 256 ≤ n) (hl : tb.length ≤ (n - 200) / 4) : ¬ (es.length + 4 > 4 * (n - 1 - 50) ∨ n - 1 < 50) ∧ ¬ (es.length + 4 > 4 * (n - 1 - 0) ∨ n - 1 < 0) := by
 have h1 := h.len
 omega
end
section
theorem kids_one {V : Type} {M : Nat → Option (Node V)} {h h' : Nat} (ih : ∀ n es us es' us',Tre M h n es us → Tre M h' n es' us' → es = es' ∧ us = us') :
  ∀ (ks ks' : List (Kid V)),(∀ c ∈ ks,KidOk M h c) → (∀ c ∈ ks',KidOk M h' c) → ks.map Kid.pr = ks'.map Kid.pr → ks.flatMap Kid.es = ks'.flatMap Kid.es ∧ ks.flatMap Kid.all = ks'.flatMap Kid.all
 | [], [],_,_,_ => ⟨rfl,rfl⟩
 | [],_ :: _,_,_,e => by simp at e
 | _ :: _, [],_,_,e => by simp at e
 | c :: ks,c' :: ks',h1,h2,e => by
  simp only [List.map_cons,List.cons.injEq,Prod.mk.injEq] at e
  obtain ⟨⟨_,es⟩,er⟩ := e
  obtain ⟨r1,r2⟩ := kids_one ih ks ks' (fun c hc => h1 c (List.mem_cons_of_mem _ hc)) (fun c hc => h2 c (List.mem_cons_of_mem _ hc)) er
  have k1 := h1 c List.mem_cons_self
  have k2 := h2 c' List.mem_cons_self
  have a1 := k1.at_
  rw [es,k2.at_] at a1
  have t1 := k1.tre
  rw [← Option.some.inj a1] at t1
  obtain ⟨q1,q2⟩ := ih _ _ _ _ _ t1 k2.tre
  exact ⟨by rw [List.flatMap_cons,List.flatMap_cons,q1,r1],by rw [List.flatMap_cons,List.flatMap_cons,r2]; show c.sec :: c.us ++ _ = c'.sec :: c'.us ++ _; rw [es,q2]⟩
theorem tre_one {V : Type} {M : Nat → Option (Node V)} : ∀ (h h' : Nat) (n : Node V) (es : List (Key × V)) (us : List Nat) (es' : List (Key × V)) (us' : List Nat),Tre M h n es us → Tre M h' n es' us' → es = es' ∧ us = us'
 | 0, 0,n,es,us,es',us',h1,h2 => by
  obtain ⟨rfl,rfl⟩ := h1
  obtain ⟨e,rfl⟩ := h2
  exact ⟨by simpa using e,rfl⟩
 | 0,h' + 1,n,es,us,es',us',h1,h2 => by
  obtain ⟨rfl,rfl⟩ := h1
  obtain ⟨ks,e,_⟩ := tre_succ.1 h2
  cases e
 | h + 1, 0,n,es,us,es',us',h1,h2 => by
  obtain ⟨rfl,rfl⟩ := h2
  obtain ⟨ks,e,_⟩ := tre_succ.1 h1
  cases e
 | h + 1,h' + 1,n,es,us,es',us',h1,h2 => by
  obtain ⟨ks,rfl,k1,rfl,rfl⟩ := tre_succ.1 h1
  obtain ⟨ks',e,k2,rfl,rfl⟩ := tre_succ.1 h2
  exact kids_one (fun n es us es' us' a b => tre_one h h' n es us es' us' a b) ks ks' k1 k2 (by simpa using e)
theorem Tr.one {s : PS} {root root' : Nat} {es es' : List (Key × Box)} {us us' : List Nat} (h : Tr s root es us) (h' : Tr s root' es' us') : root = root' ∧ es = es' ∧ us = us' := by
 have e : root = root' := Option.some.inj (h.head.symm.trans h'.head)
 subst e
 refine ⟨rfl, ?_⟩
 rcases h.wt with ⟨h0,rfl,rfl⟩ | ⟨h0,k,nd,u,a1,a2,rfl,_⟩
 ·rcases h'.wt with ⟨_,rfl,rfl⟩ | ⟨h1,_⟩
  ·exact ⟨rfl,rfl⟩
  ·exact absurd h0 h1
 ·rcases h'.wt with ⟨h1,_⟩ | ⟨_,k',nd',u',b1,b2,rfl,_⟩
  ·exact absurd h1 h0
  ·rw [a1] at b1
   rw [← Option.some.inj b1] at b2
   obtain ⟨e1,e2⟩ := tre_one _ _ _ _ _ _ _ a2 b2
   exact ⟨e1,by rw [e2]⟩
theorem Idx.one {V : Type} {pl : V → List Nat} {tb tb' : List (Int × V)} {es : List (Key × V)} (h : Idx pl tb es) (h' : Idx pl tb' es) : tb = tb' := by
 have e := h.count.symm.trans h'.count
 have e2 := congrArg (List.map fun x : Key × V => (x.1.2,x.2)) e
 unfold nums at e2
 rw [List.map_map,List.map_map] at e2
 have h1 : ((fun x : Key × V => (x.1.2,x.2)) ∘ fun t : Int × V => ((NUM,t.1),t.2)) = _root_.id := rfl
 rw [h1,List.map_id,List.map_id] at e2
 exact e2
end
end Go.Proofs.YtdgbgmffpcooeaaGreat
namespace Go.Proofs.YtdgbgmffpcooeaaGreat
open Go.RowKit Go.Lib
section
def own5 (t : Nat) : Prop := t = 109 ∨ t = 133 ∨ t = 135 ∨ t = 169 ∨ t = 124
structure CalmW (N : Nat → Prop) (w w' : World) : Prop where
 os : w'.os = w.os
 tape : w'.tape = w.tape
 output : w'.output = w.output
 size : w.heap.size ≤ w'.heap.size
 block : ∀ (k : Nat) (cs : Array Value) (t : TypeId) (fr : Nat × Nat),w.heap[k]? = some (.cells cs t fr) → ¬ own5 t → w'.heap[k]? = some (.cells cs t fr)
 low : ∀ k,N k → k < w.heap.size → w'.heap[k]? = w.heap[k]?
theorem CalmW.refl (d : Nat → Prop) (w : World) : CalmW d w w := ⟨rfl,rfl,rfl,Nat.le_refl _,fun _ _ _ _ h _ => h,fun _ _ _ => rfl⟩
theorem CalmW.trans {d : Nat → Prop} {a b c : World} (h : CalmW d a b) (g : CalmW d b c) : CalmW d a c := ⟨g.os.trans h.os,g.tape.trans h.tape,g.output.trans h.output,Nat.le_trans h.size g.size,fun k cs t fr e n => g.block k cs t fr (h.block k cs t fr e n) n,fun k h1 h2 => (g.low k h1 (Nat.lt_of_lt_of_le h2 h.size)).trans (h.low k h1 h2)⟩
theorem CalmW.below {d : Nat → Prop} {w w' : World} (h : Below w.heap.size w w') : CalmW d w w' := ⟨h.os,h.tape,h.output,h.size,fun k _ _ _ e _ => (h.block k (Array.getElem?_eq_some_iff.1 e).1).trans e,fun k _ h2 => h.block k h2⟩
theorem CalmW.off {d : Nat → Prop} {w w' : World} {F : Nat → Prop} (h : Off F w w') (hF : ∀ k cs t fr,F k → w.heap[k]? = some (.cells cs t fr) → own5 t) (hd : ∀ k,F k → ¬ d k) : CalmW d w w' := ⟨h.os,h.tape,h.output,h.size,fun k cs t fr e n => (h.block k (Array.getElem?_eq_some_iff.1 e).1 (fun hf => n (hF k cs t fr hf e))).trans e,fun k h1 h2 => h.block k h2 (fun hf => hd k hf h1)⟩
theorem CalmW.blk {d : Nat → Prop} {w w' : World} (h : CalmW d w w') {k t : Nat} {vs : Array Value} (hb : Blk w k t vs) (ht : ¬ own5 t) : Blk w' k t vs := h.block k vs t (0, 0) hb ht
theorem CalmW.row {d : Nat → Prop} {w w' : World} (h : CalmW d w w') {base : Nat} {e : TypeId} {size : Nat} {v : Value} {n : Nat} {xs : List Value} (hr : w.ownsRow base e size v n xs) (he : ¬ own5 e) : w'.ownsRow base e size v n xs := by
 obtain ⟨h0,h1 | ⟨g,cap,cur,e1,e2,e3,e4⟩⟩ := hr
 ·exact ⟨h0, .inl h1⟩
 ·exact ⟨h0, .inr ⟨g,cap,cur,e1,e2,h.block g _ _ _ e3 he,e4⟩⟩
structure Keep (N : Nat → Prop) (w w' : World) : Prop where
 os : w'.os = w.os
 tape : w'.tape = w.tape
 output : w'.output = w.output
 size : w.heap.size ≤ w'.heap.size
 block : ∀ k,N k → k < w.heap.size → w'.heap[k]? = w.heap[k]?
theorem Keep.trans {N : Nat → Prop} {a b c : World} (h : Keep N a b) (g : Keep N b c) : Keep N a c := ⟨g.os.trans h.os,g.tape.trans h.tape,g.output.trans h.output,Nat.le_trans h.size g.size,fun k h1 h2 => (g.block k h1 (Nat.lt_of_lt_of_le h2 h.size)).trans (h.block k h1 h2)⟩
theorem Keep.below {N : Nat → Prop} {w w' : World} (h : Below w.heap.size w w') : Keep N w w' := ⟨h.os,h.tape,h.output,h.size,fun k _ h2 => h.block k h2⟩
theorem Keep.off {N F : Nat → Prop} {w w' : World} (h : Off F w w') (hd : ∀ k,F k → ¬ N k) : Keep N w w' := ⟨h.os,h.tape,h.output,h.size,fun k h1 h2 => h.block k h2 (fun hf => hd k hf h1)⟩
theorem CalmW.keep {N : Nat → Prop} {w w' : World} (h : CalmW N w w') : Keep N w w' := ⟨h.os,h.tape,h.output,h.size,h.low⟩
theorem PD.tags {W : World} {base : Nat} {A : PA} {s : PS} (h : PD W base A s) : ∀ k cs t fr,A.F k → W.heap[k]? = some (.cells cs t fr) → own5 t := fun k cs t fr hf e => by
 obtain ⟨_,_,⟨es,cc,m1,_⟩,_⟩ := h.map
 obtain ⟨cur,b1,_⟩ := h.sec.blk
 have p1 : W.heap[A.p]? = _ := h.blkP
 have q1 : W.heap[A.q]? = _ := h.blkQ
 rcases hf with rfl | rfl | rfl | rfl
 ·rw [p1] at e; simp at e; exact .inl e.2.1.symm
 ·rw [q1] at e; simp at e; exact .inr (.inl e.2.1.symm)
 ·rw [b1] at e; simp at e; exact .inr (.inr (.inl e.2.1.symm))
 ·rw [m1] at e; simp at e
theorem IxS.tags {W : World} {base : Nat} {A : PA} {s : PS} {x t : Nat} {dead : Bool} {f : Value} {fr : List Nat} (h : IxS W base A s x t dead f fr) : ∀ k cs ty g,(A.F k ∨ k = t ∨ k = x) → W.heap[k]? = some (.cells cs ty g) → own5 ty := fun k cs ty g hf e => by
 rcases hf with hf | rfl | rfl
 ·exact h.pd.tags k cs ty g hf e
 ·have p1 : W.heap[k]? = _ := h.tr
  rw [p1] at e; simp at e; exact .inr (.inr (.inr (.inl e.2.1.symm)))
 ·have p1 : W.heap[k]? = _ := h.ix
  rw [p1] at e; simp at e; exact .inr (.inr (.inr (.inr e.2.1.symm)))
def LiveX (W : World) (N : Nat → Prop) (p X n : Nat) (σ : PS) (tb : List (Int × Box)) : Prop :=
 ∃ (A : PA) (x t : Nat) (f : Value) (fr : List Nat) (root : Nat) (es : List (Key × Box)) (us : List Nat),A.p = p ∧ σ.n = n ∧ Blk W X 91 #[.pointer (some ⟨x, 0,none⟩)] ∧ IxS W 0 A σ x t false f fr ∧ Gd σ fr root es us tb ∧ Free σ ∧ (∀ k,A.F k → ¬ N k) ∧ ¬ N t ∧ ¬ N x ∧ ∀ k,N k → k < W.heap.size
theorem IxS.below {w W : World} {base : Nat} {A : PA} {s : PS} {x t : Nat} {dead : Bool} {f : Value} {fr : List Nat} (h : IxS w base A s x t dead f fr) (hb : Below w.heap.size w W) : IxS W base A s x t dead f fr :=
 ⟨h.pd.below hb,(hb.block t h.tr.lt).trans h.tr,own_below h.row hb,(hb.block x h.ix.lt).trans h.ix⟩
theorem Gd.at_ {s : PS} {fr : List Nat} {root : Nat} {es : List (Key × Box)} {us : List Nat} {tb : List (Int × Box)} (h : Gd s fr root es us tb) (r : Nat) : Gd (s.at_ r) fr root es us tb := ⟨h.tr.congr rfl rfl (fun _ _ => rfl),h.frs,h.idx,h.old,h.left⟩
theorem LiveX.below {w W : World} {N : Nat → Prop} {p X n : Nat} {σ : PS} {tb : List (Int × Box)} (h : LiveX w N p X n σ tb) (hb : Below w.heap.size w W) : LiveX W N p X n σ tb := by
 obtain ⟨A,x,t,f,fr,root,es,us,h1,h2,h3,h4,h5,h6⟩ := h
 exact ⟨A,x,t,f,fr,root,es,us,h1,h2,(hb.block X h3.lt).trans h3,h4.below hb,h5,h6.1,h6.2.1,h6.2.2.1,h6.2.2.2.1,fun k hk => Nat.lt_of_lt_of_le (h6.2.2.2.2 k hk) hb.size⟩
theorem LiveX.off {w W : World} {N : Nat → Prop} {p X n : Nat} {σ : PS} {tb : List (Int × Box)} (h : LiveX w N p X n σ tb) {B T : Nat} {vs : Array Value} (hB : Blk w B T vs) (hT : ¬ own5 T) (hT2 : T ≠ 91) (hT3 : T ≠ 3) (ho : Off (fun k => k = B) w W) : LiveX W N p X n σ tb := by
 obtain ⟨A,x,t,f,fr,root,es,us,h1,h2,h3,h4,h5,h6⟩ := h
 have nB : ∀ k cs ty g,w.heap[k]? = some (.cells cs ty g) → own5 ty → k ≠ B := fun k cs ty g e h e' => by
  subst e'
  have hb' : w.heap[k]? = _ := hB
  rw [hb'] at e; simp at e
  exact hT (e.2.1 ▸ h)
 obtain ⟨_,_,⟨es',cc,m1,_⟩,_⟩ := h4.pd.map
 have nF : ∀ k,A.F k → k ≠ B := fun k hk e' => by
  subst e'
  exact hT (h4.pd.tags _ _ _ _ hk hB)
 refine ⟨A,x,t,f,fr,root,es,us,h1,h2,h3.off ho (fun e => blk_ne h3 hB (Ne.symm hT2) e),⟨h4.pd.off ho (fun k hk e => nF k hk e),h4.tr.off ho (nB t _ _ _ h4.tr (.inr (.inr (.inr (.inl rfl))))),own_offv h4.row ho (fun g hg e => own_ne h4.row hB hT3 g hg e),h4.ix.off ho (nB x _ _ _ h4.ix (.inr (.inr (.inr (.inr rfl)))))⟩,h5,h6.1,h6.2.1,h6.2.2.1,h6.2.2.2.1,fun k hk => Nat.lt_of_lt_of_le (h6.2.2.2.2 k hk) ho.size⟩
section
variable {w : World} {N : Nat → Prop} {p X n : Nat} {σ : PS} {tb : List (Int × Box)}
theorem LiveX.up (h : LiveX w N p X n σ tb) : Ups tb ∧ 256 ≤ n ∧ n ≤ 4096 ∧ tb.length ≤ 1000000 ∧ ∀ t ∈ tb,t.2.ok ∧ 0 ≤ t.1 ∧ t.1 ≤ 4611686018427387904 := by
 obtain ⟨A,x,t,f,fr,root,es,us,h1,rfl,h3,h4,h5,h6⟩ := h
 refine ⟨h5.idx.up,h4.pd.n1,h4.pd.n2, ?_,fun t ht => ⟨Classical.byContradiction fun hv => ?_,h5.idx.id t ht⟩⟩
 ·have h7 := h5.tr.few h4.pd.n2
  have h8 : tb.length ≤ es.length := by
   have := h5.idx.count
   have h9 := congrArg List.length this
   unfold nums at h9
   rw [List.length_map] at h9
   have h10 := frm_len (NUM, 0) es
   omega
  omega
 ·have := (h5.idx.pl t ht).one
  unfold plc covL at this
  rw [dif_neg hv] at this
  simp at this
end
end
end Go.Proofs.YtdgbgmffpcooeaaGreat
