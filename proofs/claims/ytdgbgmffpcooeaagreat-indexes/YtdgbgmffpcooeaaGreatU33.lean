/- Pt3 Pt4 Pt5 Ix4 -/
import Derived.Test.YtdgbgmffpcooeaaGreatU32
namespace Go.Proofs.YtdgbgmffpcooeaaGreat
open Go.RowKit Go.Lib
section
structure IxS (W : World) (base : Nat) (A : PA) (s : PS) (x t : Nat) (dead : Bool) (f : Value) (fr : List Nat) : Prop where
 pd : PD W base A s
 tr : TreeB W t A f
 row : W.ownsRow 0 3 1 f fr.length (secsV fr)
 ix : IdxB W x t dead
structure Gd (s : PS) (fr : List Nat) (root : Nat) (es : List (Key × Box)) (us : List Nat) (tb : List (Int × Box)) : Prop where
 tr : Tr s root es us
 frs : Frees s.n us fr
 idx : Idx plc tb es
 old : ∀ t,s.old t = none
 left : -1 ≤ s.left ∧ s.left ≤ 9223372036854775807
def Torn2 (s : PS) (tb tb' : List (Int × Box)) : Prop := ∀ c,Falls s c → ∃ root es us,Tr c root es us ∧ (Idx plc tb es ∨ Idx plc tb' es)
def Free (s : PS) : Prop := s.left = -1 ∧ s.broken = false
theorem Free.brk {s : PS} (h : Free s) : s.brk = false := by unfold PS.brk; rw [h.2,h.1]; rfl
theorem Free.write {s : PS} {i : Int} {b : ByteArray} (h : Free s) : Free (s.write i b).2 ∧ (s.write i b).1 ≠ 4 := by
 unfold PS.write
 split
 ·exact ⟨h,by simp⟩
 ·split
  ·exact ⟨h,by simp⟩
  ·rw [h.brk]
   refine ⟨⟨?_,h.brk⟩,by simp⟩
   show (if 0 < s.left then s.left - 1 else s.left) = -1
   rw [h.1]; rfl
theorem Free.flush {s : PS} (h : Free s) : Free s.flush.2 ∧ s.flush.1 ≠ 4 := by
 unfold PS.flush
 rw [h.brk]
 refine ⟨⟨?_,h.brk⟩,by simp⟩
 show (if 0 < s.left then s.left - 1 else s.left) = -1
 rw [h.1]; rfl
theorem Free.wrAll : ∀ (l : List (Nat × Node Box)) {s : PS},Free s → Free (wrAll l s).2 ∧ (wrAll l s).1 ≠ 4
 | [],s,h => ⟨h,by simp [Go.Proofs.YtdgbgmffpcooeaaGreat.wrAll]⟩
 | x :: l,s,h => by
  unfold Go.Proofs.YtdgbgmffpcooeaaGreat.wrAll
  split
  ·exact Free.wrAll l h.write.1
  ·exact h.write
theorem Free.commit {s : PS} {made : Nat → Option (Node Box)} {root : Nat} (h : Free s) : Free (s.commit made root).2 ∧ (s.commit made root).1 ≠ 4 := by
 have hn : Free (s.nodes made).2 ∧ (s.nodes made).1 ≠ 4 := by
  unfold PS.nodes
  split
  ·exact (Free.wrAll _ h).1.flush
  ·exact Free.wrAll _ h
 unfold PS.commit
 split
 ·unfold PS.headW
  split
  ·exact hn.1.write.1.flush
  ·exact hn.1.write
 ·exact hn
theorem commit_whole {s : PS} {made : Nat → Option (Node Box)} {root : Nat} (h : (s.commit made root).1 = 0) : (s.commit made root).2.broken = false := by
 have hf : ∀ c : PS,c.flush.1 = 0 → c.flush.2.broken = false := fun c => by
  unfold PS.flush
  split
  ·intro e; cases e
  ·rename_i hb; intro _; exact (by simpa using hb : c.brk = false)
 unfold PS.commit at h ⊢
 split at h
 ·rename_i h1
  rw [if_pos h1]
  unfold PS.headW at h ⊢
  split at h
  ·rename_i h2; rw [if_pos h2]; exact hf _ h
  ·rename_i h2; exact absurd h h2
 ·rename_i h1; exact absurd h h1
def FreshV (w : World) (f : Value) : Prop := ∀ g,f.ownBlock = some g → w.heap.size ≤ g
def DoneP (w : World) (base : Nat) (A : PA) (s : PS) (x t : Nat) (dead : Bool) (f : Value) (fr : List Nat) (tb tb' : List (Int × Box)) (full : Prop) (e : Ending) (w' : World) : Prop :=
 Off (fun k => A.F k ∨ k = t) w w' ∧ (
 (e = .returned (.int .i64 10) ∧ full ∧ ∃ r,r ≤ 400 ∧ IxS w' base A (s.at_ r) x t dead f fr) ∨
 (e = .returned (.int .i64 0) ∧ ∃ m' s' f' fr' root' es' us',(m' = A.m ∨ w.heap.size ≤ m') ∧ IxS w' base { A with m := m' } s' x t dead f' fr' ∧ Gd s' fr' root' es' us' tb' ∧ s'.n = s.n ∧ Adds s s' 400 ∧ s'.broken = false ∧ (Free s → Free s') ∧ FreshV w f') ∨
 (e = .returned (.int .i64 4) ∧ ∃ m' s',(m' = A.m ∨ w.heap.size ≤ m') ∧ IxS w' base { A with m := m' } s' x t dead f fr ∧ s'.broken = true ∧ Torn2 s' tb tb' ∧ s'.n = s.n ∧ Adds s s' 400 ∧ ¬ Free s))
theorem pok_ents {id : Int} {v : Box} (hv : v.ok) (hid : 0 ≤ id ∧ id ≤ 4611686018427387904) : ∀ p ∈ ents plc id v,PairOk rectC p := fun p hp => by
 have hb : RectOk v := ⟨by have := hv.1; have := hv.2.1; omega,by have := hv.2.2.1; have := hv.2.2.2; omega,hv.2.1,hv.2.2.2⟩
 rcases mem_ents.1 hp with rfl | ⟨q,hq,rfl⟩
 ·exact ⟨⟨by show I64 73014444032; unfold I64; decide,by unfold I64; simp only; omega⟩,hb⟩
 ·have := (plc_ok hv).lt q hq
  exact ⟨⟨by unfold I64; simp only; omega,by unfold I64; simp only; omega⟩,hb⟩
theorem PS.at_at (s : PS) (a b : Nat) : (s.at_ a).at_ b = s.at_ (a + b) := by
 unfold PS.at_ wrap64
 simp only [PS.mk.injEq,true_and]
 omega
theorem headW_left {s : PS} {root : Nat} (h : -1 ≤ s.left ∧ s.left ≤ 9223372036854775807) : -1 ≤ (s.headW root).2.left ∧ (s.headW root).2.left ≤ 9223372036854775807 := by
 unfold PS.headW
 split
 ·exact flush_left (write_left h)
 ·exact write_left h
theorem commit_left {s : PS} {made : Nat → Option (Node Box)} {root : Nat} (h : -1 ≤ s.left ∧ s.left ≤ 9223372036854775807) : -1 ≤ (s.commit made root).2.left ∧ (s.commit made root).2.left ≤ 9223372036854775807 := by
 unfold PS.commit
 split
 ·exact headW_left (nodes_left h)
 ·exact nodes_left h
section
variable {w w2 W W' : World} {base : Nat} {A : PA} {s : PS} {x t : Nat} {dead : Bool} {f : Value} {fr : List Nat}
theorem IxS.nx (h : IxS w base A s x t dead f fr) : ¬ A.F x ∧ x ≠ t := by
 refine ⟨fun hf => h.pd.notTag hf h.ix (by decide) (by decide) (by decide),fun e => ?_⟩
 have h1 : w.heap[x]? = _ := h.ix
 have h2 : w.heap[t]? = _ := h.tr
 rw [e,h2] at h1; simp at h1
theorem IxS.off (h : IxS w base A s x t dead f fr) {A' : PA} {s' : PS} (ho : Off (fun k => A.F k ∨ k = t) w W) (hp : PD W base A' s') (ht : TreeB W t A' f) : IxS W base A' s' x t dead f fr := by
 obtain ⟨n1,n2⟩ := h.nx
 refine ⟨hp,ht,own_offv h.row ho (fun g hg hf => ?_),(ho.block x h.ix.lt (fun hf => hf.elim n1 n2)).trans h.ix⟩
 obtain ⟨cs,hc⟩ := (own_tagged h.row hg).2
 rcases hf with hf | rfl
 ·exact h.pd.notInt hf ⟨cs,hc⟩
 ·have h2 : w.heap[g]? = _ := h.tr
  rw [h2] at hc; simp at hc
theorem IxS.off' (h : IxS w base A s x t dead f fr) {A' : PA} {s' : PS} {f' : Value} {fr' : List Nat} (ho : Off (fun k => A.F k ∨ k = t) w W) (hp : PD W base A' s') (ht : TreeB W t A' f') (hr : W.ownsRow 0 3 1 f' fr'.length (secsV fr')) : IxS W base A' s' x t dead f' fr' := by
 obtain ⟨n1,n2⟩ := h.nx
 exact ⟨hp,ht,hr,(ho.block x h.ix.lt (fun hf => hf.elim n1 n2)).trans h.ix⟩
theorem Some_.offA {s0 : PS} {cb c mb : Nat} {us : List Nat} {cs0 : CS Box} {g i : Nat} {es : List (Key × Box)} (h : Some_ w2 base A s0 t f cb c mb us cs0 g i es W) (ho : Off A.F w w2) (hcb : w.heap.size ≤ cb) : Off A.F w W := by
 obtain ⟨root,cs,fv,lv,us2,hC,hW⟩ := h.ex
 have hle := hC.ch.le
 refine ho.step h.off (fun k hk hf => ?_)
 rcases hf with hf | hf | hf | hf
 ·exact hf
 ·omega
 ·omega
 ·omega
theorem Full_.offA {s0 : PS} {cb c mb : Nat} {cs0 : CS Box} {g i : Nat} (h : Full_ w2 base A s0 t f cb c mb cs0 g i W) (ho : Off A.F w w2) (hcb : w.heap.size ≤ cb) : Off A.F w W := by
 obtain ⟨root,cs,fv,lv,hC,hr⟩ := h.ex
 have hle := hC.ch.le
 refine ho.step h.off (fun k hk hf => ?_)
 rcases hf with hf | hf | hf | hf
 ·exact hf
 ·omega
 ·omega
 ·omega
end
theorem full_fin {w w2 W : World} {base : Nat} {A : PA} {s : PS} {x t : Nat} {dead : Bool} {f : Value} {fr : List Nat} {r cb c mb i : Nat} (h : IxS w base A s x t dead f fr) (hr : r ≤ 12) (hF : Full_ w2 base A (s.at_ r).adv t f cb c mb ⟨fr, [],fun _ => none, 0, 0⟩ 4 i W) (hi : i ≤ 10) (ho : Off A.F w w2) (hcb : w.heap.size ≤ cb) (tb tb' : List (Int × Box)) (full : Prop) (hfull : fr.length < 140 → full) :
  DoneP w base A s x t dead f fr tb tb' full (.returned (.int .i64 10)) W := by
 have ho2 := hF.offA ho hcb
 obtain ⟨root,cs,fv,lv,hC,hrd⟩ := hF.ex
 have hpd := hC.pd
 rw [PS.at_adv,PS.at_at] at hpd
 have hi2 := Nat.mul_le_mul_right (2 * (4 + 2)) hi
 have hi3 := Nat.mul_le_mul_right (2 * (4 + 1) + 4) hi
 have hfl := hF.full
 simp only at hrd hfl
 refine ⟨ho2.mono (fun k _ h => .inl h), .inl ⟨rfl,hfull (by omega),r + 1 + cs.reads,by omega,h.off (ho2.mono (fun k _ h => .inl h)) hpd hC.tr⟩⟩
theorem commit_fin {w w2 W : World} {base : Nat} {A : PA} {s : PS} {x t : Nat} {dead : Bool} {f : Value} {fr : List Nat} {r cb c mb i root : Nat} {es es' : List (Key × Box)} {us : List Nat} {tb tb' : List (Int × Box)} (h : IxS w base A s x t dead f fr) (hG : Gd s fr root es us tb) (hr : r ≤ 12) (hS : Some_ w2 base A (s.at_ r).adv t f cb c mb us ⟨fr, [],fun _ => none, 0, 0⟩ 4 i es' W) (hi : i ≤ 10) (ho : Off A.F w w2) (hcb : w.heap.size ≤ cb) (hI : Idx plc tb' es') (spare : Nat) (full : Prop) (hfull : es'.length + 4 > 4 * (s.n - 1 - spare) ∨ s.n - 1 < spare → full) :
  Calls Tryz.prog 85 #[.pointer (some ⟨c, 0,none⟩), .int .i64 (spare : Int)] W (DoneP w base A s x t dead f fr tb tb' full) := by
 have ho2 := hS.offA ho hcb
 obtain ⟨root',cs,fv,lv,us2,hC,hW,hrd,hfl⟩ := hS.ex
 have hn2 := h.pd.n2
 have hn1 := h.pd.n1
 have hi2 := Nat.mul_le_mul_right (2 * (4 + 2)) hi
 have hi3 := Nat.mul_le_mul_right (2 * (4 + 1) + 4) hi
 simp only at hrd hfl
 have hst := fun j nd hj => (hW.ok.stands hW.wt hW.up hW.pok hn2 j nd hj).2.2
 refine (commit_any W base A (s.at_ r).adv t f cb c mb root' cs fv lv hC hG.left hst spare).mono ?_
 have es1 : (s.at_ r).adv.at_ cs.reads = s.at_ (r + 1 + cs.reads) := by rw [PS.at_adv,PS.at_at]
 have hsz2 := ho2.size
 rintro e w' (⟨hsp,rfl,hp',ht',ho3⟩ | ⟨hsp,rfl,m',hp',hm',ho3,hcase⟩)
 ·rw [es1] at hp'
  have ho4 := ho2.trans ho3
  refine ⟨ho4.mono (fun k _ h => .inl h), .inl ⟨rfl,hfull ?_,_,by omega,h.off (ho4.mono (fun k _ h => .inl h)) hp' ht'⟩⟩
  have hcnt := hW.count (by show 1 ≤ s.n; omega)
  have hsec := hW.wt.secs
  have hnn : (s.at_ r).adv.n = s.n := rfl
  rw [hnn] at hcnt
  omega
 ·have hT1 : Tr ((s.at_ r).adv.at_ cs.reads) root es us := hG.tr.congr rfl rfl (fun _ _ => rfl)
  have hck := commit_ok (s := (s.at_ r).adv.at_ cs.reads) hT1 hW.ok hW.wt hW.nd hW.up hW.pok hn2 (by show 1 ≤ s.n; omega) hG.old
  have hmade := hW.made hG.frs hn2
  have hcl := commit_left (s := (s.at_ r).adv.at_ cs.reads) (made := cs.made) (root := root') hG.left
  have hfrees := hW.ends
  have hfree : Free s → Free (((s.at_ r).adv.at_ cs.reads).commit cs.made root').2 ∧ (((s.at_ r).adv.at_ cs.reads).commit cs.made root').1 ≠ 4 := fun hf => Free.commit (s := (s.at_ r).adv.at_ cs.reads) hf
  have hwhole := commit_whole (s := (s.at_ r).adv.at_ cs.reads) (made := cs.made) (root := root')
  obtain ⟨hck,hcn,hca⟩ := hck
  generalize ((s.at_ r).adv.at_ cs.reads).commit cs.made root' = R at hck hcn hca hp' hcase hcl hfree hwhole ⊢
  have ho4 : Off (fun k => A.F k ∨ k = t) w w' := (ho2.mono (fun k _ h => .inl h)).trans ho3
  have hadd : Adds s R.2 400 := by
   have h1 := Adds.at_ s (r + 1 + cs.reads)
   rw [← es1] at h1
   exact (h1.trans hca).mono (by omega)
  have hm2 : m' = A.m ∨ w.heap.size ≤ m' := hm'.imp (fun h => h) (fun h => by omega)
  refine ⟨ho4, ?_⟩
  rcases hck with ⟨e0,hT',hold'⟩ | ⟨e4,hbr,htorn⟩
  ·rw [e0] at hcase ⊢
   rcases hcase with ⟨_,f',ht',hrow'⟩ | ⟨hne,_⟩
   ·refine .inr (.inl ⟨rfl,m',R.2,f',cs.free ++ cs.left,root',es',us2,hm2,h.off' ho4 hp' ht' (own_mono hrow' (Nat.zero_le _)),⟨hT',by rw [hcn]; exact hfrees,hI,hold',hcl⟩,hcn,hadd,hwhole e0,fun hf => (hfree hf).1,fun g hg => Nat.le_trans hsz2 (own_tagged hrow' hg).1⟩)
   ·exact absurd rfl hne
  ·rw [e4] at hcase ⊢
   rcases hcase with ⟨h0,_⟩ | ⟨_,ht'⟩
   ·exact absurd h0 (by decide)
   ·refine .inr (.inr ⟨rfl,m',R.2,hm2,h.off ho4 hp' ht',hbr,fun c hc => ?_,hcn,hadd,fun hf => (hfree hf).2 e4⟩)
    rcases htorn c hc with h1 | h1
    ·exact ⟨root,es,us,h1, .inl hG.idx⟩
    ·exact ⟨root',es',us2,h1, .inr hI⟩
end
section
theorem Gd.frl {s : PS} {fr : List Nat} {root : Nat} {es : List (Key × Box)} {us : List Nat} {tb : List (Int × Box)} (h : Gd s fr root es us tb) (hn : s.n ≤ 4096) (h1 : 1 ≤ s.n) : fr.length ≤ 4096 := by
 have := h.frs.length h.tr.ins h.tr.nd h1
 omega
theorem plc_inv {v : Box} (h : PlOk plc v) : v.ok := Classical.byContradiction fun hn => by
 have := h.one
 unfold plc covL at this
 rw [dif_neg hn] at this
 simp at this
theorem begin_any (w W : World) (base : Nat) (A : PA) (s : PS) (x t : Nat) (dead : Bool) (f : Value) (fr : List Nat) (root : Nat) (es : List (Key × Box)) (us : List Nat) (tb : List (Int × Box)) (r : Nat) (h : IxS w base A s x t dead f fr) (hG : Gd s fr root es us tb) (hs : s.brk = false) (ho : Off A.F w W) (hp : PD W base A (s.at_ r)) (ht : TreeB W t A f) :
  Calls Tryz.prog 81 #[.pointer (some ⟨t, 0,none⟩)] W fun e w' => ∃ c mb,e = .returned (.tuple #[.pointer (some ⟨c, 0,none⟩), .int .i64 0]) ∧ Some_ w' base A (s.at_ r).adv t f W.heap.size c mb us ⟨fr, [],fun _ => none, 0, 0⟩ 4 0 es w' ∧ Off A.F W w' := by
 have hrow : W.ownsRow 0 3 1 f fr.length (secsV fr) := own_offv h.row ho (fun g hg hf => h.pd.notInt hf (own_tagged h.row hg).2)
 refine (change_live W base A (s.at_ r) t 0 f fr root hp ht hrow (hG.frl h.pd.n2 (by have := h.pd.n1; omega)) hs hG.tr.head).mono ?_
 rintro e w' ⟨c,mb,fv,lv,rfl,hC,hO⟩
 have hT : Tr (s.at_ r).adv root es us := hG.tr.congr rfl rfl (fun _ _ => rfl)
 exact ⟨c,mb,rfl,⟨⟨root,_,fv,lv,us,hC,Way.begin hT hG.frs,by simp,by simp⟩,Off.refl _ _⟩,hO⟩
theorem Some_.len {w : World} {base : Nat} {A : PA} {s0 : PS} {t : Nat} {f : Value} {cb c mb : Nat} {us : List Nat} {cs0 : CS Box} {g i : Nat} {es : List (Key × Box)} {W : World} (h : Some_ w base A s0 t f cb c mb us cs0 g i es W) (h1 : 1 ≤ s0.n) (hn : s0.n ≤ 4096) : es.length < 10 * 7 ^ (4 + 1) ∧ Rising es := by
 obtain ⟨root,cs,fv,lv,us2,hC,hW,_⟩ := h.ex
 exact ⟨hW.few h1 hn,hW.up⟩
set_option maxRecDepth 100000 in
set_option maxHeartbeats 4000000 in
theorem put_new (w : World) (base : Nat) (A : PA) (s : PS) (x t : Nat) (dead : Bool) (f : Value) (fr : List Nat) (root : Nat) (es : List (Key × Box)) (us : List Nat) (tb : List (Int × Box)) (h : IxS w base A s x t dead f fr) (hG : Gd s fr root es us tb) (hs : s.brk = false) (id : Int) (hid : 0 ≤ id ∧ id ≤ 4611686018427387904) (v : Box) (hv : v.ok) (hnone : tget id tb = none) (full : Prop) (hf1 : fr.length < 140 → full) (hf2 : ∀ es',Idx plc (tput id v tb) es' → es'.length + 4 > 4 * (s.n - 1 - 50) ∨ s.n - 1 < 50 → full) :
  Calls Tryz.prog 61 #[.pointer (some ⟨x, 0,none⟩), .int .i64 id, .agg #[.int .i64 (v.a : Int), .int .i64 (v.b : Int), .int .i64 (v.c : Int), .int .i64 (v.d : Int)]] w (DoneP w base A s x t dead f fr tb (tput id v tb) full) := by
 have hn2 := h.pd.n2
 have hn1 : 1 ≤ s.n := by have := h.pd.n1; omega
 have hb0 : Below w.heap.size w (w.alloc (.cells #[.int .i64 (v.a : Int), .int .i64 (v.b : Int), .int .i64 (v.c : Int), .int .i64 (v.d : Int)] 34)) := (Below.refl _ w).alloc (Nat.le_refl _) _
 have B0 := Blk.new w 34 #[.int .i64 (v.a : Int), .int .i64 (v.b : Int), .int .i64 (v.c : Int), .int .i64 (v.d : Int)]
 obtain ⟨W0,hW0⟩ : ∃ W0,w.alloc (.cells #[.int .i64 (v.a : Int), .int .i64 (v.b : Int), .int .i64 (v.c : Int), .int .i64 (v.d : Int)] 34) = W0 := ⟨_,rfl⟩
 have HW0 : Hid (w.alloc (.cells #[.int .i64 (v.a : Int), .int .i64 (v.b : Int), .int .i64 (v.c : Int), .int .i64 (v.d : Int)] 34) = W0) := hW0
 rw [hW0] at hb0 B0
 have hs0 : W0.heap.size = w.heap.size + 1 := by rw [← hW0]; simp
 clear hW0
 have hxl := h.ix.lt
 obtain ⟨nx1,nx2⟩ := h.nx
 have hfind := find_live W0 base A s t x dead f root es us tb (h.pd.below hb0) ((hb0.block t h.tr.lt).trans h.tr) ((hb0.block x hxl).trans h.ix) hs hG.tr hG.idx id
 rw [hnone] at hfind
 simp only [foundR] at hfind
 have hlen : (ents plc id v).length ≤ 5 := by have := (plc_ok hv).few; unfold ents; simp; exact this
 have hFw : ∀ k,A.F k → k < w.heap.size := fun k hk => (h.pd.lt k hk).2
 have HX : Hid (∀ W,Off A.F W0 W → W.cell? ⟨x, 0,none⟩ = some (.pointer (some ⟨t, 0,none⟩))) := fun W ho => by
  have h1 : Blk W x 124 _ := (ho.block x (by omega) nx1).trans ((hb0.block x hxl).trans h.ix)
  exact h1.cell 0
 have HRB : Hid (∀ W,Off A.F W0 W → Blk W w.heap.size 34 #[.int .i64 (v.a : Int), .int .i64 (v.b : Int), .int .i64 (v.c : Int), .int .i64 (v.d : Int)]) := fun W ho => (ho.block _ (by omega) (fun hf => by have := hFw _ hf; omega)).trans B0
 have HPOK : Hid (∀ p ∈ ents plc id v,PairOk rectC p) := pok_ents hv hid
 have HEN : Hid (∀ W,Calls Tryz.prog 83 #[.int .i64 id, .agg #[.int .i64 (v.a : Int), .int .i64 (v.b : Int), .int .i64 (v.c : Int), .int .i64 (v.d : Int)]] W fun e w' => ∃ a c,e = .returned (.slice a (ents plc id v).length c) ∧ w'.ownsRow W.heap.size 156 6 (.slice a (ents plc id v).length c) (ents plc id v).length (flat pkR (ents plc id v)) ∧ Below W.heap.size W w') := fun W => entries_any W id v hv
 have HIDX : Hid (Idx plc (tput id v tb) (insAll (ents plc id v) es)) := by 
  have hnn : ∀ q ∈ tb,q.1 ≠ id := tget_none.1 hnone
  exact hG.idx.put hnn hid (plc_ok hv)
 have HFIN : Hid (∀ r w2 W cb c mb,r ≤ 12 → Some_ w2 base A (s.at_ r).adv t f cb c mb us ⟨fr, [],fun _ => none, 0, 0⟩ 4 (0 + (ents plc id v).length) (insAll (ents plc id v) es) W → Off A.F w w2 → w.heap.size ≤ cb → Calls Tryz.prog 85 #[.pointer (some ⟨c, 0,none⟩), .int .i64 50] W (DoneP w base A s x t dead f fr tb (tput id v tb) full)) := fun r w2 W cb c mb hr hS ho hcb => commit_fin h hG hr hS (by omega) ho hcb HIDX.out 50 full (hf2 _ HIDX.out)
 have HFULL : Hid (∀ r w2 W cb c mb i,r ≤ 12 → Full_ w2 base A (s.at_ r).adv t f cb c mb ⟨fr, [],fun _ => none, 0, 0⟩ 4 i W → i ≤ 10 → Off A.F w w2 → w.heap.size ≤ cb → DoneP w base A s x t dead f fr tb (tput id v tb) full (.returned (.int .i64 10)) W) := fun r w2 W cb c mb i hr hF hi ho hcb => full_fin h hr hF hi ho hcb tb _ full hf1
 have HBEG : Hid (∀ W r,Off A.F w W → PD W base A (s.at_ r) → TreeB W t A f → Calls Tryz.prog 81 #[.pointer (some ⟨t, 0,none⟩)] W fun e w' => ∃ c mb,e = .returned (.tuple #[.pointer (some ⟨c, 0,none⟩), .int .i64 0]) ∧ Some_ w' base A (s.at_ r).adv t f W.heap.size c mb us ⟨fr, [],fun _ => none, 0, 0⟩ 4 0 es w' ∧ Off A.F W w') := fun W r ho hp ht => begin_any w W base A s x t dead f fr root es us tb r h hG hs ho hp ht
 have HB0 : Hid (Below w.heap.size w W0) := hb0
 generalize ents plc id v = L at hlen HPOK HEN HIDX HFIN
 clear h hG hv hid hf1 hf2 hb0 B0 hxl nx1 nx2 HIDX hnone
 go_enter Tryz.func61,Tryz.ntmps61
 go_upto_region 2 with (rw [HW0.out]; go_at_call 80; refine hfind.mono ?_; rintro e w1 ⟨rfl,o1,r,hr,hp1,ht1⟩)
 obtain ⟨W1,hW1⟩ : ∃ W1,w1.alloc (.cells #[.int .i64 (zeroBox.a : Int), .int .i64 (zeroBox.b : Int), .int .i64 (zeroBox.c : Int), .int .i64 (zeroBox.d : Int)] 34) = W1 := ⟨_,rfl⟩
 have hb1 : Below w1.heap.size w1 W1 := by rw [← hW1]; exact (Below.refl _ w1).alloc (Nat.le_refl _) _
 have B7 : Blk W1 w1.heap.size 34 #[.int .i64 (zeroBox.a : Int), .int .i64 (zeroBox.b : Int), .int .i64 (zeroBox.c : Int), .int .i64 (zeroBox.d : Int)] := by rw [← hW1]; exact Blk.new w1 34 _
 have o2 : Off A.F W0 W1 := o1.trans (Off.of_below hb1)
 have oW1 : Off A.F w W1 := (Off.of_below HB0.out).trans o2
 have hbeg := HBEG.out W1 r oW1 (hp1.below hb1) ((hb1.block t ht1.lt).trans ht1)
 have cx : W1.cell? ⟨x, 0,none⟩ = some (.pointer (some ⟨t, 0,none⟩)) := HX.out W1 o2
 have hsz1 := o1.size
 have hszb := hb1.size
 rw [hW1]
 clear hW1 hfind hp1 ht1 o1 hb1 HX HBEG HW0
 go_upto_region 12 with (go_at_call 81; refine hbeg.mono ?_; rintro e w2 ⟨c,mb,rfl,hS2,o3⟩)
 have oW2 : Off A.F w w2 := oW1.trans o3
 have hcb : w.heap.size ≤ W1.heap.size := by omega
 have hs3 := o3.size
 have hS3 := hS2
 have HSX : Hid (Some_ w2 base A (s.at_ r).adv t f W1.heap.size c mb us ⟨fr, [],fun _ => none, 0, 0⟩ 4 0 es w2) := hS3
 have HIN : Hid (∀ W i es',Some_ w2 base A (s.at_ r).adv t f W1.heap.size c mb us ⟨fr, [],fun _ => none, 0, 0⟩ 4 i es' W → Off (ChF w2 A W1.heap.size c mb) w2 W → Blk W w.heap.size 34 #[.int .i64 (v.a : Int), .int .i64 (v.b : Int), .int .i64 (v.c : Int), .int .i64 (v.d : Int)]) := fun W i es' hS ho => by
  have hb := HRB.out w2 (o2.trans o3)
  obtain ⟨_,_,_,_,_,hC,_⟩ := hS.ex
  have hle := hC.ch.le
  refine (ho.block _ hb.lt (fun hf => ?_)).trans hb
  rcases hf with hf | hf | hf | hf
  ·have := hFw _ hf; omega
  ·omega
  ·omega
  ·omega
 have Br := HIN.out w2 _ _ hS3 hS3.off
 have q0 : w2.cell? ⟨w.heap.size, 0,none⟩ = some (.int .i64 (v.a : Int)) := Br.cell 0
 have q1 : w2.cell? ⟨w.heap.size, 1,none⟩ = some (.int .i64 (v.b : Int)) := Br.cell 1
 have q2 : w2.cell? ⟨w.heap.size, 2,none⟩ = some (.int .i64 (v.c : Int)) := Br.cell 2
 have q3 : w2.cell? ⟨w.heap.size, 3,none⟩ = some (.int .i64 (v.d : Int)) := Br.cell 3
 have hen := HEN.out w2
 clear hS3 HIN Br HEN hbeg cx
 go_wp2_with (go_at_call 83; refine hen.mono ?_; rintro e w4 ⟨ra,rc,rfl,hown,hb4⟩)
 have HS4 : Hid (Some_ w2 base A (s.at_ r).adv t f W1.heap.size c mb us ⟨fr, [],fun _ => none, 0, 0⟩ 4 0 es w4) := HSX.out.below hb4
 have HROW : Hid (RowR w4 (.slice ra L.length rc) L) := Row.of_own pkR hown
 clear hen hown hb4 HSX q0 q1 q2 q3
 go_loopw [54] (fun y wr => ∃ j : Nat,y = .int .i64 (j : Int) ∧ j ≤ L.length ∧ Some_ w2 base A (s.at_ r).adv t f W1.heap.size c mb us ⟨fr, [],fun _ => none, 0, 0⟩ 4 (0 + j) (insAll (L.take j) es) wr ∧ RowR wr (.slice ra L.length rc) L) (fun y _ => L.length - (intOf y).toNat)
 case atStart => exact ⟨0,rfl,Nat.zero_le _,HS4.out,HROW.out⟩
 case round =>
  obtain ⟨j,rfl,hj,hS,hR⟩ := hrel
  by_cases hlt : j < L.length
  ·have hlt' : (j : Int) < (L.length : Int) := by omega
   obtain ⟨b,o,c',e,hlc,_,_,_,_⟩ := Row.form pkR hR (by omega)
   cases e
   obtain ⟨y,hy⟩ : ∃ y,L[j]? = some y := ⟨_,List.getElem?_eq_getElem hlt⟩
   obtain ⟨e0,e1,e2,e3,e4,e5⟩ := RowR.cells6 hR hy
   have hbx : Below wr.heap.size wr (wr.alloc (entO y)) := (Below.refl _ wr).alloc (Nat.le_refl _) _
   have hSb := hS.below hbx
   have hcall := hSb.put hs hn1 hn2 (by omega) (hSb.len hn1 hn2).1 y (HPOK.out y (List.mem_of_getElem? hy))
   have HNX : Hid (insAll (L.take (j + 1)) es = ins y.1 y.2 (insAll (L.take j) es)) := by show _ = _; rw [take_snoc hy,insAll_snoc]
   have HNR : Hid _ := hSb.norow
   have HRX : Hid (RowR (wr.alloc (entO y)) (.slice (some ⟨b,o,none⟩) L.length rc) L) := hR.below pkR hbx
   have HCALL : Hid _ := hcall
   clear hcall hS hSb hbx hR
   go_wp2_with (go_at_call 84; refine Calls.mono HCALL.out ?_; rintro e w5 (⟨rfl,hS5,ho5⟩ | ⟨rfl,hF5⟩))
   ·have hR5 : RowR w5 (.slice (some ⟨b,o,none⟩) L.length rc) L := HRX.out.off pkR ho5 (fun k hk ht => HNR.out k hk (.inl ht))
    refine ⟨⟨j + 1,by go_num,by omega, ?_,hR5⟩,by simp [intOf]; omega⟩
    rw [HNX.out]; exact hS5
   ·go_ret
    exact HFULL.out r w2 w5 _ c mb _ hr hF5 (by omega) oW2 hcb
  ·have hlt' : decide ((j : Int) < (L.length : Int)) = false := decide_eq_false (by omega)
   have hlt2 : decide (j < L.length) = false := decide_eq_false (by omega)
   have hjl : j = L.length := by omega
   rw [hjl,List.take_length] at hS
   have hfin := HFIN.out r w2 wr _ c mb hr hS oW2 hcb
   clear hS hR
   go_wp2_with (go_at_call 85; refine hfin.mono ?_; rintro e w6 hD; rcases (show _ ∧ _ from hD).2 with ⟨rfl,_⟩ | ⟨rfl,_⟩ | ⟨rfl,_⟩)
   all_goals go_ret
   all_goals exact hD
set_option maxRecDepth 100000 in
set_option maxHeartbeats 4000000 in
theorem put_old (w : World) (base : Nat) (A : PA) (s : PS) (x t : Nat) (dead : Bool) (f : Value) (fr : List Nat) (root : Nat) (es : List (Key × Box)) (us : List Nat) (tb : List (Int × Box)) (h : IxS w base A s x t dead f fr) (hG : Gd s fr root es us tb) (hs : s.brk = false) (id : Int) (hid : 0 ≤ id ∧ id ≤ 4611686018427387904) (v : Box) (hv : v.ok) (v0 : Box) (hsome : tget id tb = some v0) (full : Prop) (hf1 : fr.length < 140 → full) (hf2 : ∀ es',Idx plc (tput id v tb) es' → es'.length + 4 > 4 * (s.n - 1 - 50) ∨ s.n - 1 < 50 → full) :
  Calls Tryz.prog 61 #[.pointer (some ⟨x, 0,none⟩), .int .i64 id, .agg #[.int .i64 (v.a : Int), .int .i64 (v.b : Int), .int .i64 (v.c : Int), .int .i64 (v.d : Int)]] w (DoneP w base A s x t dead f fr tb (tput id v tb) full) := by
 have hn2 := h.pd.n2
 have hn1 : 1 ≤ s.n := by have := h.pd.n1; omega
 have hb0 : Below w.heap.size w (w.alloc (.cells #[.int .i64 (v.a : Int), .int .i64 (v.b : Int), .int .i64 (v.c : Int), .int .i64 (v.d : Int)] 34)) := (Below.refl _ w).alloc (Nat.le_refl _) _
 have B0 := Blk.new w 34 #[.int .i64 (v.a : Int), .int .i64 (v.b : Int), .int .i64 (v.c : Int), .int .i64 (v.d : Int)]
 obtain ⟨W0,hW0⟩ : ∃ W0,w.alloc (.cells #[.int .i64 (v.a : Int), .int .i64 (v.b : Int), .int .i64 (v.c : Int), .int .i64 (v.d : Int)] 34) = W0 := ⟨_,rfl⟩
 have HW0 : Hid (w.alloc (.cells #[.int .i64 (v.a : Int), .int .i64 (v.b : Int), .int .i64 (v.c : Int), .int .i64 (v.d : Int)] 34) = W0) := hW0
 rw [hW0] at hb0 B0
 have hs0 : W0.heap.size = w.heap.size + 1 := by rw [← hW0]; simp
 clear hW0
 have hxl := h.ix.lt
 obtain ⟨nx1,nx2⟩ := h.nx
 have hfind := find_live W0 base A s t x dead f root es us tb (h.pd.below hb0) ((hb0.block t h.tr.lt).trans h.tr) ((hb0.block x hxl).trans h.ix) hs hG.tr hG.idx id
 rw [hsome] at hfind
 simp only [foundR] at hfind
 have hlen : (ents plc id v).length ≤ 5 := by have := (plc_ok hv).few; unfold ents; simp; exact this
 have hFw : ∀ k,A.F k → k < w.heap.size := fun k hk => (h.pd.lt k hk).2
 have HX : Hid (∀ W,Off A.F W0 W → W.cell? ⟨x, 0,none⟩ = some (.pointer (some ⟨t, 0,none⟩))) := fun W ho => by
  have h1 : Blk W x 124 _ := (ho.block x (by omega) nx1).trans ((hb0.block x hxl).trans h.ix)
  exact h1.cell 0
 have HRB : Hid (∀ W,Off A.F W0 W → Blk W w.heap.size 34 #[.int .i64 (v.a : Int), .int .i64 (v.b : Int), .int .i64 (v.c : Int), .int .i64 (v.d : Int)]) := fun W ho => (ho.block _ (by omega) (fun hf => by have := hFw _ hf; omega)).trans B0
 have HPOK : Hid (∀ p ∈ ents plc id v,PairOk rectC p) := pok_ents hv hid
 have HEN : Hid (∀ W,Calls Tryz.prog 83 #[.int .i64 id, .agg #[.int .i64 (v.a : Int), .int .i64 (v.b : Int), .int .i64 (v.c : Int), .int .i64 (v.d : Int)]] W fun e w' => ∃ a c,e = .returned (.slice a (ents plc id v).length c) ∧ w'.ownsRow W.heap.size 156 6 (.slice a (ents plc id v).length c) (ents plc id v).length (flat pkR (ents plc id v)) ∧ Below W.heap.size W w') := fun W => entries_any W id v hv
 have HIDX : Hid (Idx plc (tput id v tb) (insAll (ents plc id v) (delAll (ents plc id v0) es))) := by 
  have hm : (id,v0) ∈ tb := (tget_some hG.idx.up).1 hsome
  have h1 := hG.idx.del hm
  have h2 := h1.put (id := id) (v := v) (fun q hq => (mem_tdel.1 hq).2) hid (plc_ok hv)
  rw [tput_tdel] at h2
  exact h2
 have hv0 : v0.ok := plc_inv (hG.idx.pl (id,v0) ((tget_some hG.idx.up).1 hsome))
 have hlen0 : (ents plc id v0).length ≤ 5 := by have := (plc_ok hv0).few; unfold ents; simp; exact this
 have HTAKE : Hid (∀ r w2 W cb c mb,Some_ w2 base A (s.at_ r).adv t f cb c mb us ⟨fr, [],fun _ => none, 0, 0⟩ 4 0 es W → Calls Tryz.prog 82 #[.pointer (some ⟨c, 0,none⟩), .int .i64 id, .agg #[.int .i64 (v0.a : Int), .int .i64 (v0.b : Int), .int .i64 (v0.c : Int), .int .i64 (v0.d : Int)]] W fun e w' => (e = .returned (.int .i64 0) ∧ Some_ w2 base A (s.at_ r).adv t f cb c mb us ⟨fr, [],fun _ => none, 0, 0⟩ 4 (0 + (ents plc id v0).length) (delAll (ents plc id v0) es) w') ∨ (e = .returned (.int .i64 10) ∧ Full_ w2 base A (s.at_ r).adv t f cb c mb ⟨fr, [],fun _ => none, 0, 0⟩ 4 (0 + (ents plc id v0).length) w')) := fun r w2 W cb c mb hS => takeOut_any w2 base A (s.at_ r).adv t f cb c mb us _ 4 0 es W hS hs hn1 hn2 (by omega) (hS.len hn1 hn2).2 (hS.len hn1 hn2).1 id v0 hv0
 have HFIN : Hid (∀ r w2 W cb c mb,r ≤ 12 → Some_ w2 base A (s.at_ r).adv t f cb c mb us ⟨fr, [],fun _ => none, 0, 0⟩ 4 ((ents plc id v0).length + (ents plc id v).length) (insAll (ents plc id v) (delAll (ents plc id v0) es)) W → Off A.F w w2 → w.heap.size ≤ cb → Calls Tryz.prog 85 #[.pointer (some ⟨c, 0,none⟩), .int .i64 50] W (DoneP w base A s x t dead f fr tb (tput id v tb) full)) := fun r w2 W cb c mb hr hS ho hcb => commit_fin h hG hr hS (by omega) ho hcb HIDX.out 50 full (hf2 _ HIDX.out)
 have HFULL : Hid (∀ r w2 W cb c mb i,r ≤ 12 → Full_ w2 base A (s.at_ r).adv t f cb c mb ⟨fr, [],fun _ => none, 0, 0⟩ 4 i W → i ≤ 10 → Off A.F w w2 → w.heap.size ≤ cb → DoneP w base A s x t dead f fr tb (tput id v tb) full (.returned (.int .i64 10)) W) := fun r w2 W cb c mb i hr hF hi ho hcb => full_fin h hr hF hi ho hcb tb _ full hf1
 have HBEG : Hid (∀ W r,Off A.F w W → PD W base A (s.at_ r) → TreeB W t A f → Calls Tryz.prog 81 #[.pointer (some ⟨t, 0,none⟩)] W fun e w' => ∃ c mb,e = .returned (.tuple #[.pointer (some ⟨c, 0,none⟩), .int .i64 0]) ∧ Some_ w' base A (s.at_ r).adv t f W.heap.size c mb us ⟨fr, [],fun _ => none, 0, 0⟩ 4 0 es w' ∧ Off A.F W w') := fun W r ho hp ht => begin_any w W base A s x t dead f fr root es us tb r h hG hs ho hp ht
 have HB0 : Hid (Below w.heap.size w W0) := hb0
 generalize ents plc id v = L at hlen HPOK HEN HIDX HFIN
 clear h hG hv hid hf1 hf2 hb0 B0 hxl nx1 nx2 HIDX hsome hv0
 go_enter Tryz.func61,Tryz.ntmps61
 go_upto_region 2 with (rw [HW0.out]; go_at_call 80; refine hfind.mono ?_; rintro e w1 ⟨rfl,o1,r,hr,hp1,ht1⟩)
 obtain ⟨W1,hW1⟩ : ∃ W1,w1.alloc (.cells #[.int .i64 (v0.a : Int), .int .i64 (v0.b : Int), .int .i64 (v0.c : Int), .int .i64 (v0.d : Int)] 34) = W1 := ⟨_,rfl⟩
 have hb1 : Below w1.heap.size w1 W1 := by rw [← hW1]; exact (Below.refl _ w1).alloc (Nat.le_refl _) _
 have B7 : Blk W1 w1.heap.size 34 #[.int .i64 (v0.a : Int), .int .i64 (v0.b : Int), .int .i64 (v0.c : Int), .int .i64 (v0.d : Int)] := by rw [← hW1]; exact Blk.new w1 34 _
 have o2 : Off A.F W0 W1 := o1.trans (Off.of_below hb1)
 have oW1 : Off A.F w W1 := (Off.of_below HB0.out).trans o2
 have hbeg := HBEG.out W1 r oW1 (hp1.below hb1) ((hb1.block t ht1.lt).trans ht1)
 have cx : W1.cell? ⟨x, 0,none⟩ = some (.pointer (some ⟨t, 0,none⟩)) := HX.out W1 o2
 have hsz1 := o1.size
 have hszb := hb1.size
 rw [hW1]
 clear hW1 hfind hp1 ht1 o1 hb1 HX HBEG HW0
 go_upto_region 9 with (go_at_call 81; refine hbeg.mono ?_; rintro e w2 ⟨c,mb,rfl,hS2,o3⟩)
 have oW2 : Off A.F w w2 := oW1.trans o3
 have hcb : w.heap.size ≤ W1.heap.size := by omega
 have hs3 := o3.size
 have B72 : Blk w2 w1.heap.size 34 #[.int .i64 (v0.a : Int), .int .i64 (v0.b : Int), .int .i64 (v0.c : Int), .int .i64 (v0.d : Int)] := (o3.block _ B7.lt (fun hf => by have := hFw _ hf; omega)).trans B7
 have p0 : w2.cell? ⟨w1.heap.size, 0,none⟩ = some (.int .i64 (v0.a : Int)) := B72.cell 0
 have p1 : w2.cell? ⟨w1.heap.size, 1,none⟩ = some (.int .i64 (v0.b : Int)) := B72.cell 1
 have p2 : w2.cell? ⟨w1.heap.size, 2,none⟩ = some (.int .i64 (v0.c : Int)) := B72.cell 2
 have p3 : w2.cell? ⟨w1.heap.size, 3,none⟩ = some (.int .i64 (v0.d : Int)) := B72.cell 3
 have htk := HTAKE.out r w2 w2 _ c mb hS2
 clear hS2 HTAKE B72
 go_upto_region 12 with (go_at_call 82; refine htk.mono ?_; rintro e W3 (⟨rfl,hS3⟩ | ⟨rfl,hF3⟩))
 rotate_left
 ·go_wp2
  go_ret
  exact HFULL.out r w2 W3 _ c mb _ hr hF3 (by omega) oW2 hcb
 rw [Nat.zero_add] at hS3
 clear htk p0 p1 p2 p3
 have HSX : Hid (Some_ w2 base A (s.at_ r).adv t f W1.heap.size c mb us ⟨fr, [],fun _ => none, 0, 0⟩ 4 (ents plc id v0).length (delAll (ents plc id v0) es) W3) := hS3
 have HIN : Hid (∀ W i es',Some_ w2 base A (s.at_ r).adv t f W1.heap.size c mb us ⟨fr, [],fun _ => none, 0, 0⟩ 4 i es' W → Off (ChF w2 A W1.heap.size c mb) w2 W → Blk W w.heap.size 34 #[.int .i64 (v.a : Int), .int .i64 (v.b : Int), .int .i64 (v.c : Int), .int .i64 (v.d : Int)]) := fun W i es' hS ho => by
  have hb := HRB.out w2 (o2.trans o3)
  obtain ⟨_,_,_,_,_,hC,_⟩ := hS.ex
  have hle := hC.ch.le
  refine (ho.block _ hb.lt (fun hf => ?_)).trans hb
  rcases hf with hf | hf | hf | hf
  ·have := hFw _ hf; omega
  ·omega
  ·omega
  ·omega
 have Br := HIN.out W3 _ _ hS3 hS3.off
 have q0 : W3.cell? ⟨w.heap.size, 0,none⟩ = some (.int .i64 (v.a : Int)) := Br.cell 0
 have q1 : W3.cell? ⟨w.heap.size, 1,none⟩ = some (.int .i64 (v.b : Int)) := Br.cell 1
 have q2 : W3.cell? ⟨w.heap.size, 2,none⟩ = some (.int .i64 (v.c : Int)) := Br.cell 2
 have q3 : W3.cell? ⟨w.heap.size, 3,none⟩ = some (.int .i64 (v.d : Int)) := Br.cell 3
 have hen := HEN.out W3
 clear hS3 HIN Br HEN hbeg cx
 go_wp2_with (go_at_call 83; refine hen.mono ?_; rintro e w4 ⟨ra,rc,rfl,hown,hb4⟩)
 have HS4 : Hid (Some_ w2 base A (s.at_ r).adv t f W1.heap.size c mb us ⟨fr, [],fun _ => none, 0, 0⟩ 4 (ents plc id v0).length (delAll (ents plc id v0) es) w4) := HSX.out.below hb4
 have HROW : Hid (RowR w4 (.slice ra L.length rc) L) := Row.of_own pkR hown
 clear hen hown hb4 HSX q0 q1 q2 q3
 go_loopw [54] (fun y wr => ∃ j : Nat,y = .int .i64 (j : Int) ∧ j ≤ L.length ∧ Some_ w2 base A (s.at_ r).adv t f W1.heap.size c mb us ⟨fr, [],fun _ => none, 0, 0⟩ 4 ((ents plc id v0).length + j) (insAll (L.take j) (delAll (ents plc id v0) es)) wr ∧ RowR wr (.slice ra L.length rc) L) (fun y _ => L.length - (intOf y).toNat)
 case atStart => exact ⟨0,rfl,Nat.zero_le _,HS4.out,HROW.out⟩
 case round =>
  obtain ⟨j,rfl,hj,hS,hR⟩ := hrel
  by_cases hlt : j < L.length
  ·have hlt' : (j : Int) < (L.length : Int) := by omega
   obtain ⟨b,o,c',e,hlc,_,_,_,_⟩ := Row.form pkR hR (by omega)
   cases e
   obtain ⟨y,hy⟩ : ∃ y,L[j]? = some y := ⟨_,List.getElem?_eq_getElem hlt⟩
   obtain ⟨e0,e1,e2,e3,e4,e5⟩ := RowR.cells6 hR hy
   have hbx : Below wr.heap.size wr (wr.alloc (entO y)) := (Below.refl _ wr).alloc (Nat.le_refl _) _
   have hSb := hS.below hbx
   have hcall := hSb.put hs hn1 hn2 (by omega) (hSb.len hn1 hn2).1 y (HPOK.out y (List.mem_of_getElem? hy))
   have HNX : Hid (insAll (L.take (j + 1)) (delAll (ents plc id v0) es) = ins y.1 y.2 (insAll (L.take j) (delAll (ents plc id v0) es))) := by show _ = _; rw [take_snoc hy,insAll_snoc]
   have HNR : Hid _ := hSb.norow
   have HRX : Hid (RowR (wr.alloc (entO y)) (.slice (some ⟨b,o,none⟩) L.length rc) L) := hR.below pkR hbx
   have HCALL : Hid _ := hcall
   clear hcall hS hSb hbx hR
   go_wp2_with (go_at_call 84; refine Calls.mono HCALL.out ?_; rintro e w5 (⟨rfl,hS5,ho5⟩ | ⟨rfl,hF5⟩))
   ·have hR5 : RowR w5 (.slice (some ⟨b,o,none⟩) L.length rc) L := HRX.out.off pkR ho5 (fun k hk ht => HNR.out k hk (.inl ht))
    refine ⟨⟨j + 1,by go_num,by omega, ?_,hR5⟩,by simp [intOf]; omega⟩
    rw [HNX.out]; exact hS5
   ·go_ret
    exact HFULL.out r w2 w5 _ c mb _ hr hF5 (by omega) oW2 hcb
  ·have hlt' : decide ((j : Int) < (L.length : Int)) = false := decide_eq_false (by omega)
   have hlt2 : decide (j < L.length) = false := decide_eq_false (by omega)
   have hjl : j = L.length := by omega
   rw [hjl,List.take_length] at hS
   have hfin := HFIN.out r w2 wr _ c mb hr hS oW2 hcb
   clear hS hR
   go_wp2_with (go_at_call 85; refine hfin.mono ?_; rintro e w6 hD; rcases (show _ ∧ _ from hD).2 with ⟨rfl,_⟩ | ⟨rfl,_⟩ | ⟨rfl,_⟩)
   all_goals go_ret
   all_goals exact hD
end
section
set_option maxRecDepth 100000 in
set_option maxHeartbeats 4000000 in
theorem remove_old (w : World) (base : Nat) (A : PA) (s : PS) (x t : Nat) (dead : Bool) (f : Value) (fr : List Nat) (root : Nat) (es : List (Key × Box)) (us : List Nat) (tb : List (Int × Box)) (h : IxS w base A s x t dead f fr) (hG : Gd s fr root es us tb) (hs : s.brk = false) (id : Int) (v0 : Box) (hsome : tget id tb = some v0) (full : Prop) (hf1 : fr.length < 140 → full) (hf2 : ∀ es',Idx plc (tdel id tb) es' → es'.length + 4 > 4 * (s.n - 1 - 0) ∨ s.n - 1 < 0 → full) :
  Calls Tryz.prog 95 #[.pointer (some ⟨x, 0,none⟩), .int .i64 id] w (DoneP w base A s x t dead f fr tb (tdel id tb) full) := by
 have hn2 := h.pd.n2
 have hn1 : 1 ≤ s.n := by have := h.pd.n1; omega
 have hxl := h.ix.lt
 obtain ⟨nx1,nx2⟩ := h.nx
 have hfind := find_live w base A s t x dead f root es us tb h.pd h.tr h.ix hs hG.tr hG.idx id
 rw [hsome] at hfind
 simp only [foundR] at hfind
 have hFw : ∀ k,A.F k → k < w.heap.size := fun k hk => (h.pd.lt k hk).2
 have HX : Hid (∀ W,Off A.F w W → W.cell? ⟨x, 0,none⟩ = some (.pointer (some ⟨t, 0,none⟩))) := fun W ho => by
  have h1 : Blk W x 124 _ := (ho.block x hxl nx1).trans h.ix
  exact h1.cell 0
 have hm : (id,v0) ∈ tb := (tget_some hG.idx.up).1 hsome
 have HIDX : Hid (Idx plc (tdel id tb) (delAll (ents plc id v0) es)) := hG.idx.del hm
 have hv0 : v0.ok := plc_inv (hG.idx.pl (id,v0) hm)
 have hlen0 : (ents plc id v0).length ≤ 5 := by have := (plc_ok hv0).few; unfold ents; simp; exact this
 have HTAKE : Hid (∀ r w2 W cb c mb,Some_ w2 base A (s.at_ r).adv t f cb c mb us ⟨fr, [],fun _ => none, 0, 0⟩ 4 0 es W → Calls Tryz.prog 82 #[.pointer (some ⟨c, 0,none⟩), .int .i64 id, .agg #[.int .i64 (v0.a : Int), .int .i64 (v0.b : Int), .int .i64 (v0.c : Int), .int .i64 (v0.d : Int)]] W fun e w' => (e = .returned (.int .i64 0) ∧ Some_ w2 base A (s.at_ r).adv t f cb c mb us ⟨fr, [],fun _ => none, 0, 0⟩ 4 (0 + (ents plc id v0).length) (delAll (ents plc id v0) es) w') ∨ (e = .returned (.int .i64 10) ∧ Full_ w2 base A (s.at_ r).adv t f cb c mb ⟨fr, [],fun _ => none, 0, 0⟩ 4 (0 + (ents plc id v0).length) w')) := fun r w2 W cb c mb hS => takeOut_any w2 base A (s.at_ r).adv t f cb c mb us _ 4 0 es W hS hs hn1 hn2 (by omega) (hS.len hn1 hn2).2 (hS.len hn1 hn2).1 id v0 hv0
 have HFIN : Hid (∀ r w2 W cb c mb,r ≤ 12 → Some_ w2 base A (s.at_ r).adv t f cb c mb us ⟨fr, [],fun _ => none, 0, 0⟩ 4 (0 + (ents plc id v0).length) (delAll (ents plc id v0) es) W → Off A.F w w2 → w.heap.size ≤ cb → Calls Tryz.prog 85 #[.pointer (some ⟨c, 0,none⟩), .int .i64 0] W (DoneP w base A s x t dead f fr tb (tdel id tb) full)) := fun r w2 W cb c mb hr hS ho hcb => commit_fin h hG hr hS (by omega) ho hcb HIDX.out 0 full (hf2 _ HIDX.out)
 have HFULL : Hid (∀ r w2 W cb c mb i,r ≤ 12 → Full_ w2 base A (s.at_ r).adv t f cb c mb ⟨fr, [],fun _ => none, 0, 0⟩ 4 i W → i ≤ 10 → Off A.F w w2 → w.heap.size ≤ cb → DoneP w base A s x t dead f fr tb (tdel id tb) full (.returned (.int .i64 10)) W) := fun r w2 W cb c mb i hr hF hi ho hcb => full_fin h hr hF hi ho hcb tb _ full hf1
 have HBEG : Hid (∀ W r,Off A.F w W → PD W base A (s.at_ r) → TreeB W t A f → Calls Tryz.prog 81 #[.pointer (some ⟨t, 0,none⟩)] W fun e w' => ∃ c mb,e = .returned (.tuple #[.pointer (some ⟨c, 0,none⟩), .int .i64 0]) ∧ Some_ w' base A (s.at_ r).adv t f W.heap.size c mb us ⟨fr, [],fun _ => none, 0, 0⟩ 4 0 es w' ∧ Off A.F W w') := fun W r ho hp ht => begin_any w W base A s x t dead f fr root es us tb r h hG hs ho hp ht
 clear h hG hf1 hf2 hxl nx1 nx2 HIDX hsome hv0 hm
 go_enter Tryz.func95,Tryz.ntmps95
 go_upto_region 2 with (go_at_call 80; refine hfind.mono ?_; rintro e w1 ⟨rfl,o1,r,hr,hp1,ht1⟩)
 obtain ⟨W1,hW1⟩ : ∃ W1,w1.alloc (.cells #[.int .i64 (v0.a : Int), .int .i64 (v0.b : Int), .int .i64 (v0.c : Int), .int .i64 (v0.d : Int)] 34) = W1 := ⟨_,rfl⟩
 have hb1 : Below w1.heap.size w1 W1 := by rw [← hW1]; exact (Below.refl _ w1).alloc (Nat.le_refl _) _
 have B7 : Blk W1 w1.heap.size 34 #[.int .i64 (v0.a : Int), .int .i64 (v0.b : Int), .int .i64 (v0.c : Int), .int .i64 (v0.d : Int)] := by rw [← hW1]; exact Blk.new w1 34 _
 have oW1 : Off A.F w W1 := o1.trans (Off.of_below hb1)
 have hbeg := HBEG.out W1 r oW1 (hp1.below hb1) ((hb1.block t ht1.lt).trans ht1)
 have cx : W1.cell? ⟨x, 0,none⟩ = some (.pointer (some ⟨t, 0,none⟩)) := HX.out W1 oW1
 have hsz1 := o1.size
 have hszb := hb1.size
 rw [hW1]
 clear hW1 hfind hp1 ht1 o1 hb1 HX HBEG
 go_upto_region 7 with (go_at_call 81; refine hbeg.mono ?_; rintro e w2 ⟨c,mb,rfl,hS2,o3⟩)
 have oW2 : Off A.F w w2 := oW1.trans o3
 have hcb : w.heap.size ≤ W1.heap.size := by omega
 have B72 : Blk w2 w1.heap.size 34 #[.int .i64 (v0.a : Int), .int .i64 (v0.b : Int), .int .i64 (v0.c : Int), .int .i64 (v0.d : Int)] := (o3.block _ B7.lt (fun hf => by have := hFw _ hf; omega)).trans B7
 have p0 : w2.cell? ⟨w1.heap.size, 0,none⟩ = some (.int .i64 (v0.a : Int)) := B72.cell 0
 have p1 : w2.cell? ⟨w1.heap.size, 1,none⟩ = some (.int .i64 (v0.b : Int)) := B72.cell 1
 have p2 : w2.cell? ⟨w1.heap.size, 2,none⟩ = some (.int .i64 (v0.c : Int)) := B72.cell 2
 have p3 : w2.cell? ⟨w1.heap.size, 3,none⟩ = some (.int .i64 (v0.d : Int)) := B72.cell 3
 have htk := HTAKE.out r w2 w2 _ c mb hS2
 clear hS2 HTAKE B72 hbeg cx
 go_upto_region 10 with (go_at_call 82; refine htk.mono ?_; rintro e W3 (⟨rfl,hS3⟩ | ⟨rfl,hF3⟩))
 rotate_left
 ·go_wp2
  go_ret
  exact HFULL.out r w2 W3 _ c mb _ hr hF3 (by omega) oW2 hcb
 have hfin := HFIN.out r w2 W3 _ c mb hr hS3 oW2 hcb
 clear htk p0 p1 p2 p3 hS3
 go_wp2_with (go_at_call 85; refine hfin.mono ?_; rintro e w6 hD; rcases (show _ ∧ _ from hD).2 with ⟨rfl,_⟩ | ⟨rfl,_⟩ | ⟨rfl,_⟩)
 all_goals go_ret
 all_goals exact hD
set_option maxRecDepth 100000 in
set_option maxHeartbeats 2000000 in
theorem remove_new (w : World) (base : Nat) (A : PA) (s : PS) (x t : Nat) (dead : Bool) (f : Value) (fr : List Nat) (root : Nat) (es : List (Key × Box)) (us : List Nat) (tb : List (Int × Box)) (h : IxS w base A s x t dead f fr) (hG : Gd s fr root es us tb) (hs : s.brk = false) (id : Int) (hnone : tget id tb = none) :
  Calls Tryz.prog 95 #[.pointer (some ⟨x, 0,none⟩), .int .i64 id] w fun e w' => e = .returned (.int .i64 9) ∧ Off A.F w w' ∧ ∃ r,r ≤ 12 ∧ IxS w' base A (s.at_ r) x t dead f fr := by
 have hfind := find_live w base A s t x dead f root es us tb h.pd h.tr h.ix hs hG.tr hG.idx id
 rw [hnone] at hfind
 simp only [foundR] at hfind
 have HH : Hid (IxS w base A s x t dead f fr) := h
 clear h hG
 go_enter Tryz.func95,Tryz.ntmps95
 go_wp2_with (go_at_call 80; refine hfind.mono ?_; rintro e w1 ⟨rfl,o1,r,hr,hp1,ht1⟩)
 go_ret
 have hb := (Below.refl _ w1).alloc (Nat.le_refl _) (.cells #[.int .i64 (zeroBox.a : Int), .int .i64 (zeroBox.b : Int), .int .i64 (zeroBox.c : Int), .int .i64 (zeroBox.d : Int)] 34)
 have o2 : Off A.F w _ := o1.trans (Off.of_below hb)
 exact ⟨rfl,o2,r,hr,HH.out.off (o2.mono (fun k _ h => .inl h)) (hp1.below hb) ((hb.block t ht1.lt).trans ht1)⟩
end
section
def idB (id : Int) : Bool := decide (0 ≤ id) && decide (id ≤ 4611686018427387904)
set_option maxHeartbeats 1000000 in
theorem isId_any (id : Int) (w : World) : Calls Tryz.prog 78 #[.int .i64 id] w fun e w' => e = .returned (.bool (idB id)) ∧ w' = w := by
 unfold idB
 by_cases h1 : 0 ≤ id
 ·by_cases h2 : id ≤ 4611686018427387904
  ·go_enter Tryz.func78,Tryz.ntmps78
   go_wp2
   go_ret
   simp [h1,h2]
  ·go_enter Tryz.func78,Tryz.ntmps78
   go_wp2
   go_ret
   simp [h2]
 ·go_enter Tryz.func78,Tryz.ntmps78
  go_wp2
  go_ret
  simp
  omega
def refuseE (dead : Bool) (id : Int) : Int := if dead = true then 11 else if idB id = true then 0 else 8
set_option maxHeartbeats 1000000 in
theorem refuse_any (w : World) (x t : Nat) (dead : Bool) (hx : IdxB w x t dead) (id : Int) : Calls Tryz.prog 58 #[.pointer (some ⟨x, 0,none⟩), .int .i64 id] w fun e w' => e = .returned (.int .i64 (refuseE dead id)) ∧ w' = w := by
 have c1 : w.cell? ⟨x, 1,none⟩ = some (.bool dead) := hx.cell 1
 have hid := isId_any id w
 unfold refuseE
 cases dead with
 | true =>
  go_enter Tryz.func58,Tryz.ntmps58
  go_wp2
  go_ret
  exact ⟨rfl,rfl⟩
 | false =>
  cases hb : idB id with
  | true =>
   rw [hb] at hid
   go_enter Tryz.func58,Tryz.ntmps58
   go_wp2_with (go_at_call 78; refine hid.mono ?_; rintro e w1 ⟨rfl,rfl⟩)
   go_ret
   exact ⟨rfl,rfl⟩
  | false =>
   rw [hb] at hid
   go_enter Tryz.func58,Tryz.ntmps58
   go_wp2_with (go_at_call 78; refine hid.mono ?_; rintro e w1 ⟨rfl,rfl⟩)
   go_ret
   exact ⟨rfl,rfl⟩
theorem right_of_ok {v : Box} (hv : v.ok) : rightB (v.a : Int) (v.b : Int) (v.c : Int) (v.d : Int) = true := by
 unfold rightB; rw [decide_eq_true_iff]
 obtain ⟨h1,h2,h3,h4⟩ := hv
 exact ⟨by omega,by omega,by omega,by omega,by omega,by omega⟩
def mindW (w : World) (x : Nat) (er : Int) : World := if er = 4 then w.setCell ⟨x, 1,none⟩ (.bool true) else w
set_option maxHeartbeats 1000000 in
theorem mind_any (w : World) (x t : Nat) (dead : Bool) (hx : IdxB w x t dead) (er : Int) : Calls Tryz.prog 60 #[.pointer (some ⟨x, 0,none⟩), .int .i64 er] w fun e w' => e = .returned (.int .i64 er) ∧ w' = mindW w x er := by
 have c1 : w.cell? ⟨x, 1,none⟩ = some (.bool dead) := hx.cell 1
 have f1 : w.frozen? ⟨x, 1,none⟩ = false := hx.frozen 1
 unfold mindW
 by_cases h4 : er = 4
 ·subst h4
  go_enter Tryz.func60,Tryz.ntmps60
  go_wp2
  go_ret
  exact ⟨rfl,rfl⟩
 ·have h4' : (er == 4) = false := by simpa using h4
  rw [if_neg h4]
  go_enter Tryz.func60,Tryz.ntmps60
  go_wp2
  go_ret
  exact ⟨rfl,rfl⟩
theorem IxS.minded {w : World} {base : Nat} {A : PA} {s : PS} {x t : Nat} {dead : Bool} {f : Value} {fr : List Nat} (h : IxS w base A s x t dead f fr) (er : Int) : IxS (mindW w x er) base A s x t (dead || decide (er = 4)) f fr ∧ Off (fun k => k = x) w (mindW w x er) := by
 unfold mindW
 by_cases h4 : er = 4
 ·rw [if_pos h4,decide_eq_true h4,Bool.or_true]
  obtain ⟨n1,n2⟩ := h.nx
  have o : Off (fun k => k = x) w (w.setCell ⟨x, 1,none⟩ (.bool true)) := Off.one w _
  refine ⟨⟨h.pd.off o (fun k hk e => n1 (e ▸ hk)),(o.block t h.tr.lt (Ne.symm n2)).trans h.tr,own_offv h.row o (fun g hg e => ?_),h.ix.set 1 _⟩,o⟩
  have e' : g = x := e
  obtain ⟨cs,hc⟩ := (own_tagged h.row hg).2
  have h' : w.heap[x]? = _ := h.ix
  rw [e',h'] at hc; simp at hc
 ·rw [if_neg h4,decide_eq_false h4,Bool.or_false]
  exact ⟨h,Off.refl _ _⟩
def CallP (w : World) (base : Nat) (A : PA) (s : PS) (x t : Nat) (dead : Bool) (f : Value) (fr : List Nat) (tb tb' : List (Int × Box)) (full : Prop) (e : Ending) (w' : World) : Prop :=
 Off (fun k => A.F k ∨ k = t ∨ k = x) w w' ∧ (
 (e = .returned (.int .i64 10) ∧ full ∧ ∃ r,r ≤ 400 ∧ IxS w' base A (s.at_ r) x t dead f fr) ∨
 (e = .returned (.int .i64 0) ∧ ∃ m' s' f' fr' root' es' us',(m' = A.m ∨ w.heap.size ≤ m') ∧ IxS w' base { A with m := m' } s' x t dead f' fr' ∧ Gd s' fr' root' es' us' tb' ∧ s'.n = s.n ∧ Adds s s' 400 ∧ s'.broken = false ∧ (Free s → Free s') ∧ FreshV w f') ∨
 (e = .returned (.int .i64 4) ∧ ∃ m' s',(m' = A.m ∨ w.heap.size ≤ m') ∧ IxS w' base { A with m := m' } s' x t true f fr ∧ s'.broken = true ∧ Torn2 s' tb tb' ∧ s'.n = s.n ∧ Adds s s' 400 ∧ ¬ Free s))
theorem DoneP.minded {w : World} {base : Nat} {A : PA} {s : PS} {x t : Nat} {f : Value} {fr : List Nat} {tb tb' : List (Int × Box)} {full : Prop} {e : Ending} {w' : World} (h : DoneP w base A s x t false f fr tb tb' full e w') : ∃ er : Int,e = .returned (.int .i64 er) ∧ IdxB w' x t false ∧ CallP w base A s x t false f fr tb tb' full e (mindW w' x er) := by
 obtain ⟨ho,h⟩ := h
 have ho' : Off (fun k => A.F k ∨ k = t ∨ k = x) w w' := ho.mono (fun k _ h => h.elim .inl (fun h => .inr (.inl h)))
 rcases h with ⟨rfl,hf,r,hr,hI⟩ | ⟨rfl,m',s',f',fr',root',es',us',hm,hI,hG,hn,ha⟩ | ⟨rfl,m',s',hm,hI,hb,ht,hn,ha⟩
 ·obtain ⟨h1,o1⟩ := hI.minded 10
  exact ⟨10,rfl,hI.ix,ho'.trans (o1.mono (fun k _ h => .inr (.inr h))), .inl ⟨rfl,hf,r,hr,h1⟩⟩
 ·obtain ⟨h1,o1⟩ := hI.minded 0
  exact ⟨0,rfl,hI.ix,ho'.trans (o1.mono (fun k _ h => .inr (.inr h))), .inr (.inl ⟨rfl,m',s',f',fr',root',es',us',hm,h1,hG,hn,ha⟩)⟩
 ·obtain ⟨h1,o1⟩ := hI.minded 4
  exact ⟨4,rfl,hI.ix,ho'.trans (o1.mono (fun k _ h => .inr (.inr h))), .inr (.inr ⟨rfl,m',s',hm,h1,hb,ht,hn,ha⟩)⟩
set_option maxRecDepth 100000 in
set_option maxHeartbeats 2000000 in
theorem iput_no (w : World) (x t : Nat) (dead : Bool) (hx : IdxB w x t dead) (id a b c d : Int) (h : dead = true ∨ idB id = false ∨ rightB a b c d = false) :
  Calls Tryz.prog 30 #[.pointer (some ⟨x, 0,none⟩), .int .i64 id, .agg #[.int .i64 a, .int .i64 b, .int .i64 c, .int .i64 d]] w fun e w' => e = .returned (.int .i64 (if refuseE dead id = 0 then 6 else refuseE dead id)) ∧ Below w.heap.size w w' := by
 have hb0 : Below w.heap.size w (w.alloc (.cells #[.int .i64 a, .int .i64 b, .int .i64 c, .int .i64 d] 34)) := (Below.refl _ w).alloc (Nat.le_refl _) _
 have href := refuse_any (w.alloc (.cells #[.int .i64 a, .int .i64 b, .int .i64 c, .int .i64 d] 34)) x t dead ((hb0.block x hx.lt).trans hx) id
 have HB : Hid _ := hb0
 clear hb0
 by_cases hr : refuseE dead id = 0
 ·have hrt : rightB a b c d = false := by
   rcases h with h | h | h
   ·rw [h] at hr; simp [refuseE] at hr
   ·unfold refuseE at hr; rw [h] at hr
    cases dead <;> simp at hr
   ·exact h
  rw [hr] at href ⊢
  have hri := right_any a b c d (w.alloc (.cells #[.int .i64 a, .int .i64 b, .int .i64 c, .int .i64 d] 34))
  rw [hrt] at hri
  clear h hr hrt
  go_enter Tryz.func30,Tryz.ntmps30
  go_wp2_with (first
   | (go_at_call 58; refine href.mono ?_; rintro e w1 ⟨rfl,rfl⟩)
   | (go_at_call 59; refine hri.mono ?_; rintro e w2 ⟨rfl,hb2⟩))
  go_ret
  exact ⟨rfl,HB.out.trans (hb2.mono HB.out.size)⟩
 ·rw [if_neg hr]
  have hr' : (refuseE dead id != 0) = true := by simpa using hr
  clear h hr
  generalize refuseE dead id = er at href hr'
  go_enter Tryz.func30,Tryz.ntmps30
  go_wp2_with (go_at_call 58; refine href.mono ?_; rintro e w1 ⟨rfl,rfl⟩)
  go_ret
  exact ⟨rfl,HB.out⟩
set_option maxRecDepth 100000 in
set_option maxHeartbeats 2000000 in
theorem iput_go (w : World) (x t : Nat) (hx : IdxB w x t false) (id : Int) (hid : idB id = true) (v : Box) (hv : v.ok) (R : Ending → World → Prop)
  (hput : ∀ W,Below w.heap.size w W → Calls Tryz.prog 61 #[.pointer (some ⟨x, 0,none⟩), .int .i64 id, .agg #[.int .i64 (v.a : Int), .int .i64 (v.b : Int), .int .i64 (v.c : Int), .int .i64 (v.d : Int)]] W fun e w' => ∃ er : Int,e = .returned (.int .i64 er) ∧ (∃ dead,IdxB w' x t dead) ∧ R e (mindW w' x er)) :
  Calls Tryz.prog 30 #[.pointer (some ⟨x, 0,none⟩), .int .i64 id, .agg #[.int .i64 (v.a : Int), .int .i64 (v.b : Int), .int .i64 (v.c : Int), .int .i64 (v.d : Int)]] w R := by
 have hb0 : Below w.heap.size w (w.alloc (.cells #[.int .i64 (v.a : Int), .int .i64 (v.b : Int), .int .i64 (v.c : Int), .int .i64 (v.d : Int)] 34)) := (Below.refl _ w).alloc (Nat.le_refl _) _
 have B0 := Blk.new w 34 #[.int .i64 (v.a : Int), .int .i64 (v.b : Int), .int .i64 (v.c : Int), .int .i64 (v.d : Int)]
 have href := refuse_any _ x t false ((hb0.block x hx.lt).trans hx) id
 have hr0 : refuseE false id = 0 := by unfold refuseE; rw [hid]; rfl
 rw [hr0] at href
 have hri := right_any (v.a : Int) (v.b : Int) (v.c : Int) (v.d : Int) (w.alloc (.cells #[.int .i64 (v.a : Int), .int .i64 (v.b : Int), .int .i64 (v.c : Int), .int .i64 (v.d : Int)] 34))
 rw [right_of_ok hv] at hri
 have HB : Hid _ := hb0
 have HB0 : Hid (Blk (w.alloc (.cells #[.int .i64 (v.a : Int), .int .i64 (v.b : Int), .int .i64 (v.c : Int), .int .i64 (v.d : Int)] 34)) w.heap.size 34 #[.int .i64 (v.a : Int), .int .i64 (v.b : Int), .int .i64 (v.c : Int), .int .i64 (v.d : Int)]) := B0
 have HPUT : Hid _ := hput
 clear hb0 B0 hr0 hid hv hx hput
 go_enter Tryz.func30,Tryz.ntmps30
 go_upto_region 6 with (first
  | (go_at_call 58; refine href.mono ?_; rintro e w1 ⟨rfl,rfl⟩)
  | (go_at_call 59; refine hri.mono ?_; rintro e w2 ⟨rfl,hb2⟩))
 have hW2 := HB.out.trans (hb2.mono HB.out.size)
 have B2 := HB0.out.below hb2 HB0.out.lt
 have c0 : w2.cell? ⟨w.heap.size, 0,none⟩ = some (.int .i64 (v.a : Int)) := B2.cell 0
 have c1 : w2.cell? ⟨w.heap.size, 1,none⟩ = some (.int .i64 (v.b : Int)) := B2.cell 1
 have c2 : w2.cell? ⟨w.heap.size, 2,none⟩ = some (.int .i64 (v.c : Int)) := B2.cell 2
 have c3 : w2.cell? ⟨w.heap.size, 3,none⟩ = some (.int .i64 (v.d : Int)) := B2.cell 3
 have hpu := HPUT.out w2 hW2
 clear href hri B2 hb2 hW2
 go_wp2_with (first
  | (go_at_call 61; refine hpu.mono ?_; rintro e w3 ⟨er,rfl,⟨dd,hx3⟩,hR⟩; have hmi := mind_any w3 x t dd hx3 er)
  | (go_at_call 60; refine hmi.mono ?_; rintro e w4 ⟨rfl,rfl⟩))
 exact hR
set_option maxRecDepth 100000 in
set_option maxHeartbeats 2000000 in
theorem idel_no (w : World) (x t : Nat) (dead : Bool) (hx : IdxB w x t dead) (id : Int) (h : refuseE dead id ≠ 0) :
  Calls Tryz.prog 65 #[.pointer (some ⟨x, 0,none⟩), .int .i64 id] w fun e w' => e = .returned (.int .i64 (refuseE dead id)) ∧ w' = w := by
 have href := refuse_any w x t dead hx id
 have hr' : (refuseE dead id != 0) = true := by simpa using h
 clear h
 generalize refuseE dead id = er at href hr'
 go_enter Tryz.func65,Tryz.ntmps65
 go_wp2_with (go_at_call 58; refine href.mono ?_; rintro e w1 ⟨rfl,rfl⟩)
 go_ret
 exact ⟨rfl,rfl⟩
set_option maxRecDepth 100000 in
set_option maxHeartbeats 2000000 in
theorem idel_go (w : World) (x t : Nat) (hx : IdxB w x t false) (id : Int) (hid : idB id = true) (R : Ending → World → Prop)
  (hdel : Calls Tryz.prog 95 #[.pointer (some ⟨x, 0,none⟩), .int .i64 id] w fun e w' => ∃ er : Int,e = .returned (.int .i64 er) ∧ (∃ dead,IdxB w' x t dead) ∧ R e (mindW w' x er)) :
  Calls Tryz.prog 65 #[.pointer (some ⟨x, 0,none⟩), .int .i64 id] w R := by
 have href := refuse_any w x t false hx id
 have hr0 : refuseE false id = 0 := by unfold refuseE; rw [hid]; rfl
 rw [hr0] at href
 clear hr0 hid hx
 go_enter Tryz.func65,Tryz.ntmps65
 go_wp2_with (first
  | (go_at_call 58; refine href.mono ?_; rintro e w1 ⟨rfl,rfl⟩)
  | (go_at_call 95; refine hdel.mono ?_; rintro e w3 ⟨er,rfl,⟨dd,hx3⟩,hR⟩; have hmi := mind_any w3 x t dd hx3 er)
  | (go_at_call 60; refine hmi.mono ?_; rintro e w4 ⟨rfl,rfl⟩))
 exact hR
end
end Go.Proofs.YtdgbgmffpcooeaaGreat
