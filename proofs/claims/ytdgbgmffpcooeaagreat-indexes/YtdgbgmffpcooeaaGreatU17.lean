/- Pk9 Tr1 Ch1 Ch2 -/
import Derived.Test.YtdgbgmffpcooeaaGreatU16
namespace Go.Proofs.YtdgbgmffpcooeaaGreat
open Go.RowKit Go.Lib Go.Maps
section
theorem Sec.congr {W : World} {g n : Nat} {now now' : Nat → ByteArray} (h : Sec W g n now) (he : ∀ t,t < n → now' t = now t) : Sec W g n now' :=
 ⟨h.blk,fun t ht => by rw [he t ht]; exact h.at_ t ht,fun t ht => by rw [he t ht]; exact h.size t ht⟩
def PS.crash (s : PS) (lk : Nat) (K : Nat → Int) : PS := ⟨s.n,fun t => (keptOld s.old K lk t).getD (s.now t),fun _ => none, -1,false,s.steps⟩
end
end Go.Proofs.YtdgbgmffpcooeaaGreat
namespace Go.Proofs.YtdgbgmffpcooeaaGreat
open Go.RowKit Go.Lib
section
def PS.adv (s : PS) : PS := { s with steps := wrap64 (s.steps + 1) }
theorem PS.live {s : PS} (h : s.brk = false) : s.asked = s := by
 unfold PS.asked
 have : s.broken = false := by unfold PS.brk at h; cases hb : s.broken with
  | false => rfl
  | true => rw [hb] at h; simp at h
 rw [h, ← this]
theorem PS.read_live {s : PS} (h : s.brk = false) {i : Nat} (hi : i < s.n) : s.read (i : Int) = (s.now i, 0,s.adv) := by
 unfold PS.read
 rw [if_neg (by omega),h,PS.live h]; rfl
theorem PS.read_dead {s : PS} (h : s.brk = true) {i : Nat} (hi : i < s.n) : s.read (i : Int) = (ByteArray.empty, 4,s.asked) := by
 unfold PS.read
 rw [if_neg (by omega),h]; rfl
noncomputable def nodesOf (s : PS) (t : Nat) : Option (Node Box) := nodeOf (s.now t).data.toList
def TreeB (W : World) (t : Nat) (A : PA) (f : Value) : Prop := Blk W t 169 #[.pointer (some ⟨A.q, 0,none⟩),f]
set_option maxRecDepth 100000 in
set_option maxHeartbeats 2000000 in
theorem root_dead (w : World) (base : Nat) (A : PA) (s : PS) (h : PD w base A s) (t : Nat) (f : Value) (ht : TreeB w t A f) (hs : s.brk = true) :
  Calls Tryz.prog 100 #[.pointer (some ⟨t, 0,none⟩)] w fun e w' => e = .returned (.tuple #[.int .i64 0, .int .i64 4]) ∧ PD w' base A s.asked ∧ Off A.F w w' := by
 have c0 : w.cell? ⟨t, 0,none⟩ = some (.pointer (some ⟨A.q, 0,none⟩)) := ht.cell 0
 have hcon := pread_any w base A s h 0
 have e := PS.read_dead hs (i := 0) (by have := h.n1; omega)
 rw [show ((0 : Nat) : Int) = 0 from rfl] at e
 rw [e] at hcon
 clear e ht
 go_enter Tryz.func100,Tryz.ntmps100
 go_wp2_with (go_at_call 128; refine hcon.mono ?_; rintro e w1 ⟨rfl,hP,ho⟩)
 go_ret2
 exact ⟨rfl,hP,ho⟩
set_option maxRecDepth 100000 in
set_option maxHeartbeats 2000000 in
theorem root_live (w : World) (base : Nat) (A : PA) (s : PS) (h : PD w base A s) (t : Nat) (f : Value) (ht : TreeB w t A f) (hs : s.brk = false) :
  Calls Tryz.prog 100 #[.pointer (some ⟨t, 0,none⟩)] w fun e w' => e = .returned (match headOf (s.now 0).data.toList with | some r => .tuple #[.int .i64 (r : Int), .int .i64 0] | none => .tuple #[.int .i64 0, .int .i64 7]) ∧ PD w' base A s.adv ∧ Off A.F w w' := by
 have c0 : w.cell? ⟨t, 0,none⟩ = some (.pointer (some ⟨A.q, 0,none⟩)) := ht.cell 0
 have hcon := pread_any w base A s h 0
 have e := PS.read_live hs (i := 0) (by have := h.n1; omega)
 rw [show ((0 : Nat) : Int) = 0 from rfl] at e
 rw [e] at hcon
 have hsz := h.sec.size 0 (by have := h.n1; omega)
 have hrh := fun W => readHead_any W (s.now 0) hsz
 have hh : headOf (s.now 0).data.toList = if (headOf (s.now 0).data.toList).isSome then some (rootOf (s.now 0).data.toList) else none := by
  unfold headOf; split <;> simp
 have HH : Hid _ := hh
 have HF : Hid (∀ k,A.F k → k < w.heap.size) := fun k hk => (h.lt k hk).2
 clear e ht hh h
 generalize rootOf (s.now 0).data.toList = r at hrh HH
 cases hf : (headOf (s.now 0).data.toList).isSome with
 | true =>
  rw [hf] at hrh HH
  have e2 : headOf (s.now 0).data.toList = some r := HH.out
  rw [e2]
  clear HH hf e2
  go_enter Tryz.func100,Tryz.ntmps100
  go_wp2_with (first
   | (go_at_call 128; refine hcon.mono ?_; rintro e w1 ⟨rfl,hP,ho⟩)
   | (go_at_call 129; refine (hrh _).mono ?_; rintro e w2 ⟨rfl,hb⟩))
  go_ret2
  exact ⟨rfl,hP.below hb,ho.trans (Off.of_below hb)⟩
 | false =>
  rw [hf] at hrh HH
  have e2 : headOf (s.now 0).data.toList = none := HH.out
  rw [e2]
  clear HH hf e2
  go_enter Tryz.func100,Tryz.ntmps100
  go_wp2_with (first
   | (go_at_call 128; refine hcon.mono ?_; rintro e w1 ⟨rfl,hP,ho⟩)
   | (go_at_call 129; refine (hrh _).mono ?_; rintro e w2 ⟨rfl,hb⟩))
  go_ret2
  exact ⟨rfl,hP.below hb,ho.trans (Off.of_below hb)⟩
def ReadT (W : World) (base : Nat) (s : PS) (sec : Nat) (e : Ending) : Prop :=
 (∃ v nd,nodesOf s sec = some nd ∧ e = .returned (.tuple #[v, .int .i64 0]) ∧ NodeV W v nd ∧ Fresh base v) ∨ (nodesOf s sec = none ∧ e = .returned (.tuple #[.nilIface, .int .i64 7]))
set_option maxRecDepth 100000 in
set_option maxHeartbeats 2000000 in
theorem tread_live (w : World) (base : Nat) (A : PA) (s : PS) (h : PD w base A s) (t : Nat) (f : Value) (ht : TreeB w t A f) (hs : s.brk = false) (sec : Nat) (hsec : sec < s.n) :
  Calls Tryz.prog 130 #[.pointer (some ⟨t, 0,none⟩), .int .i64 (sec : Int)] w fun e w' => ReadT w' w.heap.size s sec e ∧ PD w' base A s.adv ∧ Off A.F w w' := by
 have c0 : w.cell? ⟨t, 0,none⟩ = some (.pointer (some ⟨A.q, 0,none⟩)) := ht.cell 0
 have hcon := pread_any w base A s h (sec : Int)
 rw [PS.read_live hs hsec] at hcon
 have hsz := h.sec.size sec hsec
 have hrn := fun W => readNode_any W (s.now sec) hsz
 cases hn : nodesOf s sec with
 | some nd =>
  have hrn2 : ∀ W,Calls Tryz.prog 167 #[.string (s.now sec)] W fun e w' => ∃ v,e = .returned (.tuple #[v, .bool true]) ∧ NodeV w' v nd ∧ Fresh W.heap.size v ∧ Below W.heap.size W w' := fun W => (hrn W).mono fun e w' ⟨h1,h2⟩ => by
   rcases h1 with ⟨v,nd',g1,g2,g3,g4⟩ | ⟨g1,_⟩
   ·have : nd' = nd := Option.some.inj (g1.symm.trans hn)
    subst this; exact ⟨v,g2,g3,g4,h2⟩
   ·have : (none : Option (Node Box)) = some nd := g1.symm.trans hn
    cases this
  have HN : Hid (nodesOf s sec = some nd) := hn
  clear hrn hn h ht hs hsec hsz
  go_enter Tryz.func130,Tryz.ntmps130
  go_wp2_with (first
   | (go_at_call 128; refine hcon.mono ?_; rintro e w1 ⟨rfl,hP,ho⟩)
   | (go_at_call 167; refine (hrn2 _).mono ?_; rintro e w2 ⟨v,rfl,hv,hfr,hb⟩))
  go_ret2
  exact ⟨.inl ⟨v,nd,HN.out,rfl,hv,hfr.mono ho.size⟩,hP.below hb,ho.trans (Off.of_below hb)⟩
 | none =>
  have hrn2 : ∀ W,Calls Tryz.prog 167 #[.string (s.now sec)] W fun e w' => ∃ v,e = .returned (.tuple #[v, .bool false]) ∧ Below W.heap.size W w' := fun W => (hrn W).mono fun e w' ⟨h1,h2⟩ => by
   rcases h1 with ⟨v,nd',g1,g2,g3⟩ | ⟨_,v,g2⟩
   ·have : (none : Option (Node Box)) = some nd' := hn.symm.trans g1
    cases this
   ·exact ⟨v,g2,h2⟩
  have HN : Hid (nodesOf s sec = none) := hn
  clear hrn hn h ht hs hsec hsz
  go_enter Tryz.func130,Tryz.ntmps130
  go_wp2_with (first
   | (go_at_call 128; refine hcon.mono ?_; rintro e w1 ⟨rfl,hP,ho⟩)
   | (go_at_call 167; refine (hrn2 _).mono ?_; rintro e w2 ⟨v,rfl,hb⟩))
  go_ret2
  exact ⟨.inr ⟨HN.out,rfl⟩,hP.below hb,ho.trans (Off.of_below hb)⟩
end
end Go.Proofs.YtdgbgmffpcooeaaGreat
namespace Go.Proofs.YtdgbgmffpcooeaaGreat
open Go.RowKit Go.Lib Go.Maps
section
theorem wrap64_add (x : Int) (k : Nat) : wrap64 (wrap64 (x + (k : Int)) + 1) = wrap64 (x + ((k + 1 : Nat) : Int)) := by unfold wrap64; omega
def PS.at_ (s : PS) (k : Nat) : PS := { s with steps := wrap64 (s.steps + (k : Int)) }
theorem PS.at_adv (s : PS) (k : Nat) : (s.at_ k).adv = s.at_ (k + 1) := by unfold PS.at_ PS.adv; simp only [wrap64_add]
theorem PS.at_brk (s : PS) (k : Nat) : (s.at_ k).brk = s.brk := rfl
def nodR (v : Value) : Option (DataW Value × List MemPlace) := some (.held v, [])
structure MadeIs (W : World) (D : DataW Value) (made : Nat → Option (Node Box)) : Prop where
 has_ : ∀ i,i < 4096 → Maps.has D (kl i) = (made i).isSome
 val : ∀ i nd,made i = some nd → ∃ v,NodeV W v nd ∧ ∀ z,D.atKey (kl i) z = .held v
 keys : ∀ k,Maps.has D k = true → ∃ i,i < 4096 ∧ k = kl i
 low : ∀ i nd,made i = some nd → i < 4096
theorem MadeIs.off {F : Nat → Prop} {W W' : World} {D : DataW Value} {made : Nat → Option (Node Box)} (h : MadeIs W D made) (ho : Off F W W') (hF : ∀ b,F b → ¬ RowTag W b) : MadeIs W' D made :=
 ⟨h.has_,fun i nd hi => by obtain ⟨v,h1,h2⟩ := h.val i nd hi; exact ⟨v,h1.off ho hF,h2⟩,h.keys,h.low⟩
abbrev secsV (l : List Nat) : List Value := l.map fun i : Nat => .int .i64 (i : Int)
structure ChS (W : World) (cb c t mb root : Nat) (s : CS Box) (fv lv : Value) : Prop where
 blk : Blk W c 185 #[.pointer (some ⟨t, 0,none⟩), .int .i64 (root : Int), .map (some mb),fv,lv]
 le : cb ≤ c ∧ cb ≤ mb
 free : W.ownsRow cb 3 1 fv s.free.length (secsV s.free)
 left : W.ownsRow cb 3 1 lv s.left.length (secsV s.left)
 ne : ∀ g,fv.ownBlock = some g → lv.ownBlock ≠ some g
 made : ∃ k D,W.ownsMap Tryz.prog 3 nodR mb k D ∧ k ≤ 4096 ∧ MadeIs W D s.made
 few : s.free.length + s.left.length ≤ 100000
def IntTag (W : World) (k : Nat) : Prop := ∃ cs f,W.heap[k]? = some (.cells cs 3 f)
def ChF (W : World) (A : PA) (cb c mb : Nat) (k : Nat) : Prop := A.F k ∨ k = c ∨ k = mb ∨ (cb ≤ k ∧ IntTag W k)
theorem ChF.trans {A : PA} {cb c mb : Nat} {a b d : World} (h : Off (ChF a A cb c mb) a b) (k : Off (ChF b A cb c mb) b d) : Off (ChF a A cb c mb) a d := h.step k fun i hi hg => by
 rcases hg with hg | hg | hg | ⟨h1,cs,f,h2⟩
 ·exact .inl hg
 ·exact .inr (.inl hg)
 ·exact .inr (.inr (.inl hg))
 ·refine Classical.byContradiction fun hn => hn (.inr (.inr (.inr ⟨h1,cs,f, ?_⟩)))
  rw [← h2]; exact (h.block i hi hn).symm
theorem ChF.disk {A : PA} {cb c mb : Nat} {a b : World} (h : Off A.F a b) : Off (ChF a A cb c mb) a b := h.mono fun _ _ hk => .inl hk
theorem nmap_off {F : Nat → Prop} {W W' : World} {m k : Nat} {D : DataW Value} (h : W.ownsMap Tryz.prog 3 nodR m k D) (ho : Off F W W') (hm : ¬ F m) : W'.ownsMap Tryz.prog 3 nodR m k D := by
 obtain ⟨es,c,h1,h2⟩ := h
 exact ⟨es,c,(ho.block m (Array.getElem?_eq_some_iff.1 h1).1 hm).trans h1,h2⟩
theorem PD.norow {W : World} {base : Nat} {A : PA} {s : PS} (h : PD W base A s) : ∀ k,A.F k → ¬ RowTag W k := fun k hk hr => by
 obtain ⟨c,D,⟨es,cc,h1,_⟩,_⟩ := h.map
 obtain ⟨cur,h2,_⟩ := h.sec.blk
 have hp : W.heap[A.p]? = _ := h.blkP
 have hq : W.heap[A.q]? = _ := h.blkQ
 have fin : ∀ tg,(∃ cs,W.heap[k]? = some (.cells cs tg (0, 0))) → tg ≠ 109 → tg ≠ 133 → tg ≠ 135 → False := fun tg ⟨cs,hc⟩ n1 n2 n3 => by
  rcases hk with rfl | rfl | rfl | rfl
  ·rw [hp] at hc; simp only [Option.some.injEq,Obj.cells.injEq] at hc; exact n1 hc.2.1.symm
  ·rw [hq] at hc; simp only [Option.some.injEq,Obj.cells.injEq] at hc; exact n2 hc.2.1.symm
  ·rw [h2] at hc; simp only [Option.some.injEq,Obj.cells.injEq] at hc; exact n3 hc.2.1.symm
  ·rw [h1] at hc; cases hc
 rcases hr with hr | hr
 ·exact fin 156 hr (by decide) (by decide) (by decide)
 ·exact fin 234 hr (by decide) (by decide) (by decide)
structure Cg (W : World) (base : Nat) (A : PA) (s0 : PS) (t : Nat) (f : Value) (cb c mb root : Nat) (s : CS Box) (fv lv : Value) : Prop where
 pd : PD W base A (s0.at_ s.reads)
 tr : TreeB W t A f
 ch : ChS W cb c t mb root s fv lv
 tl : t < cb
 al : ∀ k,A.F k → k < cb
 cl : c < W.heap.size ∧ mb < W.heap.size ∧ cb ≤ W.heap.size
theorem Cg.norow {W : World} {base : Nat} {A : PA} {s0 : PS} {t : Nat} {f : Value} {cb c mb root : Nat} {s : CS Box} {fv lv : Value} (h : Cg W base A s0 t f cb c mb root s fv lv) : ∀ k,ChF W A cb c mb k → ¬ RowTag W k := fun k hk hr => by
 rcases hk with hk | rfl | rfl | ⟨_,cs,ff,hk⟩
 ·exact h.pd.norow k hk hr
 ·have hb : W.heap[k]? = _ := h.ch.blk
  rcases hr with ⟨c2,hr⟩ | ⟨c2,hr⟩ <;> rw [hb] at hr <;> simp at hr
 ·obtain ⟨kk,D,⟨es,c2,hb,_⟩,_⟩ := h.ch.made
  rcases hr with ⟨c2,hr⟩ | ⟨c2,hr⟩ <;> rw [hb] at hr <;> cases hr
 ·rcases hr with ⟨c2,hr⟩ | ⟨c2,hr⟩ <;> rw [hk] at hr <;> simp at hr
theorem ChS.off {F : Nat → Prop} {W W' : World} {cb c t mb root : Nat} {s : CS Box} {fv lv : Value} (h : ChS W cb c t mb root s fv lv) (ho : Off F W W') (hF : ∀ k,F k → k < cb) (hr : ∀ b,F b → ¬ RowTag W b) : ChS W' cb c t mb root s fv lv := by
 obtain ⟨k,D,h1,h2,h3⟩ := h.made
 have hle := h.le
 refine ⟨h.blk.off ho (fun hf => by have := hF _ hf; omega),h.le,own_offv h.free ho (fun g hg hf => ?_),own_offv h.left ho (fun g hg hf => ?_),h.ne,⟨k,D,nmap_off h1 ho (fun hf => by have := hF _ hf; omega),h2,h3.off ho hr⟩,h.few⟩
 ·have := hF _ hf; have := (own_tagged h.free hg).1; omega
 ·have := hF _ hf; have := (own_tagged h.left hg).1; omega
theorem Cg.below {W W' : World} {base : Nat} {A : PA} {s0 : PS} {t : Nat} {f : Value} {cb c mb root : Nat} {s : CS Box} {fv lv : Value} (h : Cg W base A s0 t f cb c mb root s fv lv) (hb : Below W.heap.size W W') : Cg W' base A s0 t f cb c mb root s fv lv :=
 ⟨h.pd.below hb,h.tr.below hb h.tr.lt,h.ch.off (F := fun _ => False) (Off.of_below hb) (fun _ h => h.elim) (fun _ h => h.elim),h.tl,h.al,by have := h.cl; have := hb.size; exact ⟨by omega,by omega,by omega⟩⟩
end
section
section
variable {W W' : World} {base : Nat} {A : PA} {s0 : PS} {t : Nat} {f : Value} {cb c mb root : Nat} {s : CS Box} {fv lv : Value}
theorem Cg.step (h : Cg W base A s0 t f cb c mb root s fv lv) {F : Nat → Prop} (ho : Off F W W') (hF : ∀ k,F k → cb ≤ k) {root' : Nat} {s' : CS Box} {fv' lv' : Value} (hc : ChS W' cb c t mb root' s' fv' lv') (hr : s'.reads = s.reads) : Cg W' base A s0 t f cb c mb root' s' fv' lv' := by
 have hcl := h.cl
 have hs := ho.size
 refine ⟨?_,h.tr.off ho (fun hf => by have := hF _ hf; have := h.tl; omega),hc,h.tl,h.al,⟨by omega,by omega,by omega⟩⟩
 rw [hr]
 exact h.pd.off ho (fun k hk hf => by have := hF _ hf; have := h.al k hk; omega)
theorem ChS.cne (h : ChS W cb c t mb root s fv lv) : mb ≠ c := fun e => by
 obtain ⟨k,D,⟨es,cc,h1,_⟩,_⟩ := h.made
 have hb : W.heap[c]? = _ := h.blk
 rw [e,hb] at h1; cases h1
theorem notrow {W : World} {b tg : Nat} {cs : Array Value} {ff : Nat × Nat} (h : W.heap[b]? = some (.cells cs tg ff)) (h1 : tg ≠ 156) (h2 : tg ≠ 234) : ¬ RowTag W b := fun hr => by
 rcases hr with ⟨c2,hr⟩ | ⟨c2,hr⟩ <;> rw [h] at hr <;> simp only [Option.some.injEq,Obj.cells.injEq] at hr
 ·exact h1 hr.2.1
 ·exact h2 hr.2.1
theorem Cg.cell (h : Cg W base A s0 t f cb c mb root s fv lv) (i : Nat) (u : Value) {root' : Nat} {fv' lv' : Value} (hcs : (#[.pointer (some ⟨t, 0,none⟩), .int .i64 (root : Int), .map (some mb),fv,lv] : Array Value).setIfInBounds i u = #[.pointer (some ⟨t, 0,none⟩), .int .i64 (root' : Int), .map (some mb),fv',lv']) {s' : CS Box} (hm : s'.made = s.made) (hr : s'.reads = s.reads) (hfree : W.ownsRow cb 3 1 fv' s'.free.length (secsV s'.free)) (hleft : W.ownsRow cb 3 1 lv' s'.left.length (secsV s'.left)) (hne : ∀ g,fv'.ownBlock = some g → lv'.ownBlock ≠ some g) (hfew : s'.free.length + s'.left.length ≤ 100000) :
  Cg (W.setCell ⟨c,i,none⟩ u) base A s0 t f cb c mb root' s' fv' lv' ∧ Off (ChF W A cb c mb) W (W.setCell ⟨c,i,none⟩ u) := by
 obtain ⟨k,D,m1,m2,m3⟩ := h.ch.made
 have hb := h.ch.blk.set i u
 rw [hcs] at hb
 have ho : Off (fun k => k = c) W (W.setCell ⟨c,i,none⟩ u) := Off.one W u
 refine ⟨h.step ho (fun k hk => by rw [hk]; exact h.ch.le.1) ⟨hb,h.ch.le,own_other hfree h.ch.blk (by decide) u,own_other hleft h.ch.blk (by decide) u,hne,⟨k,D,nmap_off m1 ho h.ch.cne,m2,by rw [hm]; exact m3.off ho (fun b hb => by rw [hb]; exact notrow h.ch.blk (by decide) (by decide))⟩,hfew⟩ hr,ho.mono (fun k _ hk => .inr (.inl hk))⟩
theorem Cg.grown (h : Cg W base A s0 t f cb c mb root s fv lv) {ob : Obj} {row : Option Nat} {w4 : World} (hg : (W.alloc ob).grownBy w4 row) (hrow : ∀ j,row = some j → cb ≤ j ∧ IntTag W j) :
  Off (ChF W A cb c mb) W w4 ∧ Off (fun k => row = some k) W w4 ∧ Blk w4 c 185 #[.pointer (some ⟨t, 0,none⟩), .int .i64 (root : Int), .map (some mb),fv,lv] ∧ PD w4 base A (s0.at_ s.reads) ∧ TreeB w4 t A f ∧ (∃ k D,w4.ownsMap Tryz.prog 3 nodR mb k D ∧ k ≤ 4096 ∧ MadeIs w4 D s.made) ∧ (∀ v n xs,W.ownsRow cb 3 1 v n xs → (∀ g,v.ownBlock = some g → row ≠ some g) → w4.ownsRow cb 3 1 v n xs) := by
 have ho : Off (fun k => row = some k) W w4 := ((Off.refl _ W).alloc ob).grown hg (fun j hj => .inl hj)
 obtain ⟨k,D,m1,m2,m3⟩ := h.ch.made
 refine ⟨ho.mono (fun k _ hk => .inr (.inr (.inr (hrow k hk)))),ho,h.ch.blk.off ho (fun hf => ?_),h.pd.off ho (fun k hk hf => ?_),h.tr.off ho (fun hf => ?_),⟨k,D,nmap_off m1 ho (fun hf => ?_),m2,m3.off ho (fun b hb => ?_)⟩,fun v n xs hv hne => own_offv hv ho hne⟩
 ·obtain ⟨_,cs,ff,h2⟩ := hrow _ hf
  have hb : W.heap[c]? = _ := h.ch.blk
  rw [hb] at h2; simp at h2
 ·have := (hrow _ hf).1; have := h.al k hk; omega
 ·have := (hrow _ hf).1; have := h.tl; omega
 ·obtain ⟨_,cs,ff,h2⟩ := hrow _ hf
  obtain ⟨es,cc,h3,_⟩ := m1
  rw [h3] at h2; cases h2
 ·obtain ⟨_,cs,ff,h2⟩ := hrow _ hb
  exact notrow h2 (by decide) (by decide)
theorem Cg.freeRow (h : Cg W base A s0 t f cb c mb root s fv lv) : ∀ j,fv.ownBlock = some j → cb ≤ j ∧ IntTag W j := fun j hj => by
 obtain ⟨h1,cs,h2⟩ := own_tagged h.ch.free hj
 exact ⟨h1,cs,_,h2⟩
theorem Cg.leftRow (h : Cg W base A s0 t f cb c mb root s fv lv) : ∀ j,lv.ownBlock = some j → cb ≤ j ∧ IntTag W j := fun j hj => by
 obtain ⟨h1,cs,h2⟩ := own_tagged h.ch.left hj
 exact ⟨h1,cs,_,h2⟩
theorem Cg.freeApp (h : Cg W base A s0 t f cb c mb root s fv lv) {ob : Obj} {w4 : World} {gg capp sec : Nat} (hg : (W.alloc ob).grownBy w4 fv.ownBlock) (hat : fv.ownBlock = some gg ∨ gg = W.heap.size + 1) (hown : w4.ownsRow cb 3 1 (.slice (some ⟨gg, 0,none⟩) (s.free.length + 1) capp) (s.free.length + 1) (secsV s.free ++ [.int .i64 (sec : Int)])) (hfew : s.free.length + s.left.length + 1 ≤ 100000) :
  w4.cell? ⟨c, 3,none⟩ = some fv ∧ w4.frozen? ⟨c, 3,none⟩ = false ∧ Cg (w4.setCell ⟨c, 3,none⟩ (.slice (some ⟨gg, 0,none⟩) (s.free.length + 1) capp)) base A s0 t f cb c mb root { s with free := s.free ++ [sec] } (.slice (some ⟨gg, 0,none⟩) (s.free.length + 1) capp) lv ∧ Off (ChF W A cb c mb) W (w4.setCell ⟨c, 3,none⟩ (.slice (some ⟨gg, 0,none⟩) (s.free.length + 1) capp)) := by
 obtain ⟨o1,o2,hb,hp,ht,hm,hrows⟩ := h.grown hg h.freeRow
 have hcl := h.cl
 have hsz := o1.size
 have hleft := hrows lv _ _ h.ch.left (fun g hg hf => h.ch.ne g hf hg)
 have hne : ∀ g,(Value.slice (some ⟨gg, 0,none⟩) (s.free.length + 1) capp).ownBlock = some g → lv.ownBlock ≠ some g := fun g hg hl => by
  simp only [Value.ownBlock,Option.some.injEq] at hg
  subst hg
  rcases hat with e | e
  ·exact h.ch.ne gg e hl
  ·obtain ⟨_,cs,h2⟩ := own_tagged h.ch.left hl
   have := (Array.getElem?_eq_some_iff.1 h2).1
   omega
 have hfree : w4.ownsRow cb 3 1 (.slice (some ⟨gg, 0,none⟩) (s.free.length + 1) capp) (s.free ++ [sec]).length (secsV (s.free ++ [sec])) := by
  rw [List.length_append]
  show w4.ownsRow cb 3 1 _ _ (secsV (s.free ++ [sec]))
  rw [secsV,List.map_append]
  exact hown
 refine ⟨hb.cell 3,hb.frozen 3, ?_⟩
 -- the change with its grown row,ahead of the store
 have ob2 := own_other hfree hb (by decide) (i := 3) (.slice (some ⟨gg, 0,none⟩) (s.free.length + 1) capp)
 have ol2 := own_other hleft hb (by decide) (i := 3) (.slice (some ⟨gg, 0,none⟩) (s.free.length + 1) capp)
 obtain ⟨k,D,m1,m2,m3⟩ := hm
 have hnr : ¬ RowTag w4 c := notrow hb (by decide) (by decide)
 have ho : Off (fun k => k = c) w4 (w4.setCell ⟨c, 3,none⟩ (.slice (some ⟨gg, 0,none⟩) (s.free.length + 1) capp)) := Off.one w4 _
 refine ⟨⟨hp.off ho (fun k hk hf => by have := h.al k hk; have := h.ch.le; omega),ht.off ho (by have := h.tl; have := h.ch.le; omega),⟨hb.set 3 _,h.ch.le,ob2,ol2,hne,⟨k,D,nmap_off m1 ho h.ch.cne,m2,m3.off ho (fun b hb' => by rw [hb']; exact hnr)⟩,by simp only [List.length_append,List.length_singleton]; omega⟩,h.tl,h.al,⟨?_, ?_, ?_⟩⟩,o1.step ho (fun i _ hi => .inr (.inl hi))⟩
 all_goals (have := ho.size; omega)
theorem Cg.leftApp (h : Cg W base A s0 t f cb c mb root s fv lv) {ob : Obj} {w4 : World} {gg capp sec : Nat} (hg : (W.alloc ob).grownBy w4 lv.ownBlock) (hat : lv.ownBlock = some gg ∨ gg = W.heap.size + 1) (hown : w4.ownsRow cb 3 1 (.slice (some ⟨gg, 0,none⟩) (s.left.length + 1) capp) (s.left.length + 1) (secsV s.left ++ [.int .i64 (sec : Int)])) (hfew : s.free.length + s.left.length + 1 ≤ 100000) :
  w4.cell? ⟨c, 4,none⟩ = some lv ∧ w4.frozen? ⟨c, 4,none⟩ = false ∧ Cg (w4.setCell ⟨c, 4,none⟩ (.slice (some ⟨gg, 0,none⟩) (s.left.length + 1) capp)) base A s0 t f cb c mb root { s with left := s.left ++ [sec] } fv (.slice (some ⟨gg, 0,none⟩) (s.left.length + 1) capp) ∧ Off (ChF W A cb c mb) W (w4.setCell ⟨c, 4,none⟩ (.slice (some ⟨gg, 0,none⟩) (s.left.length + 1) capp)) := by
 obtain ⟨o1,o2,hb,hp,ht,hm,hrows⟩ := h.grown hg h.leftRow
 have hcl := h.cl
 have hsz := o1.size
 have hfree := hrows fv _ _ h.ch.free (fun g hg hf => h.ch.ne g hg hf)
 have hne : ∀ g,fv.ownBlock = some g → (Value.slice (some ⟨gg, 0,none⟩) (s.left.length + 1) capp).ownBlock ≠ some g := fun g hl hg => by
  simp only [Value.ownBlock,Option.some.injEq] at hg
  subst hg
  rcases hat with e | e
  ·exact h.ch.ne gg hl e
  ·obtain ⟨_,cs,h2⟩ := own_tagged h.ch.free hl
   have := (Array.getElem?_eq_some_iff.1 h2).1
   omega
 have hleft : w4.ownsRow cb 3 1 (.slice (some ⟨gg, 0,none⟩) (s.left.length + 1) capp) (s.left ++ [sec]).length (secsV (s.left ++ [sec])) := by
  rw [List.length_append]
  show w4.ownsRow cb 3 1 _ _ (secsV (s.left ++ [sec]))
  rw [secsV,List.map_append]
  exact hown
 refine ⟨hb.cell 4,hb.frozen 4, ?_⟩
 -- the change with its grown row,ahead of the store
 have ob2 := own_other hfree hb (by decide) (i := 4) (.slice (some ⟨gg, 0,none⟩) (s.left.length + 1) capp)
 have ol2 := own_other hleft hb (by decide) (i := 4) (.slice (some ⟨gg, 0,none⟩) (s.left.length + 1) capp)
 obtain ⟨k,D,m1,m2,m3⟩ := hm
 have hnr : ¬ RowTag w4 c := notrow hb (by decide) (by decide)
 have ho : Off (fun k => k = c) w4 (w4.setCell ⟨c, 4,none⟩ (.slice (some ⟨gg, 0,none⟩) (s.left.length + 1) capp)) := Off.one w4 _
 refine ⟨⟨hp.off ho (fun k hk hf => by have := h.al k hk; have := h.ch.le; omega),ht.off ho (by have := h.tl; have := h.ch.le; omega),⟨hb.set 4 _,h.ch.le,ob2,ol2,hne,⟨k,D,nmap_off m1 ho h.ch.cne,m2,m3.off ho (fun b hb' => by rw [hb']; exact hnr)⟩,by simp only [List.length_append,List.length_singleton]; omega⟩,h.tl,h.al,⟨?_, ?_, ?_⟩⟩,o1.step ho (fun i _ hi => .inr (.inl hi))⟩
 all_goals (have := ho.size; omega)
theorem nmap_tight {W : World} {m k : Nat} {D : DataW Value} {made : Nat → Option (Node Box)} {W0 : World} (hown : W.ownsMap Tryz.prog 3 nodR m k D) (h : MadeIs W0 D made) : W.ownsMap Tryz.prog 3 nodR m 4096 D := by
 obtain ⟨es',e',hpw,hkl⟩ := hown.entries (int_keyed Tryz.underlying3)
 obtain ⟨es,c,h1,h2,h3,h4⟩ := hown
 refine ⟨es,c,h1,h2, ?_,h4⟩
 have hlen := length_read (P := Tryz.prog) (k := 3) (R0 := nodR) es
 rw [h4] at e'
 injection e' with e'
 have hes : es'.length ≤ 4096 := by
  have hk : ∀ p ∈ es', ∃ i,i < 4096 ∧ p.1 = kl i := fun p hp => by
   refine h.keys p.1 ?_
   rw [h4,e',has_eq,List.any_eq_true]
   obtain ⟨p1,p2⟩ := p
   refine ⟨(p1,p2),hp, ?_⟩
   have := hkl (p1,p2) hp
   cases p1 <;> simp_all [WideAt.IsKeyLit,Lit.sameKey]
  have hb := nodup_lt 4096 (es'.map fun p => litN p.1) ?_ ?_
  ·simpa using hb
  ·refine List.pairwise_map.2 (List.Pairwise.imp_of_mem ?_ hpw)
   intro a b ha hb hab e
   obtain ⟨i,_,hi⟩ := hk a ha
   obtain ⟨j,_,hj⟩ := hk b hb
   rw [hi,hj] at hab e
   have hij : i = j := by simpa [litN] using e
   rw [hij] at hab
   simp at hab
  ·intro x hx
   obtain ⟨p,hp,rfl⟩ := List.mem_map.1 hx
   obtain ⟨i,hi,e⟩ := hk p hp
   rw [e]
   simpa [litN] using hi
 rw [← e'] at hes
 omega
theorem kl_ne' {i j : Nat} (h : i ≠ j) : kl i ≠ kl j := fun e => h (kl_inj e)
theorem MadeIs.del {W : World} {D : DataW Value} {made : Nat → Option (Node Box)} (h : MadeIs W D made) (sec : Nat) : MadeIs W (D.del (kl sec)) (upd2 made sec none) := by
 refine ⟨fun i hi => ?_,fun i nd hn => ?_,fun k hk => ?_,fun i nd hn => ?_⟩
 ·by_cases e : i = sec
  ·subst e; rw [has_del_same]; simp [upd2]
  ·rw [has_del_other (kl_ne' e),h.has_ i hi]; simp [upd2,e]
 ·by_cases e : i = sec
  ·subst e; simp [upd2] at hn
  ·simp only [upd2,e,if_false] at hn
   obtain ⟨v,h1,h2⟩ := h.val i nd hn
   exact ⟨v,h1,fun z => by rw [atKey_del_other (kl_ne' e)]; exact h2 z⟩
 ·refine h.keys k ?_
  by_cases e : k = kl sec
  ·subst e; rw [has_del_same] at hk; cases hk
  ·rw [has_del_other e] at hk; exact hk
 ·by_cases e : i = sec
  ·subst e; simp [upd2] at hn
  ·simp only [upd2,e,if_false] at hn; exact h.low i nd hn
theorem MadeIs.put {W : World} {D : DataW Value} {made : Nat → Option (Node Box)} (h : MadeIs W D made) (hD : IsMap D) {sec : Nat} (hs : sec < 4096) {v : Value} {nd : Node Box} (hv : NodeV W v nd) : MadeIs W (D.put (kl sec) (.held v)) (upd2 made sec (some nd)) := by
 have hkl : WideAt.IsKeyLit (kl sec) := trivial
 refine ⟨fun i hi => ?_,fun i n hn => ?_,fun k hk => ?_,fun i n hn => ?_⟩
 ·by_cases e : i = sec
  ·subst e; rw [has_put_same hD hkl]; simp [upd2]
  ·rw [has_put_other (kl_ne' e),h.has_ i hi]; simp [upd2,e]
 ·by_cases e : i = sec
  ·subst e
   simp only [upd2,if_true,Option.some.injEq] at hn
   subst hn
   exact ⟨v,hv,fun z => atKey_put_same hD hkl _ z⟩
  ·simp only [upd2,e,if_false] at hn
   obtain ⟨v',h1,h2⟩ := h.val i n hn
   exact ⟨v',h1,fun z => by rw [atKey_put_other (kl_ne' e)]; exact h2 z⟩
 ·by_cases e : k = kl sec
  ·exact ⟨sec,hs,e⟩
  ·rw [has_put_other e] at hk; exact h.keys k hk
 ·by_cases e : i = sec
  ·subst e; exact hs
  ·simp only [upd2,e,if_false] at hn; exact h.low i n hn
theorem Cg.turned (h : Cg W base A s0 t f cb c mb root s fv lv) {w4 : World} (hg : W.grownBy w4 (some mb)) {k : Nat} {D' : DataW Value} {made' : Nat → Option (Node Box)} (hm : w4.ownsMap Tryz.prog 3 nodR mb k D') (hk : k ≤ 4096) (hd : MadeIs W D' made') : Cg w4 base A s0 t f cb c mb root { s with made := made' } fv lv ∧ Off (ChF W A cb c mb) W w4 := by
 have ho : Off (fun k => k = mb) W w4 := (Off.refl _ W).grown hg (fun j hj => .inl (by cases hj; rfl))
 have hmap : ∃ es cc,W.heap[mb]? = some (.map es cc) := by obtain ⟨_,_,⟨es,cc,h1,_⟩,_⟩ := h.ch.made; exact ⟨es,cc,h1⟩
 obtain ⟨es,cc,hmb⟩ := hmap
 have hcell : ∀ g tg cs ff,W.heap[g]? = some (.cells cs tg ff) → ¬ g = mb := fun g tg cs ff h1 e => by rw [e,hmb] at h1; cases h1
 refine ⟨h.step ho (fun k hk => by rw [hk]; exact h.ch.le.2) ⟨h.ch.blk.off ho (Ne.symm h.ch.cne),h.ch.le,own_offv h.ch.free ho (fun g hg => ?_),own_offv h.ch.left ho (fun g hg => ?_),h.ch.ne,⟨k,D',hm,hk,hd.off ho (fun b hb => ?_)⟩,h.ch.few⟩ rfl,ho.mono (fun k _ hk => .inr (.inr (.inl hk)))⟩
 ·obtain ⟨_,cs,h1⟩ := own_tagged h.ch.free hg; exact hcell g 3 cs _ h1
 ·obtain ⟨_,cs,h1⟩ := own_tagged h.ch.left hg; exact hcell g 3 cs _ h1
 ·rw [hb]
  rintro (⟨c2,hr⟩ | ⟨c2,hr⟩) <;> rw [hmb] at hr <;> cases hr
end
end
end Go.Proofs.YtdgbgmffpcooeaaGreat
