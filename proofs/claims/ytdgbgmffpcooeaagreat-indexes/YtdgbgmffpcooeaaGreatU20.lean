/- Ch4 Ch5 -/
import Derived.Test.YtdgbgmffpcooeaaGreatU18
namespace Go.Proofs.YtdgbgmffpcooeaaGreat
open Go.RowKit Go.Lib Go.Maps
section
def PU (W : World) (a : Option Addr) (ps : List (Node Box)) : Prop := ∀ (i : Nat) (p : Node Box),ps[i]? = some p → ∃ (g : Nat) (vs : Array Value) (v : Value),a = some ⟨g, 0,none⟩ ∧ Blk W g 175 vs ∧ vs[i]? = some v ∧ NodeV W v p
theorem PU.of {W : World} {pv : Value} {ps : List (Node Box)} (h : PartsV W pv ps) : ∃ a,pv = .slice a ps.length ps.length ∧ PU W a ps := by
 rcases h with ⟨rfl,rfl⟩ | ⟨g,v,p,rfl,rfl,hb,hv⟩ | ⟨g,v,v',p,p',rfl,rfl,hb,hv,hv'⟩
 ·exact ⟨none,rfl,fun i p hp => by simp at hp⟩
 ·refine ⟨_,rfl,fun i q hq => ?_⟩
  have hi : i = 0 := by have := (List.getElem?_eq_some_iff.1 hq).1; simp at this; omega
  subst hi
  simp at hq
  subst hq
  exact ⟨g,_,v,rfl,hb,rfl,hv⟩
 ·refine ⟨_,rfl,fun i q hq => ?_⟩
  have hi : i = 0 ∨ i = 1 := by have := (List.getElem?_eq_some_iff.1 hq).1; simp at this; omega
  rcases hi with rfl | rfl
  ·simp at hq; subst hq; exact ⟨g,_,v,rfl,hb,rfl,hv⟩
  ·simp at hq; subst hq; exact ⟨g,_,v',rfl,hb,rfl,hv'⟩
theorem PU.off {F : Nat → Prop} {W W' : World} {a : Option Addr} {ps : List (Node Box)} (h : PU W a ps) (ho : Off F W W') (hF : ∀ b,F b → ¬ RowTag W b) (h5 : ∀ b,F b → ¬ TagAt W 175 b) : PU W' a ps := fun i p hp => by
 obtain ⟨g,vs,v,h1,h2,h3,h4⟩ := h i p hp
 exact ⟨g,vs,v,h1,h2.off ho (fun hf => h5 g hf ⟨vs,h2⟩),h3,h4.off ho hF⟩
theorem Cg.not175 {W : World} {base : Nat} {A : PA} {s0 : PS} {t : Nat} {f : Value} {cb c mb root : Nat} {s : CS Box} {fv lv : Value} (h : Cg W base A s0 t f cb c mb root s fv lv) {tg : Nat} (h3 : tg ≠ 3) (h185 : tg ≠ 185) (h109 : tg ≠ 109) (h133 : tg ≠ 133) (h135 : tg ≠ 135) : ∀ k,ChF W A cb c mb k → ¬ TagAt W tg k := fun k hk ⟨cs,hc⟩ => by
 obtain ⟨_,_,⟨es,cc,m1,_⟩,_⟩ := h.pd.map
 obtain ⟨cur,b1,_⟩ := h.pd.sec.blk
 have p1 : W.heap[A.p]? = _ := h.pd.blkP
 have q1 : W.heap[A.q]? = _ := h.pd.blkQ
 obtain ⟨_,_,⟨es2,cc2,m2,_⟩,_⟩ := h.ch.made
 have cb1 : W.heap[c]? = _ := h.ch.blk
 rcases hk with (rfl | rfl | rfl | rfl) | rfl | rfl | ⟨_,cs',ff,hi⟩
 ·rw [p1] at hc; simp only [Option.some.injEq,Obj.cells.injEq] at hc; exact h109 hc.2.1.symm
 ·rw [q1] at hc; simp only [Option.some.injEq,Obj.cells.injEq] at hc; exact h133 hc.2.1.symm
 ·rw [b1] at hc; simp only [Option.some.injEq,Obj.cells.injEq] at hc; exact h135 hc.2.1.symm
 ·rw [m1] at hc; cases hc
 ·rw [cb1] at hc; simp only [Option.some.injEq,Obj.cells.injEq] at hc; exact h185 hc.2.1.symm
 ·rw [m2] at hc; cases hc
 ·rw [hi] at hc; simp only [Option.some.injEq,Obj.cells.injEq] at hc; exact h3 hc.2.1.symm
theorem keepL_snoc {V : Type} : ∀ (a : List (Node V)) (p : Node V) (s : CS V),keepL (a ++ [p]) s = (keepL a s).bind fun x => (keep1 x.2 p).bind fun y => .ok (x.1 ++ [y.1],y.2)
 | [],p,s => by
  simp only [List.nil_append,keepL,Res.ok_bind]
 | q :: a,p,s => by
  simp only [List.cons_append,keepL]
  cases keep1 s q with
  | ok y =>
   simp only [Res.ok_bind]
   rw [keepL_snoc a p y.2]
   cases keepL a y.2 with
   | ok z =>
    simp only [Res.ok_bind]
    cases keep1 z.2 p with
    | ok u => simp only [Res.ok_bind,List.cons_append]
    | space => rfl
    | bad => rfl
   | space => rfl
   | bad => rfl
  | space => rfl
  | bad => rfl
theorem keepL_space {V : Type} : ∀ (a : List (Node V)) (p : Node V) (r : List (Node V)) (s : CS V) (x : List (Key × Nat) × CS V),keepL a s = .ok x → keep1 x.2 p = .space → keepL (a ++ p :: r) s = .space
 | [],p,r,s,x,h,hp => by
  simp only [keepL,Res.ok.injEq] at h
  subst h
  simp only [List.nil_append,keepL]
  simp only at hp
  rw [hp]; rfl
 | q :: a,p,r,s,x,h,hp => by
  simp only [List.cons_append,keepL] at h ⊢
  cases hq : keep1 s q with
  | ok y =>
   rw [hq] at h
   simp only [Res.ok_bind] at h ⊢
   cases hz : keepL a y.2 with
   | ok z =>
    rw [hz] at h
    simp only [Res.ok_bind,Res.ok.injEq] at h
    subst h
    rw [keepL_space a p r y.2 z hz hp]; rfl
   | space => rw [hz] at h; cases h
   | bad => rw [hz] at h; cases h
  | space => rw [hq] at h; cases h
  | bad => rw [hq] at h; cases h
theorem own_pop {W : World} {base : Nat} {e : TypeId} {a : Option Addr} {n cap : Nat} {xs : List Value} (h : W.ownsRow base e 1 (.slice a (n + 1) cap) (n + 1) xs) : W.ownsRow base e 1 (.slice a n cap) n (xs.take n) := by
 obtain ⟨h0,⟨h1,h2⟩ | ⟨g,cap',cur,h1,h2,h3,h4,h5,h6,h7⟩⟩ := h
 ·cases h2
 ·cases h1
  refine ⟨by rw [List.length_take,h0]; omega, .inr ⟨g,cap,cur,rfl,h2,h3,by omega,h5,h6, ?_⟩⟩
  rw [← h7,List.take_take]; congr 1; omega
def KeepP (w : World) (base : Nat) (A : PA) (s0 : PS) (t : Nat) (f : Value) (cb c mb root : Nat) (s : CS Box) (res : Res (List (Key × Nat) × CS Box)) (e : Ending) (w' : World) : Prop :=
 Off (ChF w A cb c mb) w w' ∧ match res with
 | .ok x => ∃ v fv' lv',e = .returned (.tuple #[v, .int .i64 0]) ∧ RowS w' v x.1 ∧ Cg w' base A s0 t f cb c mb root x.2 fv' lv'
 | .space => e = .returned (.tuple #[.slice none 0 0, .int .i64 10]) ∧ ∃ s'' fv' lv',Cg w' base A s0 t f cb c mb root s'' fv' lv' ∧ s''.reads = s.reads
 | .bad => False
structure KeepI (w wr : World) (base : Nat) (A : PA) (s0 : PS) (t : Nat) (f : Value) (cb c mb root : Nat) (s : CS Box) (ps : List (Node Box)) (i : Nat) (q : List (Key × Nat)) (si : CS Box) (fv lv kv : Value) : Prop where
 run : keepL (ps.take i) s = .ok (q,si)
 cg : Cg wr base A s0 t f cb c mb root si fv lv
 md : ∃ k D,wr.ownsMap Tryz.prog 3 nodR mb k D ∧ k ≤ 4096 ∧ MadeIs w D si.made
 row : wr.ownsRow w.heap.size 234 3 kv q.length (flat pkS q)
 off : Off (ChF w A cb c mb) w wr
 qi : q.length = i
 rd : si.reads = s.reads
 fr : ∀ x ∈ si.free,x ∈ s.free
theorem free_sub {s si : CS Box} {sec : Nat} {l : List Nat} (h : si.free = l ++ [sec]) (hf : ∀ x ∈ si.free,x ∈ s.free) : (∀ x ∈ l,x ∈ s.free) ∧ sec ∈ s.free := ⟨fun x hx => hf x (by rw [h]; simp [hx]),hf sec (by rw [h]; simp)⟩
theorem keep1_some {s : CS Box} {l : List Nat} {sec : Nat} (h : s.free = l ++ [sec]) (p : Node Box) : keep1 s p = .ok ((p.fk,sec), { s with free := l,made := upd2 s.made sec (some p),puts := s.puts + 1 }) := by
 unfold keep1; rw [h]; simp
theorem keep1_none {s : CS Box} (h : s.free = []) (p : Node Box) : keep1 s p = .space := by
 unfold keep1; rw [h]; rfl
section
variable {W W' : World} {base : Nat} {A : PA} {s0 : PS} {t : Nat} {f : Value} {cb c mb root : Nat} {s : CS Box} {fv lv : Value}
theorem Cg.puts (h : Cg W base A s0 t f cb c mb root s fv lv) (n : Nat) : Cg W base A s0 t f cb c mb root { s with puts := n } fv lv :=
 ⟨h.pd,h.tr,⟨h.ch.blk,h.ch.le,h.ch.free,h.ch.left,h.ch.ne,h.ch.made,h.ch.few⟩,h.tl,h.al,h.cl⟩
theorem Cg.pop {fg fc sec : Nat} {l : List Nat} (h : Cg W base A s0 t f cb c mb root s (.slice (some ⟨fg, 0,none⟩) (l.length + 1) fc) lv) (hf : s.free = l ++ [sec]) :
  Cg (W.setCell ⟨c, 3,none⟩ (.slice (some ⟨fg, 0,none⟩) l.length fc)) base A s0 t f cb c mb root { s with free := l } (.slice (some ⟨fg, 0,none⟩) l.length fc) lv ∧ Off (ChF W A cb c mb) W (W.setCell ⟨c, 3,none⟩ (.slice (some ⟨fg, 0,none⟩) l.length fc)) := by
 have hfr := h.ch.free
 have hfew := h.ch.few
 rw [hf] at hfr hfew
 simp only [List.length_append,List.length_singleton] at hfr hfew
 have h1 := own_pop hfr
 have e : (secsV (l ++ [sec])).take l.length = secsV l := by rw [secsV,List.map_append]; exact List.take_left' (by simp)
 rw [e] at h1
 exact h.cell 3 _ rfl (s' := { s with free := l }) rfl rfl h1 h.ch.left (fun g hg => h.ch.ne g hg) (by show l.length + s.left.length ≤ 100000; omega)
theorem Cg.freeForm (h : Cg W base A s0 t f cb c mb root s fv lv) {l : List Nat} {sec : Nat} (hf : s.free = l ++ [sec]) : ∃ fg fc,fv = .slice (some ⟨fg, 0,none⟩) (l.length + 1) fc ∧ l.length + 1 ≤ fc ∧ fc ≤ maxLen ∧ W.cell? ⟨fg,l.length,none⟩ = some (.int .i64 (sec : Int)) := by
 have hfr := h.ch.free
 rw [hf] at hfr
 simp only [List.length_append,List.length_singleton] at hfr
 have h2 := hfr
 obtain ⟨h0,⟨h1,h2'⟩ | ⟨g,cap',cur,rfl,h2',h3,h4,h5,h6,h7⟩⟩ := h2
 ·cases h2'
 ·refine ⟨g,cap',rfl,h4,h5, ?_⟩
  have := (own_cell hfr l.length (by omega)).1
  rw [this,secsV,List.map_append]
  simp
theorem Cg.rowApp (h : Cg W base A s0 t f cb c mb root s fv lv) {F : Nat → Prop} (ho : Off F W W') (hF : ∀ k,F k → TagAt W 234 k ∨ W.heap.size ≤ k) {k : Nat} {D : DataW Value} (hm : W.ownsMap Tryz.prog 3 nodR mb k D) (hk : k ≤ 4096) (hd : MadeIs W' D s.made) : Cg W' base A s0 t f cb c mb root s fv lv := by
 have hno : ∀ b tg cs ff,W.heap[b]? = some (.cells cs tg ff) → tg ≠ 234 → ¬ F b := fun b tg cs ff hb hne hf => by
  rcases hF b hf with ⟨cs',h1⟩ | h1
  ·rw [hb] at h1; simp only [Option.some.injEq,Obj.cells.injEq] at h1; exact hne h1.2.1
  ·have := (Array.getElem?_eq_some_iff.1 hb).1; omega
 have hcl := h.cl
 have hsz := ho.size
 refine ⟨h.pd.off ho (fun k hk hf => ?_),h.tr.off ho (fun hf => hno t _ _ _ h.tr (by decide) hf),⟨h.ch.blk.off ho (fun hf => hno c _ _ _ h.ch.blk (by decide) hf),h.ch.le,own_offv h.ch.free ho (fun g hg hf => ?_),own_offv h.ch.left ho (fun g hg hf => ?_),h.ch.ne,⟨k,D,nmap_off hm ho (fun hf => ?_),hk,hd⟩,h.ch.few⟩,h.tl,h.al,⟨by omega,by omega,by omega⟩⟩
 ·rcases hF k hf with h1 | h1
  ·exact h.pd.norow k hk (.inr h1)
  ·have := h.al k hk; omega
 ·obtain ⟨_,cs,h1⟩ := own_tagged h.ch.free hg; exact hno g 3 cs _ h1 (by decide) hf
 ·obtain ⟨_,cs,h1⟩ := own_tagged h.ch.left hg; exact hno g 3 cs _ h1 (by decide) hf
 ·obtain ⟨es,cc,h3,_⟩ := hm
  rcases hF mb hf with ⟨cs',h1⟩ | h1
  ·rw [h3] at h1; cases h1
  ·omega
end
theorem parts_cases (n : Node Box) : n.parts = [] ∨ (n.parts = [n] ∧ 0 < n.size) ∨ (n.parts = [n.tk (n.size / 2),n.dp (n.size / 2)] ∧ 10 < n.size) := by
 unfold Node.parts
 by_cases h0 : n.size = 0
 ·rw [if_pos h0]; exact .inl rfl
 ·rw [if_neg h0]
  by_cases h1 : n.size ≤ n.most
  ·rw [if_pos h1]; exact .inr (.inl ⟨rfl,by omega⟩)
  ·rw [if_neg h1]; exact .inr (.inr ⟨rfl,by rcases n.most_cases with e | e <;> omega⟩)
theorem leaf_parts (r : List (Key × Box)) : (∀ p ∈ (Node.leaf r : Node Box).parts, ∃ x q,p = .leaf (x :: q)) ∧ (Node.leaf r : Node Box).parts.length ≤ 2 := by
 have hc : ∀ l : List (Key × Box), 0 < l.length → ∃ x q,(Node.leaf l : Node Box) = .leaf (x :: q) := fun l hl => by
  cases l with
  | nil => simp at hl
  | cons x q => exact ⟨x,q,rfl⟩
 rcases parts_cases (.leaf r) with e | ⟨e,hl⟩ | ⟨e,hl⟩ <;> rw [e] <;> try simp only [Node.size] at *
 ·simp
 ·exact ⟨fun p hp => by rw [List.mem_singleton.1 hp]; exact hc r hl,by simp⟩
 ·refine ⟨fun p hp => ?_,by simp⟩
  rcases (by simpa using hp : p = _ ∨ p = _) with rfl | rfl
  ·exact hc _ (by rw [List.length_take]; omega)
  ·exact hc _ (by rw [List.length_drop]; omega)
theorem branch_parts (r : List (Key × Nat)) : (∀ p ∈ (Node.branch r : Node Box).parts, ∃ x q,p = .branch (x :: q)) ∧ (Node.branch r : Node Box).parts.length ≤ 2 := by
 have hc : ∀ l : List (Key × Nat), 0 < l.length → ∃ x q,(Node.branch l : Node Box) = .branch (x :: q) := fun l hl => by
  cases l with
  | nil => simp at hl
  | cons x q => exact ⟨x,q,rfl⟩
 rcases parts_cases (.branch r) with e | ⟨e,hl⟩ | ⟨e,hl⟩ <;> rw [e] <;> try simp only [Node.size] at *
 ·simp
 ·exact ⟨fun p hp => by rw [List.mem_singleton.1 hp]; exact hc r hl,by simp⟩
 ·refine ⟨fun p hp => ?_,by simp⟩
  rcases (by simpa using hp : p = _ ∨ p = _) with rfl | rfl
  ·exact hc _ (by rw [List.length_take]; omega)
  ·exact hc _ (by rw [List.length_drop]; omega)
end
section
--BEGIN
set_option maxRecDepth 100000 in
set_option maxHeartbeats 8000000 in
theorem keepLf_any (w : World) (base : Nat) (A : PA) (s0 : PS) (t : Nat) (f : Value) (cb c mb root : Nat) (s : CS Box) (fv lv : Value) (h : Cg w base A s0 t f cb c mb root s fv lv) (hlow : ∀ x ∈ s.free,x < 4096) (v : Value) (r : List (Key × Box)) (hv : RowR w v r) (hr : r.length ≤ 1000) :
  Calls Tryz.prog 180 #[.pointer (some ⟨c, 0,none⟩), .iface 191 (.agg #[v])] w (KeepP w base A s0 t f cb c mb root s (keepL (Node.leaf r : Node Box).parts s)) := by
 obtain ⟨i0,hi0,hz0,hz1,hz2⟩ := info_parts infoS
 obtain ⟨a,cc,rfl,hn,hc⟩ := hv.len pkR
 have hpa := lparts_any w _ r hv hr
 obtain ⟨hpl,hp2⟩ := leaf_parts r
 generalize (Node.leaf r : Node Box).parts = ps at hpa hpl hp2 ⊢
 have hm1 := m_lparts
 have hm2 := m_lfirst
 simp [nm] at hm1 hm2
 have HPL : Hid _ := hpl
 have HLOW : Hid _ := hlow
 clear hv hpl hlow
 go_enter Tryz.func180,Tryz.ntmps180
 go_wp2_with (go_at_call 257; refine hpa.mono ?_; clear hpa; rintro e w1 ⟨pv,rfl,hp,hb1⟩; obtain ⟨pa,rfl,hu⟩ := PU.of hp)
 have g1 := h.below hb1
 have HU : Hid (PU w1 pa ps) := hu
 have HG1 : Hid _ := g1
 have HB1 : Hid (Below w.heap.size w w1) := hb1
 clear hp hu h hb1 g1
 go_loopw [6, 14] (fun kv x wr => ∃ (i : Nat) (q : List (Key × Nat)) (si : CS Box) (fv' lv' : Value),x = .int .i64 (i : Int) ∧ i ≤ ps.length ∧ KeepI w1 wr base A s0 t f cb c mb root s ps i q si fv' lv' kv) (fun _ x _ => ps.length - (intOf x).toNat)
 case atStart => exact ⟨0, [],s,fv,lv,rfl,Nat.zero_le _,⟨rfl,HG1.out,HG1.out.ch.made,World.ownsRow_nil ..,Off.refl _ _,rfl,rfl,fun _ h => h⟩⟩
 case round =>
  obtain ⟨i,q,si,fv',lv',rfl,hi,K⟩ := hrel
  by_cases hlt : i < ps.length
  ·have hlt' : (i : Int) < (ps.length : Int) := by omega
   obtain ⟨p,hpi⟩ : ∃ p,ps[i]? = some p := ⟨_,List.getElem?_eq_getElem hlt⟩
   obtain ⟨x,y,rfl⟩ := HPL.out p (List.mem_of_getElem? hpi)
   obtain ⟨g,vs,v',rfl,hblk,hvi,hnv⟩ := HU.out i _ hpi
   have hNR := HG1.out.norow
   have hblk' : Blk wr g 175 vs := hblk.off K.off (fun hf => HG1.out.not175 (tg := 175) (by decide) (by decide) (by decide) (by decide) (by decide) g hf ⟨vs,hblk⟩)
   have HNV : Hid _ := hnv
   obtain ⟨sv,rfl,hrow⟩ := hnv
   obtain ⟨a2,c2,rfl,_,hc2⟩ := hrow.len pkR
   have ce : wr.cell? ⟨g,i,none⟩ = some (.iface 191 (.agg #[.slice a2 (x :: y).length c2])) := (hblk'.cell i).trans hvi
   have c2' : wr.cell? ⟨c, 2,none⟩ = some (.map (some mb)) := K.cg.ch.blk.cell 2
   have c3 : wr.cell? ⟨c, 3,none⟩ = some fv' := K.cg.ch.blk.cell 3
   have hfz : wr.frozen? ⟨c, 3,none⟩ = false := K.cg.ch.blk.frozen 3
   have hcl := K.cg.cl
   rcases List.eq_nil_or_concat si.free with hfe | ⟨l,sec,hfe⟩
   ·have hf := K.cg.ch.free
    rw [hfe] at hf
    obtain ⟨fa,fc,rfl,_⟩ := own_shape hf
    simp only [List.length_nil] at c3 K
    have hsp := keepL_space (ps.take i) _ (ps.drop (i + 1)) s _ K.run (keep1_none hfe (.leaf (x :: y)))
    have hps : ps.take i ++ .leaf (x :: y) :: ps.drop (i + 1) = ps := by
     have := List.take_append_drop i ps
     rw [List.drop_eq_getElem?_toList_append,hpi] at this
     simpa using this
    rw [hps] at hsp
    have HK : Hid _ := K
    have HSP : Hid (keepL ps s = .space) := hsp
    clear hps hsp hf hfe K hrow hpi hvi hblk hblk'
    go_wp2
    go_ret2
    unfold KeepP
    rw [HSP.out]
    exact ⟨ChF.trans (Off.of_below HB1.out) HK.out.off,rfl,si,_,_,HK.out.cg,HK.out.rd⟩
   ·rw [List.concat_eq_append] at hfe
    obtain ⟨fg,fc,rfl,hfc1,hfc2,hfs⟩ := K.cg.freeForm hfe
    have hsec : sec < 4096 := HLOW.out sec (free_sub hfe K.fr).2
    have hkey := key_of sec (by omega)
    have hfew := K.cg.ch.few
    rw [hfe] at hfew
    simp only [List.length_append,List.length_singleton] at hfew
    have hl0 : l.length ≤ 99999 := by omega
    have hl1 : ((l.length : Int) + 1 == 0) = false := by simp; omega
    have hl3 : (((l.length + 1 : Nat) : Int) == 0) = false := by simp; omega
    have hl2 : ¬ fc = 0 := by omega
    obtain ⟨h2,o2⟩ := K.cg.pop hfe
    obtain ⟨km,D,hmr,hkm,hmd⟩ := K.md
    have hm2 : (wr.setCell ⟨c, 3,none⟩ (.slice (some ⟨fg, 0,none⟩) l.length fc)).ownsMap Tryz.prog 3 nodR mb km D := nmap_off hmr (Off.one wr _) h2.ch.cne
    have hput : MadeIs w1 (D.put (kl sec) (.held (.iface 191 (.agg #[.slice a2 (x :: y).length c2])))) (upd2 si.made sec (some (.leaf (x :: y)))) := hmd.put hmr.isMap hsec HNV.out
    obtain ⟨sa,sc,rfl,_,_,_⟩ := own_shape K.row
    have hq2 : q.length ≤ 2 := by have := K.qi; omega
    have d2 : (wr.setCell ⟨c, 3,none⟩ (.slice (some ⟨fg, 0,none⟩) l.length fc)).cell? ⟨c, 2,none⟩ = some (.map (some mb)) := h2.ch.blk.cell 2
    have HFE : Hid (si.free = l ++ [sec]) := hfe
    have HPI : Hid _ := hpi
    have HPUT : Hid _ := hput
    have HFC : Hid (∀ W',Off (ChF w1 A cb c mb) w1 W' → Calls Tryz.prog 131 #[.slice a2 (x :: y).length c2] W' fun e w' => e = .returned (keyV x.1) ∧ Below W'.heap.size W' w') := fun W' ho => firstR_any W' _ (x :: y) (hrow.off pkR ho (fun b hb ht => hNR b hb (.inl ht))) x y rfl
    clear hrow hpi hvi hblk hblk' hfe hfew hfc2 hmr hput
    go_upto_region 10 with fail
    obtain ⟨W2,hW2⟩ : ∃ W2,wr.setCell ⟨c, 3,none⟩ (.slice (some ⟨fg, 0,none⟩) l.length fc) = W2 := ⟨_,rfl⟩
    rw [hW2] at h2 o2 hm2 d2 ⊢
    have HT : Hid (∀ w3,w3.ownsMap Tryz.prog 3 nodR mb (km + 1) (D.put (kl sec) (.held (.iface 191 (.agg #[.slice a2 (x :: y).length c2])))) → W2.grownBy w3 (some mb) → w3.ownsMap Tryz.prog 3 nodR mb 4096 (D.put (kl sec) (.held (.iface 191 (.agg #[.slice a2 (x :: y).length c2])))) ∧ Cg w3 base A s0 t f cb c mb root { si with free := l,made := upd2 si.made sec (some (.leaf (x :: y))) } (.slice (some ⟨fg, 0,none⟩) l.length fc) lv' ∧ Off (ChF wr A cb c mb) wr w3) := fun w3 hmap hg => by
     have ht := nmap_tight hmap HPUT.out
     have h3 := h2.turned hg ht (Nat.le_refl _) (HPUT.out.off (ChF.trans K.off o2) hNR)
     exact ⟨ht,h3.1,ChF.trans o2 h3.2⟩
    have HK : Hid _ := K
    have HO2 : Hid _ := o2
    clear hW2 o2 h2 K hmd ce c2' c3 hfz hfs hcl
    go_wp2_with (first
     | (at_mapUpdate; refine wpList_mapUpdate_own _ rfl (.tmp 49) (.tmp 50) (.tmp 51) 183 rfl 3 175 keyed3 Tryz.underlying183 nodR mb km D rfl hm2 (by unfold maxLen; omega) _ _ (kl sec) rfl rfl hkey (.held (.iface 191 (.agg #[.slice a2 (x :: y).length c2]))) [] rfl ?_; intro w3 hmap3 hg3; obtain ⟨hmap3',h3,o3⟩ := HT.out w3 hmap3 hg3; clear hmap3 hg3)
     | (go_at_call 131; refine (HFC.out w3 (ChF.trans HK.out.off o3)).mono ?_; rintro e w4 ⟨rfl,hb4⟩; have h4 := h3.below hb4; have o4 := ChF.trans o3 (Off.of_below (F := ChF w3 A cb c mb) hb4); have hown4 := own_offv HK.out.row o4 (fun g hg hf => HK.out.cg.norow g hf (.inr (own_tagged HK.out.row hg).2)); have hs4 : w1.heap.size ≤ w4.heap.size := (ChF.trans HK.out.off o4).size)
     | (at_builtin; refine wpList_append_lies _ rfl (.tmp 52) (.tmp 57) 212 rfl w1.heap.size 234 i0 _ 3 24 Tryz.underlying212 hi0 hz0 hz1 hz2 rfl (by omega) (.slice sa q.length sc) q.length _ rfl (hown4.alloc _) ⟨w4.heap.size, 0,none⟩ 1 1 [.int .i64 x.1.1, .int .i64 x.1.2, .int .i64 (sec : Int)] rfl rfl (World.news_of_block (cs := #[.int .i64 x.1.1, .int .i64 x.1.2, .int .i64 (sec : Int)]) (t := 234) (fr := (0, 0)) (heap_alloc_new w4 _)) (by simp [Value.oneCell']) (by omega) (by unfold maxLen; omega) (by omega) (by simp; omega) (w4.heap.size + 1) (by simp) ?_; intro gg capp w5 hown5 hgrow5 hat5 hlt5))
    have hoF : Off (fun k => (Value.slice sa q.length sc).ownBlock = some k) w4 w5 := ((Off.refl _ w4).alloc _).grown hgrow5 (fun j hj => .inl hj)
    have o14 := ChF.trans HK.out.off o4
    have o15 : Off (ChF w1 A cb c mb) w1 w5 := o14.step hoF (fun j hj hf => absurd (own_tagged hown4 hf).1 (by omega))
    have hmap4 := nmap_off hmap3' (Off.of_below (F := fun _ => False) hb4) (fun h => h)
    have h5 := (h4.rowApp hoF (fun k hk => .inl (own_tagged hown4 hk).2) hmap4 (Nat.le_refl _) (HPUT.out.off o15 hNR)).puts (si.puts + 1)
    have hmap5 : w5.ownsMap Tryz.prog 3 nodR mb 4096 (D.put (kl sec) (.held (.iface 191 (.agg #[.slice a2 (x :: y).length c2])))) := nmap_off hmap4 hoF (fun hf => by
     obtain ⟨es,cc5,h9,_⟩ := hmap4
     obtain ⟨_,cs,h8⟩ := own_tagged hown4 hf
     rw [h9] at h8; cases h8)
    refine ⟨⟨i + 1,q ++ [(x.1,sec)],_,_,_,by go_num,by omega,⟨?_,h5,⟨_,_,hmap5,Nat.le_refl _,HPUT.out⟩, ?_,o15, ?_,HK.out.rd,fun z hz => (free_sub HFE.out HK.out.fr).1 z hz⟩⟩,by simp [intOf]; omega⟩
    ·rw [take_snoc HPI.out,keepL_snoc,HK.out.run]
     simp only [Res.ok_bind]
     rw [keep1_some HFE.out]
     rfl
    ·rw [flat_append,List.length_append]
     exact hown5
    ·rw [List.length_append,HK.out.qi]; rfl
  ·have hlt' : decide ((i : Int) < (ps.length : Int)) = false := decide_eq_false (by omega)
   have hlt2 : decide (i < ps.length) = false := decide_eq_false (by omega)
   obtain ⟨sa,sc,rfl,_,_,_⟩ := own_shape K.row
   have hrun := K.run
   rw [List.take_of_length_le (by omega)] at hrun
   have HRUN : Hid _ := hrun
   have HK : Hid _ := K
   clear hrun K
   go_wp2
   go_ret2
   unfold KeepP
   rw [HRUN.out]
   exact ⟨ChF.trans (Off.of_below HB1.out) HK.out.off,_,_,_,rfl,Row.of_own pkS HK.out.row,HK.out.cg⟩
--END
end
end Go.Proofs.YtdgbgmffpcooeaaGreat
