/- Ch3 Fr1 -/
import Derived.Test.YtdgbgmffpcooeaaGreatU17
import Derived.Shelf.AbstractIn
import Derived.Sort.CutIn
namespace Go.Proofs.YtdgbgmffpcooeaaGreat
open Go.RowKit Go.Lib Go.Maps
section
theorem info3 : (Tryz.prog.info? 3).map (fun i => (i.zero,i.size,i.bytes)) = some (some (.int .i64 0), 1, 8) := by kernel_rfl
theorem zero175 (w : World) : (zeroValue 175).run Tryz.prog w = .ok .nilIface w := by kernel_rfl
open Classical in
noncomputable def nodesN (s : PS) (t : Nat) : Option (Node Box) := if t < s.n then nodesOf s t else none
theorem nodesN_some {s : PS} {t : Nat} {nd : Node Box} (h : nodesN s t = some nd) : t < s.n ∧ nodesOf s t = some nd := by
 unfold nodesN at h
 by_cases e : t < s.n
 ·rw [if_pos e] at h; exact ⟨e,h⟩
 ·rw [if_neg e] at h; cases h
set_option maxRecDepth 100000 in
set_option maxHeartbeats 4000000 in
theorem take_any (w : World) (base : Nat) (A : PA) (s0 : PS) (t : Nat) (f : Value) (cb c mb root : Nat) (s : CS Box) (fv lv : Value) (h : Cg w base A s0 t f cb c mb root s fv lv) (hs : s0.brk = false) (sec : Nat) (nd : Node Box) (s' : CS Box) (hr : takeF (nodesN s0) s sec = .ok (nd,s')) (hfew : s'.free.length + s'.left.length ≤ 100000) :
  Calls Tryz.prog 178 #[.pointer (some ⟨c, 0,none⟩), .int .i64 (sec : Int)] w fun e w' => ∃ v fv' lv',e = .returned (.tuple #[v, .int .i64 0]) ∧ NodeV w' v nd ∧ Cg w' base A s0 t f cb c mb root s' fv' lv' ∧ Off (ChF w A cb c mb) w w' := by
 obtain ⟨i3,hi3,hz3a,hz3b,hz3c⟩ := info_parts info3
 have hn2 := h.pd.n2
 have hn2' : s0.n ≤ 4096 := hn2
 unfold takeF at hr
 by_cases h0 : sec = 0
 ·rw [if_pos h0] at hr
  simp only [Res.ok.injEq,Prod.mk.injEq] at hr
  obtain ⟨rfl,rfl⟩ := hr
  subst h0
  go_enter Tryz.func178,Tryz.ntmps178
  go_wp2
  go_ret2
  exact ⟨_,fv,lv,rfl,⟨_,rfl,Row.nil pkR w⟩,h,Off.refl _ _⟩
 ·rw [if_neg h0] at hr
  have t0 : ((sec : Int) == 0) = false := by simp; omega
  have hsec : sec < 4096 := by
   obtain ⟨_,_,_,_,hm3⟩ := h.ch.made
   cases hmd : s.made sec with
   | some nd0 => exact hm3.low sec nd0 hmd
   | none =>
    rw [hmd] at hr
    simp only at hr
    cases hD : nodesN s0 sec with
    | none => rw [hD] at hr; cases hr
    | some nd0 => have := (nodesN_some hD).1; omega
  have hkey := key_of sec (by omega)
  obtain ⟨km,D,hm1,hm2,hm3⟩ := h.ch.made
  have hhas := hm3.has_ sec (by omega)
  have c2 : w.cell? ⟨c, 2,none⟩ = some (.map (some mb)) := h.ch.blk.cell 2
  cases hmd : s.made sec with
  | some nd0 =>
   rw [hmd] at hr hhas
   simp only [Res.ok.injEq,Prod.mk.injEq] at hr
   obtain ⟨rfl,rfl⟩ := hr
   obtain ⟨v,hv,hat⟩ := hm3.val sec nd0 hmd
   have hd := hm3.del sec
   have hhas' : Maps.has D (kl sec) = true := hhas
   have hfew1 : s.free.length + s.left.length + 1 ≤ 100000 := by simp only [List.length_append,List.length_singleton] at hfew; omega
   have hfl : s.free.length + 1 ≤ 100000 := by omega
   have HAT : Hid (∀ z,D.atKey (kl sec) z = .held v) := hat
   have HA : Hid (∀ w1,w1.ownsMap Tryz.prog 3 nodR mb km (D.del (kl sec)) → w.mapTurned w1 mb → Cg w1 base A s0 t f cb c mb root { s with made := upd2 s.made sec none } fv lv ∧ Off (ChF w A cb c mb) w w1) := fun w1 g1 g2 => h.turned g2.grown g1 hm2 hd
   have HNR : Hid _ := h.norow
   have hcl := h.cl
   clear hhas hmd hat hd hm3 hfew
   go_enter Tryz.func178,Tryz.ntmps178
   go_wp2_with (first
    | (at_lookup; refine wpList_lookup_own_ok _ rfl (.tmp 16) (.tmp 17) 183 rfl 3 175 keyed3 Tryz.underlying183 nodR (zero175 _) (.held .nilIface) [] rfl mb km D rfl hm1 _ (kl sec) rfl hkey ?_; intro v1 ps hv1; obtain rfl : v1 = v := (by rw [HAT.out] at hv1; have hv2 : v1 = v ∧ ps = [] := (by simpa [nodR] using hv1); exact hv2.1); clear hv1)
    | (at_delete; refine wpList_delete_own _ rfl (.tmp 25) (.tmp 26) 183 3 rfl 175 keyed3 Tryz.underlying183 nodR mb km D rfl hm1 _ (kl sec) rfl hkey ?_; intro w1 hmap1 hturn; obtain ⟨h1,o1⟩ := HA.out w1 hmap1 hturn; have d3 : w1.cell? ⟨c, 3,none⟩ = some fv := h1.ch.blk.cell 3; have hc1 := h1.cl; have hrow1 : w1.ownsRow cb 3 1 fv s.free.length (secsV s.free) := h1.ch.free)
    | (at_builtin; refine wpList_append_lies _ rfl (.tmp 31) (.tmp 33) 35 rfl cb 3 i3 _ 1 8 Tryz.underlying35 hi3 hz3a hz3b hz3c rfl (by omega) fv s.free.length _ rfl (hrow1.alloc _) ⟨w1.heap.size, 0,none⟩ 1 1 [.int .i64 (sec : Int)] rfl rfl (World.news_of_block (cs := #[.int .i64 (sec : Int)]) (t := 3) (fr := (0, 0)) (heap_alloc_new w1 _)) (by simp [Value.oneCell']) (by omega) (by unfold maxLen; omega) (by omega) (by simp; omega) (w1.heap.size + 1) (by simp) ?_; intro gg capp w4 hown4 hgrow4 hat4 hlt4; obtain ⟨e3,e4,h4,o4⟩ := h1.freeApp hgrow4 hat4 hown4 hfew1; clear hown4 hgrow4))
   go_ret2
   have oo := ChF.trans o1 o4
   exact ⟨_,rfl,hv.off oo HNR.out,⟨_,_,h4⟩,oo⟩
  | none =>
   rw [hmd] at hr hhas
   simp only at hr
   cases hD' : nodesN s0 sec with
   | none => rw [hD'] at hr; cases hr
   | some nd0 =>
    rw [hD'] at hr
    obtain ⟨hsn,hD⟩ := nodesN_some hD'
    clear hD'
    simp only [Res.ok.injEq,Prod.mk.injEq] at hr
    obtain ⟨rfl,rfl⟩ := hr
    have hhas' : Maps.has D (kl sec) = false := hhas
    have hfew1 : s.free.length + s.left.length + 1 ≤ 100000 := by simp only [List.length_append,List.length_singleton] at hfew; omega
    have hfl : s.left.length + 1 ≤ 100000 := by omega
    have hrow1 : w.ownsRow cb 3 1 lv s.left.length (secsV s.left) := h.ch.left
    have c0 : w.cell? ⟨c, 0,none⟩ = some (.pointer (some ⟨t, 0,none⟩)) := h.ch.blk.cell 0
    have c4 : w.cell? ⟨c, 4,none⟩ = some lv := h.ch.blk.cell 4
    have HNR : Hid _ := h.norow
    have hcl := h.cl
    have hrd : ∀ w4 lv',Cg w4 base A s0 t f cb c mb root { s with left := s.left ++ [sec] } fv lv' → Calls Tryz.prog 130 #[.pointer (some ⟨t, 0,none⟩), .int .i64 (sec : Int)] w4 fun e w' => ∃ v,e = .returned (.tuple #[v, .int .i64 0]) ∧ NodeV w' v nd0 ∧ Cg w' base A s0 t f cb c mb root { s with left := s.left ++ [sec],reads := s.reads + 1 } fv lv' ∧ Off (ChF w4 A cb c mb) w4 w' := fun w4 lv' g => by
     refine (tread_live w4 base A _ g.pd t f g.tr (by rw [PS.at_brk]; exact hs) sec hsn).mono ?_
     rintro e w' ⟨h1,h2,h3⟩
     rcases h1 with ⟨v,nd',g1,rfl,g3,_⟩ | ⟨g1,_⟩
     ·have : nd' = nd0 := Option.some.inj (g1.symm.trans hD)
      subst this
      refine ⟨v,rfl,g3,⟨?_,g.tr.off h3 (fun hf => ?_), ?_,g.tl,g.al, ?_⟩,ChF.disk h3⟩
      ·rw [PS.at_adv] at h2; exact h2
      ·have hq : w4.heap[t]? = _ := g.tr
       have : ¬ A.F t := fun hf => by
        obtain ⟨_,_,⟨es,cc,m1,_⟩,_⟩ := g.pd.map
        obtain ⟨cur,b1,_⟩ := g.pd.sec.blk
        have p1 : w4.heap[A.p]? = _ := g.pd.blkP
        have q1 : w4.heap[A.q]? = _ := g.pd.blkQ
        rcases hf with e | e | e | e
        ·rw [e,p1] at hq; simp at hq
        ·rw [e,q1] at hq; simp at hq
        ·rw [e,b1] at hq; simp at hq
        ·rw [e,m1] at hq; simp at hq
       exact this hf
      ·have g9 := g.ch.off h3 g.al (fun b hb => g.pd.norow b hb)
       exact ⟨g9.blk,g9.le,g9.free,g9.left,g9.ne,g9.made,g9.few⟩
      ·have := g.cl; have := h3.size; exact ⟨by omega,by omega,by omega⟩
     ·have : (none : Option (Node Box)) = some nd0 := g1.symm.trans hD
      cases this
    have HRD : Hid _ := hrd
    have HH : Hid _ := h
    clear hhas hmd hm3 hfew hrd hD
    go_enter Tryz.func178,Tryz.ntmps178
    go_wp2_with (first
     | (at_lookup; refine wpList_lookup_own_ok _ rfl (.tmp 16) (.tmp 17) 183 rfl 3 175 keyed3 Tryz.underlying183 nodR (zero175 _) (.held .nilIface) [] rfl mb km D rfl hm1 _ (kl sec) rfl hkey ?_; intro v1 ps hv1; clear hv1)
     | (at_builtin; refine wpList_append_lies _ rfl (.tmp 42) (.tmp 44) 35 rfl cb 3 i3 _ 1 8 Tryz.underlying35 hi3 hz3a hz3b hz3c rfl (by omega) lv s.left.length _ rfl (hrow1.alloc _) ⟨w.heap.size, 0,none⟩ 1 1 [.int .i64 (sec : Int)] rfl rfl (World.news_of_block (cs := #[.int .i64 (sec : Int)]) (t := 3) (fr := (0, 0)) (heap_alloc_new w _)) (by simp [Value.oneCell']) (by omega) (by unfold maxLen; omega) (by omega) (by simp; omega) (w.heap.size + 1) (by simp) ?_; intro gg capp w4 hown4 hgrow4 hat4 hlt4; obtain ⟨e3,e4,h4,o4⟩ := HH.out.leftApp hgrow4 hat4 hown4 hfew1; have e0 := h4.ch.blk.cell 0; clear hown4 hgrow4)
     | (go_at_call 130; refine (HRD.out _ _ h4).mono ?_; rintro e w5 ⟨v,rfl,hv5,h5,o5⟩))
    go_ret2
    exact ⟨_,_,_,rfl,hv5,h5,ChF.trans o4 o5⟩
end
end Go.Proofs.YtdgbgmffpcooeaaGreat
namespace Go.Proofs.YtdgbgmffpcooeaaGreat
open Go.RowKit Go.Lib Go.Shelf
section
attribute [local go_sem] Oper.semAt_some
theorem roundW_any {m m' : Nat} {P : Program} {l : Nat} {f : FuncId} {tmps : Array Value} {assign body : Code} {w : World} {R : Ending → World → Prop}
    (h : RoundIn Fence.wide m P l f tmps assign body w R) : RoundIn Fence.wide m' P l f tmps assign body w R := ⟨h.1,fun c cs _ => h.2 c cs (room_wide _)⟩
theorem yieldW_any {m : Nat} (m' : Nat) {P : Program} {l : Nat} {args : Array Value} {W : World} {R : Ending → World → Prop} (h : YieldAt Fence.wide m P l args W R) : YieldAt Fence.wide m' P l args W R := by
  obtain ⟨fn,tmps,assign,body,hy,hR⟩ := h
  exact ⟨fn,tmps,assign,body,hy,roundW_any hR⟩
abbrev Tld := (Key × Box) × Int
def tldE (x : Tld) : Array Value := #[entV x.1, .int .i64 x.2]
structure It (base : Nat) (A : PA) (s : PS) (t : Nat) (f : Value) (l : Nat) (W : World) (M : Nat → Prop) (r : Nat) : Prop where
  pd : PD W base A (s.at_ r)
  tr : TreeB W t A f
  lp : LoopAt l W
  ml : ∀ k,M k → k < W.heap.size
  ma : ∀ k,A.F k → ¬ M k
  mt : ¬ M t
section
variable {base : Nat} {A : PA} {s : PS} {t : Nat} {f : Value} {l : Nat} {W W' : World} {M : Nat → Prop} {r r' : Nat}
theorem LoopAt.ne {k tg : Nat} {vs : Array Value} (h : LoopAt l W) (hb : Blk W k tg vs) : k ≠ l := fun e => by
  obtain ⟨q,hq⟩ := h
  have hb' : W.heap[k]? = _ := hb
  rw [e,hq] at hb'; cases hb'
theorem PD.notLoop (hp : PD W base A s) (h : LoopAt l W) {k : Nat} (hk : A.F k) : k ≠ l := fun e => by
  obtain ⟨q,hq⟩ := h
  obtain ⟨_,_,⟨es,cc,m1,_⟩,_⟩ := hp.map
  obtain ⟨cur,b1,_⟩ := hp.sec.blk
  have p1 : W.heap[A.p]? = _ := hp.blkP
  have q1 : W.heap[A.q]? = _ := hp.blkQ
  rw [← e] at hq
  rcases hk with e | e | e | e
  · rw [e,p1] at hq; cases hq
  · rw [e,q1] at hq; cases hq
  · rw [e,b1] at hq; cases hq
  · rw [e,m1] at hq; cases hq
theorem PD.nott' (hp : PD W base A s) (ht : TreeB W t A f) : ¬ A.F t := fun hf => by
  have hq : W.heap[t]? = _ := ht
  obtain ⟨_,_,⟨es,cc,m1,_⟩,_⟩ := hp.map
  obtain ⟨cur,b1,_⟩ := hp.sec.blk
  have p1 : W.heap[A.p]? = _ := hp.blkP
  have q1 : W.heap[A.q]? = _ := hp.blkQ
  rcases hf with e | e | e | e
  · rw [e,p1] at hq; simp at hq
  · rw [e,q1] at hq; simp at hq
  · rw [e,b1] at hq; simp at hq
  · rw [e,m1] at hq; simp at hq
theorem It.own (h : It base A s t f l W M r) (ho : Off A.F W W') (hp : PD W' base A (s.at_ r')) : It base A s t f l W' M r' := by
  obtain ⟨q,hq⟩ := h.lp
  have hs := ho.size
  exact ⟨hp,(ho.block t h.tr.lt (h.pd.nott' h.tr)).trans h.tr,⟨q,(ho.block l (Array.getElem?_eq_some_iff.1 hq).1 (fun e => h.pd.notLoop h.lp e rfl)).trans hq⟩,fun k hk => by have := h.ml k hk; omega,h.ma,h.mt⟩
theorem It.below (h : It base A s t f l W M r) (hb : Below W.heap.size W W') : It base A s t f l W' M r := h.own (Off.of_below hb) (h.pd.below hb)
theorem It.round (h : It base A s t f l W M r) (ho : Off (fun k => M k ∨ k = l) W W') (hl : LoopAt l W') : It base A s t f l W' (Grow M W W') r := by
  have hs := ho.size
  have ht := h.tr.lt
  have hF : ∀ k,A.F k → k < W.heap.size := fun k hk => (h.pd.lt k hk).2
  refine ⟨h.pd.off ho fun k hk hg => hg.elim (h.ma k hk) (h.pd.notLoop h.lp hk),(ho.block t ht fun hg => hg.elim h.mt (h.lp.ne h.tr)).trans h.tr,hl,fun k hk => ?_,fun k hk hg => ?_,fun hg => ?_⟩
  · rcases hk with hk | hk
    · have := h.ml k hk; omega
    · exact hk.2
  · rcases hg with hg | hg
    · exact h.ma k hk hg
    · have := hF k hk; omega
  · rcases hg with hg | hg
    · exact h.mt hg
    · omega
end
theorem Row.offv {V : Type} {K : PK V} {F : Nat → Prop} {W W' : World} {v : Value} {r : List (Key × V)} (h : Row K W v r) (ho : Off F W W') (hF : ∀ a n c,v = .slice (some a) n c → ¬ F a.block) : Row K W' v r := by
  rcases h with h | ⟨b,o,c,cur,h1,h2,h3,h4,h5⟩
  · exact .inl h
  · exact .inr ⟨b,o,c,cur,h1,h2,h3,(ho.block b (Array.getElem?_eq_some_iff.1 h4).1 (hF _ _ _ h1)).trans h4,h5⟩
theorem Row.lt {V : Type} {K : PK V} {W : World} {a : Addr} {n c : Nat} {r : List (Key × V)} (h : Row K W (.slice (some a) n c) r) : a.block < W.heap.size := by
  rcases h with ⟨_,h⟩ | ⟨b,o,c,cur,h1,h2,h3,h4,h5⟩
  · cases h
  · cases h1; exact (Array.getElem?_eq_some_iff.1 h4).1
theorem RowR.cells6 {W : World} {b o n c : Nat} {r : List (Key × Box)} (h : RowR W (.slice (some ⟨b,o,none⟩) n c) r) {i : Nat} {x : Key × Box} (hx : r[i]? = some x) :
    W.cell? ⟨b,o + i * 6,none⟩ = some (.int .i64 x.1.1) ∧ W.cell? ⟨b,o + i * 6 + 1,none⟩ = some (.int .i64 x.1.2) ∧ W.cell? ⟨b,o + i * 6 + 2,none⟩ = some (.int .i64 (x.2.a : Int)) ∧ W.cell? ⟨b,o + i * 6 + 3,none⟩ = some (.int .i64 (x.2.b : Int)) ∧ W.cell? ⟨b,o + i * 6 + 4,none⟩ = some (.int .i64 (x.2.c : Int)) ∧ W.cell? ⟨b,o + i * 6 + 5,none⟩ = some (.int .i64 (x.2.d : Int)) := by
  obtain ⟨b',o',c',e,_,_,_,_,hc⟩ := Row.form pkR h (by have := (List.getElem?_eq_some_iff.1 hx).1; omega)
  cases e
  exact ⟨hc i x hx 0 _ rfl,hc i x hx 1 _ rfl,hc i x hx 2 _ rfl,hc i x hx 3 _ rfl,hc i x hx 4 _ rfl,hc i x hx 5 _ rfl⟩
def TellP (base : Nat) (A : PA) (s : PS) (t : Nat) (f : Value) (l : Nat) (J : Nat → (Nat → Prop) → World → Prop) (Jx : Nat → World → Prop) (k : Key) (h : Nat) (es : List (Key × Box)) (i0 r : Nat) (M : Nat → Prop) (W : World) (e : Ending) (W' : World) : Prop :=
  Off (fun b => A.F b ∨ M b ∨ b = l) W W' ∧
  ((e = .returned (.bool true) ∧ ∃ M' r',J (i0 + (frm k es).length) M' W' ∧ It base A s t f l W' M' r' ∧ (∀ b,b < W.heap.size → M' b → M b) ∧ (frm k es = [] → r' ≤ r + h + 1) ∧ r' ≤ r + 15 ^ (h + 1)) ∨
   (e = .returned (.bool false) ∧ ∃ i r',i0 < i ∧ Jx i W' ∧ PD W' base A (s.at_ r') ∧ TreeB W' t A f ∧ (i = i0 + 1 → r' ≤ r + 2 * h + 1 ∧ (frm k es = es → r' ≤ r + h + 1)) ∧ r' ≤ r + 15 ^ (h + 1)))
set_option maxRecDepth 100000 in
set_option maxHeartbeats 4000000 in
theorem tellL_in (base : Nat) (A : PA) (s : PS) (t : Nat) (f : Value) (l : Nat) (hs : s.brk = false) (J : Nat → (Nat → Prop) → World → Prop) (Jx : Nat → World → Prop) (hJ : ∀ i M X Y,J i M X → Off A.F X Y → J i M Y) (xs : List Tld)
    (hY : ∀ m i x M W1,xs[i]? = some x → J i M W1 → YieldAt Fence.wide m Tryz.prog l (tldE x) W1 fun e W' =>
      Off (fun k => M k ∨ k = l) W1 W' ∧ LoopAt l W' ∧ ((e = .returned (.bool true) ∧ J (i + 1) (Grow M W1 W') W') ∨ (e = .returned (.bool false) ∧ Jx (i + 1) W')))
    (k : Key) (n sec : Nat) (es : List (Key × Box)) (hn : nodesN s sec = some (.leaf es)) (i0 r : Nat) (hxs : ∀ j x,(frm k es)[j]? = some x → xs[i0 + j]? = some (x, 0)) (M : Nat → Prop) (W : World) (hI : It base A s t f l W M r) (h0 : J i0 M W) :
    CallsIn Fence.wide n Tryz.prog 121 #[.pointer (some ⟨t, 0,none⟩), .int .i64 (sec : Int),keyV k, .func (.yield l) #[] #[]] W (TellP base A s t f l J Jx k 0 es i0 r M W) := by
  have hsec : sec < s.n ∧ nodesOf s sec = some (.leaf es) := by
    unfold nodesN at hn
    split at hn
    · rename_i h; exact ⟨h,hn⟩
    · cases hn
  have hst : Stands (.leaf es) := (nodeOf_some hsec.2).1
  have hrise : Rising es := hst.2.2.1
  have hel : es.length ≤ 10 := hst.2.1
  have he1 : 1 ≤ es.length := hst.1
  have hb0 : Below W.heap.size W (W.alloc (.cells #[.int .i64 k.1, .int .i64 k.2] 154)) := (Below.refl _ W).alloc (Nat.le_refl _) _
  have hI1 := hI.below hb0
  have hread : Calls Tryz.prog 130 #[.pointer (some ⟨t, 0,none⟩), .int .i64 (sec : Int)] (W.alloc (.cells #[.int .i64 k.1, .int .i64 k.2] 154)) fun e w' => ∃ b o c,e = .returned (.tuple #[.iface 191 (.agg #[.slice (some ⟨b,o,none⟩) es.length c]), .int .i64 0]) ∧ RowR w' (.slice (some ⟨b,o,none⟩) es.length c) es ∧ W.heap.size < b ∧ es.length ≤ c ∧ PD w' base A (s.at_ (r + 1)) ∧ Off A.F (W.alloc (.cells #[.int .i64 k.1, .int .i64 k.2] 154)) w' := by
    refine (tread_live _ base A (s.at_ r) hI1.pd t f hI1.tr (by exact hs) sec hsec.1).mono ?_
    rintro e w1 ⟨hrd,hP1,o1⟩
    rw [PS.at_adv] at hP1
    rcases hrd with ⟨v,nd,g1,rfl,g3,g4⟩ | ⟨g1,_⟩
    · have : nd = .leaf es := Option.some.inj (g1.symm.trans hsec.2)
      subst this
      obtain ⟨sl,rfl,hrow⟩ := g3
      obtain ⟨b,o,c,rfl,h1,_,_⟩ := hrow.form pkR (by omega)
      have := g4 _ _ _ _ rfl
      exact ⟨b,o,c,rfl,hrow,by simp at this; omega,h1,hP1,o1⟩
    · have : (none : Option (Node Box)) = some (.leaf es) := g1.symm.trans hsec.2
      cases this
  have HI0 : Hid (It base A s t f l W M r) := hI
  have HB0 : Hid _ := hb0
  have HRI : Hid (Rising es) := hrise
  have hkb := Blk.new W 154 #[.int .i64 k.1, .int .i64 k.2]
  have HKB : Hid (Blk (W.alloc (.cells #[.int .i64 k.1, .int .i64 k.2] 154)) W.heap.size 154 #[.int .i64 k.1, .int .i64 k.2]) := hkb
  clear hI hI1 hst hn hsec hb0 hrise hkb
  have hdd : ∀ k : Nat,(Fence.wide.depth.isSome = true → 1 ≤ k) := fun k h => by cases h
  refine callsIn_of_wp Tryz.func121 rfl trivial ?_ rfl
  simp only [Tryz.ntmps121,List.size_toArray,List.length_cons,List.length_nil,Nat.reduceAdd,Nat.reduceSub,Array.replicate_succ,Array.replicate_zero,List.push_toArray,List.append_toArray,List.nil_append,List.cons_append]
  gi_upto_region 6 with (refine ⟨trivial,hdd _, ?_⟩; gi_at_call 130; refine (callsIn_wide.2 hread).mono ?_; rintro e w1 ⟨b,o,c,rfl,hrow,hbl,hcl,hP1,o1⟩)
  have hta := ta_ll
  gi_upto_region 8 with fail
  obtain ⟨W2,hW2⟩ : ∃ W2,w1.alloc (.cells #[.slice (some ⟨b,o,none⟩) es.length c] 191) = W2 := ⟨_,rfl⟩
  have hb2 : Below w1.heap.size w1 W2 := by rw [← hW2]; exact (Below.refl _ w1).alloc (Nat.le_refl _) _
  have hn2 : Blk W2 w1.heap.size 191 #[.slice (some ⟨b,o,none⟩) es.length c] := by rw [← hW2]; exact Blk.new w1 191 _
  have hk2 : Blk W2 W.heap.size 154 #[.int .i64 k.1, .int .i64 k.2] := by
    have hw := o1.size
    have := HKB.out.lt
    refine (hb2.block _ (by omega)).trans ((o1.block _ this fun hf => ?_).trans HKB.out)
    have := HI0.out.pd.lt _ hf
    omega
  have hrow2 : RowR W2 (.slice (some ⟨b,o,none⟩) es.length c) es := hrow.below pkR hb2
  have oW : Off A.F W W2 := (((Off.of_below HB0.out).trans o1).trans (Off.of_below hb2))
  have hI2 : It base A s t f l W2 M (r + 1) := HI0.out.own oW (hP1.below hb2)
  have hfind := findR_any W2 _ es hrow2 HRI.out k
  rw [hW2]
  have ck0 : W2.cell? ⟨W.heap.size, 0,none⟩ = some (.int .i64 k.1) := hk2.cell 0
  have ck1 : W2.cell? ⟨W.heap.size, 1,none⟩ = some (.int .i64 k.2) := hk2.cell 1
  have cn0 : W2.cell? ⟨w1.heap.size, 0,none⟩ = some (.slice (some ⟨b,o,none⟩) es.length c) := hn2.cell 0
  have hbw : b < w1.heap.size := Row.lt hrow
  have HJ0 : Hid (J i0 M W2) := hJ _ _ _ _ h0 oW
  have HI2 : Hid (It base A s t f l W2 M (r + 1)) := hI2
  have HOW : Hid (Off A.F W W2) := oW
  have HROW2 : Hid (RowR W2 (.slice (some ⟨b,o,none⟩) es.length c) es) := hrow2
  have HW : Hid (W.heap.size < W2.heap.size ∧ w1.heap.size < W2.heap.size) := ⟨hk2.lt,hn2.lt⟩
  clear hW2 hb2 hk2 hrow2 oW hI2 hrow hP1 o1 hread h0 HB0 HKB
  obtain ⟨fr,hfr⟩ : ∃ fr,lbn k es = fr := ⟨_,rfl⟩
  have hfrl : fr ≤ es.length := by rw [← hfr]; exact lbn_le k es
  have HFR : Hid (lbn k es = fr) := hfr
  rw [hfr] at hfind
  clear hfr
  gi_upto_region 9 with (refine ⟨trivial,hdd _, ?_⟩; gi_at_call 145; refine (callsIn_wide.2 hfind).mono ?_; rintro e w3 ⟨rfl,hb3⟩)
  have cn3 : w3.cell? ⟨w1.heap.size, 0,none⟩ = some (.slice (some ⟨b,o,none⟩) es.length c) := (hb3.cell (p := ⟨w1.heap.size, 0,none⟩) HW.out.2).trans cn0
  clear ck0 ck1 cn0 hfind
  have HN : Hid (es.drop fr = frm k es) := by show _ = _; rw [← HFR.out]; exact drop_lbn_frm k HRI.out
  have hdl : (es.drop fr).length = es.length - fr := List.length_drop
  by_cases hcf : c = fr
  · obtain rfl : fr = c := hcf.symm
    have hz : es.length - fr = 0 := by omega
    have HZ : Hid (frm k es = []) := by show _ = _; rw [← HN.out]; exact List.eq_nil_of_length_eq_zero (by omega)
    have HI3 : Hid (It base A s t f l w3 M (r + 1)) := HI2.out.below hb3
    have HJ3 : Hid (J i0 M w3) := hJ _ _ _ _ HJ0.out (Off.of_below hb3)
    have HO3 : Hid (Off A.F W w3) := HOW.out.trans (Off.of_below hb3)
    clear hdl HI2 HJ0 HOW HROW2 hb3 hY hxs
    gi_wp2
    gi_loopw [47] (fun x wr => x = .int .i64 0 ∧ wr = w3) (fun _ _ => 0)
    case atStart => exact ⟨rfl,rfl⟩
    case round =>
      obtain ⟨rfl,rfl⟩ := hrel
      gi_wp2
      go_ret
      exact ⟨HO3.out.mono (fun k _ h => .inl h), .inl ⟨rfl,M,r + 1,by rw [HZ.out]; exact HJ3.out,HI3.out,fun _ _ h => h,fun _ => by omega,Nat.add_le_add_left (by decide) r⟩⟩
  · have hrow3 : RowR w3 (.slice (some ⟨b,o + fr * 6,none⟩) (es.length - fr) (c - fr)) (es.drop fr) := (Row.drop pkR HROW2.out hfrl).below pkR hb3
    have HD0 : Hid ((es.drop fr).length = es.length - fr) := hdl
    have HROW3 : Hid (RowR w3 (.slice (some ⟨b,o + fr * 6,none⟩) (es.length - fr) (c - fr)) (es.drop fr)) := hrow3
    have HI3 : Hid (It base A s t f l w3 M (r + 1)) := HI2.out.below hb3
    have HJ3 : Hid (J i0 M w3) := hJ _ _ _ _ HJ0.out (Off.of_below hb3)
    have HO3 : Hid (Off A.F W w3) := HOW.out.trans (Off.of_below hb3)
    have hsz3 := hb3.size
    clear hdl hrow3 HI2 HJ0 HOW HROW2 hb3
    gi_wp2
    have hrow3 := HROW3.out
    have hdl := HD0.out
    rw [HN.out] at hdl hrow3
    have hN10 : es.length - fr ≤ 10 := by omega
    clear HROW3 HD0 hel he1 cn3 hcf hfrl hcl
    generalize es.length - fr = N at hdl hrow3 hN10 ⊢
    generalize o + fr * 6 = o' at hrow3 ⊢
    generalize c - fr = c' at hrow3 ⊢
    have HD : Hid ((frm k es).length = N) := hdl
    clear hdl
    gi_loopw [47] (fun x wr => ∃ (j : Nat) (M' : Nat → Prop),x = .int .i64 (j : Int) ∧ j ≤ N ∧ J (i0 + j) M' wr ∧ It base A s t f l wr M' (r + 1) ∧ Off (fun b => A.F b ∨ M b ∨ b = l) W wr ∧ (∀ b,b < W.heap.size → M' b → M b) ∧ ¬ M' b ∧ RowR wr (.slice (some ⟨b,o',none⟩) N c') (frm k es)) (fun x _ => N - (intOf x).toNat)
    case atStart => exact ⟨0,M,rfl,Nat.zero_le _,HJ3.out,HI3.out,HO3.out.mono (fun k _ h => .inl h),fun _ _ h => h,fun h => (by have := HI0.out.ml b h; omega),hrow3⟩
    case round =>
      obtain ⟨j,M',rfl,hj,hJr,hIr,hOr,hMr,hMb,hRr⟩ := hrel
      by_cases hlt : j < N
      · have hlt' : (j : Int) < (N : Int) := by omega
        obtain ⟨x,hx⟩ : ∃ x,(frm k es)[j]? = some x := ⟨_,List.getElem?_eq_getElem (by rw [HD.out]; exact hlt)⟩
        obtain ⟨e0,e1,e2,e3,e4,e5⟩ := hRr.cells6 hx
        have hxx := hxs j x hx
        have hJ4 : J (i0 + j) M' (wr.alloc (entO x)) := hJ _ _ _ _ hJr (Off.of_below ((Below.refl _ wr).alloc (Nat.le_refl _) _))
        obtain ⟨f2,t2,a2,b2,hy2,hR2⟩ := hY (n - 1) (i0 + j) (x, 0) M' _ hxx hJ4
        simp only [tldE] at hy2
        clear hY hxs
        have HY2 : Hid _ := hR2
        clear hR2
        gi_wp2
        refine ⟨hdd _,RoundIn.mono HY2.out ?_⟩
        have hb4 : Below wr.heap.size wr (wr.alloc (entO x)) := (Below.refl _ wr).alloc (Nat.le_refl _) _
        have hI4 := hIr.below hb4
        have hbr : b < wr.heap.size := Row.lt hRr
        have hM4 : ∀ k,M' k → k < wr.heap.size := hIr.ml
        rintro e W5 ⟨o5,l5,hcase⟩
        have hO5 : Off (fun b => A.F b ∨ M b ∨ b = l) W W5 := (hOr.step (Off.of_below (F := fun _ => False) hb4) (fun _ _ h => h.elim)).step o5 (fun k hk h => h.elim (fun h => .inr (.inl (hMr k hk h))) (fun h => .inr (.inr h)))
        have hI5 := hI4.round o5 l5
        have hOW := hOr.size
        have hlb : b ≠ l := fun e => by
          rcases hRr with ⟨_,h⟩ | ⟨b',o'',c'',cur,h1,_,_,h4,_⟩
          · cases h
          · cases h1
            obtain ⟨q,hq⟩ := hIr.lp
            rw [e,hq] at h4; cases h4
        have hR5 : RowR W5 (.slice (some ⟨b,o',none⟩) N c') (frm k es) := Row.offv (hRr.below pkR hb4) o5 (fun a n c e => by cases e; exact fun h => h.elim hMb hlb)
        have hMb5 : ¬ Grow M' (wr.alloc (entO x)) W5 b := fun h => h.elim hMb (fun h => by have := h.1; rw [World.size_alloc] at this; omega)
        have hMr5 : ∀ b,b < W.heap.size → Grow M' (wr.alloc (entO x)) W5 b → M b := fun b hb h => h.elim (hMr b hb) (fun h => by have := h.1; rw [World.size_alloc] at this; omega)
        rcases hcase with ⟨rfl,hJ5⟩ | ⟨rfl,hx5⟩
        · have HREL : Hid (∃ (j' : Nat) (M2 : Nat → Prop),Value.int .i64 ((j : Int) + 1) = .int .i64 (j' : Int) ∧ j' ≤ N ∧ J (i0 + j') M2 W5 ∧ It base A s t f l W5 M2 (r + 1) ∧ Off (fun b => A.F b ∨ M b ∨ b = l) W W5 ∧ (∀ b,b < W.heap.size → M2 b → M b) ∧ ¬ M2 b ∧ RowR W5 (.slice (some ⟨b,o',none⟩) N c') (frm k es)) := ⟨j + 1,_,by go_num,by omega,hJ5,hI5,hO5,hMr5,hMb5,hR5⟩
          clear hJ5 hI5 hO5 hMr5 hMb5 hR5 HY2 hy2 hI4 hRr hIr hOr hMr
          gi_wp2
          go_roundw
          case rel => exact HREL.out
          case measure => simp [intOf]; omega
        · clear hy2 HY2
          gi_wp2
          go_ret
          exact ⟨hO5, .inr ⟨rfl,i0 + j + 1,r + 1,by omega,hx5,hI5.pd,hI5.tr,fun _ => ⟨by omega,fun _ => by omega⟩,Nat.add_le_add_left (by decide) r⟩⟩
      · have hlt' : ¬ ((j : Int) < (N : Int)) := by omega
        obtain rfl : j = N := by omega
        clear hY
        gi_wp2
        go_ret
        exact ⟨hOr, .inl ⟨rfl,M',r + 1,by rw [HD.out]; exact hJr,hIr,hMr,fun _ => by omega,Nat.add_le_add_left (by decide) r⟩⟩
end
end Go.Proofs.YtdgbgmffpcooeaaGreat
