/- Se6 Op1 -/
import Derived.Test.YtdgbgmffpcooeaaGreatU31
import Derived.Test.YtdgbgmffpcooeaaGreatU34
namespace Go.Proofs.YtdgbgmffpcooeaaGreat
open Go.RowKit Go.Lib
section
theorem Tells.mono {α : Type} {n : Nat} {P : Program} {g : Nat} {lb : Array Value} {encs : α → Array Value} {Fb M0 : Nat → Prop} {xs : List α} {Ed Ed' : World → Prop} {Es Es' : Nat → World → Prop} {w : World} (h : Tells n P g lb encs Fb M0 xs Ed Es w) (h1 : ∀ W,Ed W → Ed' W) (h2 : ∀ i W,Es i W → Es' i W) : Tells n P g lb encs Fb M0 xs Ed' Es' w := by
 intro l J Jx W a1 a2 a3 a4 a5 a6 a7
 refine (h l J Jx W a1 a2 a3 a4 a5 a6 a7).mono ?_
 rintro e W' ⟨b1,⟨M,b2,b3⟩ | ⟨i,b2,b3,b4⟩⟩
 ·exact ⟨b1, .inl ⟨M,b2,h1 _ b3⟩⟩
 ·exact ⟨b1, .inr ⟨i,b2,b3,h2 _ _ b4⟩⟩
section
variable {w : World} {base : Nat} {A : PA} {s : PS} {x t : Nat} {dead : Bool} {f : Value} {fr : List Nat} {root : Nat} {es : List (Key × Box)} {us : List Nat} {tb : List (Int × Box)}
theorem search_live (h : IxS w base A s x t dead f fr) (hG : Gd s fr root es us tb) (hs : s.brk = false) (r : Box) (hr : r.ok) :
  Calls Tryz.prog 62 #[.pointer (some ⟨x, 0,none⟩), .agg (boxC r)] w fun e w' => ∃ v ids,e = .returned (.tuple #[v, .int .i64 0]) ∧ IsIds r tb ids ∧ w'.ownsRow w.heap.size 3 1 v ids.length (intsV ids) ∧ Off A.F w w' ∧ ∃ r,r ≤ 2000000000000 ∧ IxS w' base A (s.at_ r) x t dead f fr := by
 have hF : ∀ k,A.F k → k < w.heap.size := fun k hk => (h.pd.lt k hk).2
 have hl := hG.tr.few h.pd.n2
 have offP : ∀ (q : PS) X Y,PD X base A q → Off (fun k => w.heap.size ≤ k) X Y → PD Y base A q := fun q X Y h1 ho => h1.off ho (fun k hk hh => by have := hF k hk; omega)
 have offT : ∀ X Y,TreeB X t A f → Off (fun k => w.heap.size ≤ k) X Y → TreeB Y t A f := fun X Y h2 ho => (ho.block t h2.lt (by have := h.tr.lt; omega)).trans h2
 have hstep : ∀ n W tB kB (key : Key) (M0 : Nat → Prop) (q : PS),q.brk = false → Tr q root es us → PD W base A q → TreeB W t A f → Blk W tB 122 #[.pointer (some ⟨t, 0,none⟩)] → Blk W kB 154 #[.int .i64 key.1, .int .i64 key.2] → (∀ b,M0 b → b < W.heap.size) → (∀ b,A.F b → ¬ M0 b) → ¬ M0 t → Tells n Tryz.prog 120 #[.pointer (some ⟨tB, 0,none⟩), .pointer (some ⟨kB, 0,none⟩)] tldE A.F M0 (oks (frm key es)) (fun W => ∃ r,r ≤ 1 + 15 ^ 6 ∧ PD W base A (q.at_ r) ∧ TreeB W t A f) (fun _ W => ∃ r,r ≤ 1 + 15 ^ 6 ∧ PD W base A (q.at_ r) ∧ TreeB W t A f) W := fun n W tB kB key M0 q hq hT h1 h2 h3 h4 h5 h6 h7 => by
  have := from_live n base A q t f root es us key 12 M0 W tB kB hq hT (fun h nd u a b c d => height_le a hl d) (by omega) h1 h2 h3 h4 h5 h6 h7
  exact this.mono (fun X ⟨r1,e1,e2,e3⟩ => ⟨r1,e3.2,e1,e2⟩) (fun i X ⟨r1,e1,e2,e3⟩ => ⟨r1,e3.2,e1,e2⟩)
 obtain ⟨C,hC⟩ : ∃ C, 1 + 15 ^ 6 = C := ⟨_,rfl⟩
 have hC1 : C = 11390626 := by rw [← hC]
 rw [hC] at hstep
 refine (search_any w A x t dead r hr false es tb (fun _ => hG.idx) (by omega) (fun n W => (PD W base A s ∨ ∃ r,r ≤ (es.length + 2 - n) * C ∧ PD W base A (s.at_ r)) ∧ TreeB W t A f) (fun n W => ∃ r,r ≤ (es.length + 2 - n) * C + C ∧ PD W base A (s.at_ r) ∧ TreeB W t A f) hF h.tr.lt h.nx.1 h.ix
  (fun n X Y ⟨h1,h2⟩ ho => ⟨h1.imp (fun h1 => offP _ X Y h1 ho) (fun ⟨r,h0,h1⟩ => ⟨r,h0,offP _ X Y h1 ho⟩),offT X Y h2 ho⟩) (fun n X Y ⟨r,h0,h1,h2⟩ ho => ⟨r,h0,offP _ X Y h1 ho,offT X Y h2 ho⟩)
  (fun _ n n' W hn hlt ⟨r,h0,h1,h2⟩ => ⟨.inr ⟨r, ?_,h1⟩,h2⟩) (fun _ _ => ⟨.inl h.pd,h.tr⟩) ?_).mono ?_
 ·have h8 : (es.length + 2 - n + 1) * C ≤ (es.length + 2 - n') * C := Nat.mul_le_mul_right _ (by omega)
  rw [Nat.succ_mul] at h8
  omega
 ·rintro n W tB kB key M0 hn ⟨h1 | ⟨r0,hr0,h1⟩,h2⟩ hsz h3 h4 h5 h6 h7
  ·rw [if_neg (by simp)]
   exact (hstep 5 W tB kB key M0 s hs hG.tr h1 h2 h3 h4 h5 h6 h7).mono (fun X ⟨r1,e0,e1,e2⟩ => ⟨r1,by omega,e1,e2⟩) (fun i X ⟨r1,e0,e1,e2⟩ => ⟨r1,by omega,e1,e2⟩)
  ·have hT : Tr (s.at_ r0) root es us := hG.tr.congr rfl rfl (fun _ _ => rfl)
   rw [if_neg (by simp)]
   refine (hstep 5 W tB kB key M0 (s.at_ r0) hs hT h1 h2 h3 h4 h5 h6 h7).mono ?_ ?_
   ·rintro X ⟨r1,e0,e1,e2⟩
    rw [PS.at_at] at e1
    exact ⟨_,by omega,e1,e2⟩
   ·rintro i X ⟨r1,e0,e1,e2⟩
    rw [PS.at_at] at e1
    exact ⟨_,by omega,e1,e2⟩
 ·rintro e w' ⟨ho,⟨n,hn,r1,e0,e1,e2⟩,⟨hh,_⟩ | ⟨_,v,ids,rfl,hi,hrow⟩⟩
  ·cases hh
  ·have h8 : (es.length + 2 - n) * C ≤ (10 * 7 ^ 5 + 2) * C := Nat.mul_le_mul_right _ (by omega)
   rw [hC1] at h8 e0
   exact ⟨v,ids,rfl,hi,hrow,ho,r1,by omega,h.off (ho.mono (fun k _ hk => .inl hk)) e1 e2⟩
end
set_option maxHeartbeats 2000000 in
theorem iwin_no (w : World) (x t : Nat) (hx : IdxB w x t false) (a b c d : Int) (hn : rightB a b c d = false) :
  Calls Tryz.prog 31 #[.pointer (some ⟨x, 0,none⟩), .agg #[.int .i64 a, .int .i64 b, .int .i64 c, .int .i64 d]] w fun e w' => e = .returned (.tuple #[.slice none 0 0, .int .i64 6]) ∧ Below w.heap.size w w' := by
 have hb0 : Below w.heap.size w (w.alloc (.cells #[.int .i64 a, .int .i64 b, .int .i64 c, .int .i64 d] 34)) := (Below.refl _ w).alloc (Nat.le_refl _) _
 have hri := right_any a b c d (w.alloc (.cells #[.int .i64 a, .int .i64 b, .int .i64 c, .int .i64 d] 34))
 rw [hn] at hri
 have hxl := hx.lt
 have c1' : w.cell? ⟨x, 1,none⟩ = some (.bool false) := hx.cell 1
 clear hx hn
 go_enter Tryz.func31,Tryz.ntmps31
 go_wp2_with (go_at_call 59; refine hri.mono ?_; rintro e1 w11 ⟨rfl,hb11⟩)
 go_ret2
 exact ⟨rfl,hb0.trans (hb11.mono hb0.size)⟩
set_option maxRecDepth 100000 in
set_option maxHeartbeats 2000000 in
theorem iwin_go (w : World) (x t : Nat) (hx : IdxB w x t false) (r : Box) (hr : r.ok) (R : Ending → World → Prop)
  (hse : ∀ W,Below w.heap.size w W → Calls Tryz.prog 62 #[.pointer (some ⟨x, 0,none⟩), .agg (boxC r)] W fun e w' => ∃ (a : Option Addr) (n c : Nat) (er : Int),e = .returned (.tuple #[.slice a n c, .int .i64 er]) ∧ IdxB w' x t false ∧ R e (mindW w' x er)) :
  Calls Tryz.prog 31 #[.pointer (some ⟨x, 0,none⟩), .agg (boxC r)] w R := by
 have hb0 : Below w.heap.size w (w.alloc (.cells #[.int .i64 (r.a : Int), .int .i64 (r.b : Int), .int .i64 (r.c : Int), .int .i64 (r.d : Int)] 34)) := (Below.refl _ w).alloc (Nat.le_refl _) _
 have B0 : Blk _ w.heap.size 34 (boxC r) := Blk.new w 34 (boxC r)
 obtain ⟨W0,hW0⟩ : ∃ W0,w.alloc (.cells #[.int .i64 (r.a : Int), .int .i64 (r.b : Int), .int .i64 (r.c : Int), .int .i64 (r.d : Int)] 34) = W0 := ⟨_,rfl⟩
 rw [hW0] at hb0 B0
 have HW0 : Hid (w.alloc (.cells #[.int .i64 (r.a : Int), .int .i64 (r.b : Int), .int .i64 (r.c : Int), .int .i64 (r.d : Int)] 34) = W0) := hW0
 have hri := right_any (r.a : Int) (r.b : Int) (r.c : Int) (r.d : Int) W0
 rw [right_of_ok hr] at hri
 have hx0 : IdxB W0 x t false := (hb0.block x hx.lt).trans hx
 have c1 : W0.cell? ⟨x, 1,none⟩ = some (.bool false) := hx0.cell 1
 have q0 : W0.cell? ⟨w.heap.size, 0,none⟩ = some (.int .i64 (r.a : Int)) := B0.cell 0
 have q1 : W0.cell? ⟨w.heap.size, 1,none⟩ = some (.int .i64 (r.b : Int)) := B0.cell 1
 have q2 : W0.cell? ⟨w.heap.size, 2,none⟩ = some (.int .i64 (r.c : Int)) := B0.cell 2
 have q3 : W0.cell? ⟨w.heap.size, 3,none⟩ = some (.int .i64 (r.d : Int)) := B0.cell 3
 have B0l := B0.lt
 clear hW0 hx hx0
 go_enter Tryz.func31,Tryz.ntmps31
 go_upto_region 1 with fail
 rw [HW0.out]
 go_upto_region 5 with (go_at_call 59; refine hri.mono ?_; rintro e1 w1 ⟨rfl,hb1⟩)
 have B1 := B0.below hb1 B0l
 have hse1 := hse w1 (hb0.trans (hb1.mono hb0.size))
 have p0 : w1.cell? ⟨w.heap.size, 0,none⟩ = some (.int .i64 (r.a : Int)) := B1.cell 0
 have p1 : w1.cell? ⟨w.heap.size, 1,none⟩ = some (.int .i64 (r.b : Int)) := B1.cell 1
 have p2 : w1.cell? ⟨w.heap.size, 2,none⟩ = some (.int .i64 (r.c : Int)) := B1.cell 2
 have p3 : w1.cell? ⟨w.heap.size, 3,none⟩ = some (.int .i64 (r.d : Int)) := B1.cell 3
 clear B1 hri hse B0 q0 q1 q2 q3
 go_wp2_with (first
  | (go_at_call 62; refine hse1.mono ?_; rintro e w2 ⟨sa,sn,sc,er,rfl,hx2,hR⟩; have hmi := mind_any w2 x t false hx2 er)
  | (go_at_call 60; refine hmi.mono ?_; rintro e w4 ⟨rfl,rfl⟩))
 exact hR
end
section
def unseen (N : Nat) (ss : SS) : Nat := (List.range N).countP fun t => !ss.seen t
theorem unseen_mono {N : Nat} {a b : SS} (h : ∀ t,a.seen t = true → b.seen t = true) : unseen N b ≤ unseen N a := by
 unfold unseen
 refine List.countP_mono_left (fun t _ hb => ?_)
 cases ha : a.seen t with
 | false => rfl
 | true => rw [h t ha] at hb; cases hb
theorem unseen_upd {N : Nat} {a : SS} {sec : Nat} {l : Key} (h : sec < N) (hs : a.seen sec = false) : unseen N ⟨upd2 a.seen sec true,l⟩ < unseen N a := by
 unfold unseen
 have key : ∀ n,sec < n → (List.range n).countP (fun t => !(upd2 a.seen sec true) t) < (List.range n).countP (fun t => !a.seen t) := by
  intro n
  induction n with
  | zero => intro h; omega
  | succ n ih =>
   intro hn
   rw [List.range_succ,List.countP_append,List.countP_append]
   by_cases e : sec = n
   ·subst e
    have hm : (List.range sec).countP (fun t => !(upd2 a.seen sec true) t) ≤ (List.range sec).countP (fun t => !a.seen t) := List.countP_mono_left (fun t _ hb => by
     by_cases e : t = sec
     ·simp [upd2,e] at hb
     ·simpa [upd2,e] using hb)
    have e1 : [sec].countP (fun t => !(upd2 a.seen sec true) t) = 0 := by simp [upd2]
    have e2 : [sec].countP (fun t => !a.seen t) = 1 := by simp [hs]
    omega
   ·have := ih (by omega)
    have e3 : [n].countP (fun t => !(upd2 a.seen sec true) t) = [n].countP (fun t => !a.seen t) := by simp [upd2,Ne.symm e]
    omega
 exact key N h
theorem stoutN (s : PS) : Stout (nodesN s) := ⟨fun t r h => by have := nodesN_stands h; exact ⟨this.1,this.2.1,this.2.2.1⟩,fun t r h => by have := nodesN_stands h; exact ⟨this.1,this.2.1,this.2.2.1⟩⟩
theorem look_unseen {s : PS} {N f : Nat} {ss ss' : SS} {sec h : Nat} {n : Node Box} (e : lookF (nodesN s) N f ss sec = some (n,h,ss')) : unseen N ss' ≤ unseen N ss := by
 obtain ⟨k,es,us,_,hs⟩ := look_sound (stoutN s) f ss sec n h ss' e
 exact unseen_mono fun t ht => by rw [hs.seen,ht]; rfl
def SeenAt (W : World) (g N : Nat) (seen : Nat → Bool) : Prop := ∃ cur : Array Value,W.heap[g]? = some (.cells cur 4 (0, 0)) ∧ cur.size = N ∧ ∀ i,i < N → cur[i]? = some (.bool (seen i))
theorem SeenAt.cell {W : World} {g N : Nat} {seen : Nat → Bool} (h : SeenAt W g N seen) {i : Nat} (hi : i < N) : W.cell? ⟨g,i,none⟩ = some (.bool (seen i)) ∧ W.frozen? ⟨g,i,none⟩ = false := by
 obtain ⟨cur,h1,h2,h3⟩ := h
 exact ⟨by simp only [World.cell?,h1]; exact h3 i hi,by simp [World.frozen?,h1]⟩
theorem SeenAt.off {F : Nat → Prop} {W W' : World} {g N : Nat} {seen : Nat → Bool} (h : SeenAt W g N seen) (ho : Off F W W') (hF : ¬ F g) : SeenAt W' g N seen := by
 obtain ⟨cur,h1,h2,h3⟩ := h
 exact ⟨cur,(ho.block g (Array.getElem?_eq_some_iff.1 h1).1 hF).trans h1,h2,h3⟩
theorem SeenAt.lt {W : World} {g N : Nat} {seen : Nat → Bool} (h : SeenAt W g N seen) : g < W.heap.size := by
 obtain ⟨cur,h1,_⟩ := h
 exact (Array.getElem?_eq_some_iff.1 h1).1
theorem SeenAt.set {W : World} {g N : Nat} {seen : Nat → Bool} (h : SeenAt W g N seen) {i : Nat} (hi : i < N) : SeenAt (W.setCell ⟨g,i,none⟩ (.bool true)) g N (upd2 seen i true) := by
 obtain ⟨cur,h1,h2,h3⟩ := h
 have hb : Blk W g 4 cur := h1
 refine ⟨cur.setIfInBounds i (.bool true),hb.set i _,by simp [h2],fun j hj => ?_⟩
 by_cases e : j = i
 ·subst e; simp [upd2,h2,hj]
 ·simp [upd2,e,Ne.symm e,h3 j hj]
structure Sv (W : World) (base : Nat) (A : PA) (s : PS) (t : Nat) (f : Value) (sb g : Nat) (ss : SS) (r : Nat) : Prop where
 pd : PD W base A (s.at_ r)
 tr : TreeB W t A f
 blk : Blk W sb 173 #[.pointer (some ⟨t, 0,none⟩), .slice (some ⟨g, 0,none⟩) s.n s.n, .int .i64 ss.last.1, .int .i64 ss.last.2]
 seen : SeenAt W g s.n ss.seen
def SvF (A : PA) (sb g : Nat) (k : Nat) : Prop := A.F k ∨ k = sb ∨ k = g
section
variable {W W' : World} {base : Nat} {A : PA} {s : PS} {t : Nat} {f : Value} {sb g : Nat} {ss : SS} {r : Nat}
theorem Sv.below (h : Sv W base A s t f sb g ss r) (hb : Below W.heap.size W W') : Sv W' base A s t f sb g ss r :=
 ⟨h.pd.below hb,(hb.block t h.tr.lt).trans h.tr,(hb.block sb h.blk.lt).trans h.blk,h.seen.off (Off.of_below (F := fun _ => False) hb) (fun h => h)⟩
theorem Sv.norow (h : Sv W base A s t f sb g ss r) : ∀ k,SvF A sb g k → ¬ RowTag W k := fun k hk hr => by
 rcases hk with hk | rfl | rfl
 ·exact h.pd.norow k hk hr
 ·have hb : W.heap[k]? = _ := h.blk
  rcases hr with ⟨c2,hr⟩ | ⟨c2,hr⟩ <;> rw [hb] at hr <;> simp at hr
 ·obtain ⟨cur,hb,_⟩ := h.seen
  rcases hr with ⟨c2,hr⟩ | ⟨c2,hr⟩ <;> rw [hb] at hr <;> simp at hr
end
theorem nodeV_first {W : World} {v : Value} {nd : Node Box} (h : NodeV W v nd) (hs : 1 ≤ nd.size) : ∃ T x y ff, v = .iface T x ∧ (∀ w, (method 447 T x (nm "first")).run Tryz.prog w = .ok (ff, y) w) ∧ (∀ (args : Array Value) (w : World), (callFunc ff args).run Tryz.prog w = .ok (.enter ff args) w) ∧ ∀ W', NodeV W' v nd → Calls Tryz.prog ff #[y] W' fun e w' => e = .returned (keyV nd.fk) ∧ Below W'.heap.size W' w' := by
 cases nd with
 | leaf r =>
  obtain ⟨s,rfl,hr⟩ := h
  obtain ⟨a,c,rfl,_⟩ := hr.len pkR
  cases r with
  | nil => simp [Node.size] at hs
  | cons x r =>
   refine ⟨191,_, .slice a (x :: r).length c, 131,rfl,m_lfirst a _ c,fun args w => by simp,fun W' ⟨s',e,h'⟩ => ?_⟩
   cases e
   exact firstR_any W' _ (x :: r) h' x r rfl
 | branch r =>
  obtain ⟨s,rfl,hr⟩ := h
  obtain ⟨a,c,rfl,_⟩ := hr.len pkS
  cases r with
  | nil => simp [Node.size] at hs
  | cons x r =>
   refine ⟨214,_, .slice a (x :: r).length c, 266,rfl,m_bfirst a _ c,fun args w => by simp,fun W' ⟨s',e,h'⟩ => ?_⟩
   cases e
   exact firstS_any W' _ (x :: r) h' x r rfl
def LookP (base : Nat) (A : PA) (s : PS) (t : Nat) (f : Value) (sb g : Nat) (res : Option (Node Box × Nat × SS)) (W : World) (e : Ending) (W' : World) : Prop :=
 Off (SvF A sb g) W W' ∧ match res with
 | some x => ∃ v r',e = .returned (.tuple #[v, .int .i64 (x.2.1 : Int), .int .i64 0]) ∧ NodeV W' v x.1 ∧ Stands x.1 ∧ Sv W' base A s t f sb g x.2.2 r'
 | none => e = .returned (.tuple #[.nilIface, .int .i64 0, .int .i64 7]) ∧ ∃ ss' r',Sv W' base A s t f sb g ss' r'
def UnderP (base : Nat) (A : PA) (s : PS) (t : Nat) (f : Value) (sb g : Nat) (res : Option (Nat × SS)) (W : World) (e : Ending) (W' : World) : Prop :=
 Off (SvF A sb g) W W' ∧ match res with
 | some x => ∃ r',e = .returned (.tuple #[.int .i64 (x.1 : Int), .int .i64 0]) ∧ Sv W' base A s t f sb g x.2 r'
 | none => e = .returned (.tuple #[.int .i64 0, .int .i64 7]) ∧ ∃ ss' r',Sv W' base A s t f sb g ss' r'
end
end Go.Proofs.YtdgbgmffpcooeaaGreat
