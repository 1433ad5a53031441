/- Se2 Se3 Mk1 Se4 -/
import Derived.Test.YtdgbgmffpcooeaaGreatU29
import Derived.Scope
import Derived.Sort.LoopGhostIn
namespace Go.Proofs.YtdgbgmffpcooeaaGreat
section
def inWin (r : Box) (t : Nat) : Prop := ∃ x y,r.has x y ∧ code x y = t
def mcW (r : Box) (p : Nat) : Prop := CellOk (cellAt p) ∧ place (cellAt p) = p ∧ Meets (inWin r) (cellAt p)
def mvW (r v : Box) : Prop := (both v r).ok
theorem next_is {r : Box} {c f : Nat} (h : IsNext c r (f : Int)) : NextIs (inWin r) c f := by
 rcases h with ⟨x,y,h1,h2,h3,h4⟩ | ⟨h,_⟩
 ·have e : f = code x y := Int.ofNat.inj h2
  rw [e]
  refine ⟨h3,⟨x,y,h1,rfl⟩,fun t ht hw => ?_⟩
  obtain ⟨x',y',g1,g2⟩ := hw
  rw [← g2] at ht ⊢
  exact h4 x' y' g1 ht
 ·omega
theorem nextC_start {r : Box} {cd : Nat} {c : Nat × Nat} (h : NextC r cd c true) : ∀ q,mcW r q → cd ≤ (cellAt q).1 → place c ≤ q := by
 rintro q ⟨h1,h2,h3⟩ hc
 rcases h with ⟨_,f,k,_,rfl,hn,hw⟩ | ⟨h,_⟩
 ·have := next_first (next_is hn) hw h1 hc h3
  rwa [h2] at this
 ·cases h
theorem nextC_none {r : Box} {cd : Nat} {c : Nat × Nat} (h : NextC r cd c false) : ∀ q,mcW r q → ¬ cd ≤ (cellAt q).1 := by
 rintro q ⟨h1,h2,t,t1,t2,x,y,hx,hxy⟩ hc
 rcases h with ⟨h,_⟩ | ⟨_,h⟩
 ·cases h
 ·have := h x y hx
  rw [hxy] at this
  omega
theorem meet_square {r : Box} {c : Nat × Nat} (hc : CellOk c) (hr : r.ok) : (both (sqr (c.1 / 4 ^ c.2) c.2) r).ok ↔ Meets (inWin r) c := by
 obtain ⟨r1,r2,r3,r4⟩ := hr
 have q := Nat.pow_pos (n := c.2) (show 0 < 4 by decide)
 have hmul : c.1 / 4 ^ c.2 * 4 ^ c.2 = c.1 := Nat.div_mul_cancel hc.mul
 have htop : (c.1 / 4 ^ c.2 + 1) * 4 ^ c.2 ≤ 4294967296 := by
  have ht := hc.top
  have hd : 4 ^ c.2 ∣ 4 ^ 16 := Nat.pow_dvd_pow 4 hc.size
  obtain ⟨m,hm⟩ := hd
  have hlt : c.1 / 4 ^ c.2 < m := by
   rw [Nat.div_lt_iff_lt_mul q,Nat.mul_comm]; rw [← hm]; exact ht
  have : (c.1 / 4 ^ c.2 + 1) * 4 ^ c.2 ≤ m * 4 ^ c.2 := Nat.mul_le_mul_right _ hlt
  rw [Nat.mul_comm m] at this
  rw [← hm] at this
  simpa using this
 have hhas := fun x y hx hy => sqr_has (c.1 / 4 ^ c.2) c.2 x y hc.size htop hx hy
 have hin : ∀ x y,x < 65536 → y < 65536 → ((sqr (c.1 / 4 ^ c.2) c.2).has x y ↔ c.1 ≤ code x y ∧ code x y < cend c) := fun x y hx hy => by
  rw [hhas x y hx hy]
  unfold cend
  rw [Nat.div_eq_iff q]
  constructor
  ·intro h; omega
  ·intro h; omega
 constructor
 ·rintro ⟨h1,h2,h3,h4⟩
  have ha : (sqr (c.1 / 4 ^ c.2) c.2).has (max (sqr (c.1 / 4 ^ c.2) c.2).a r.a) (max (sqr (c.1 / 4 ^ c.2) c.2).b r.b) := by
   simp only [both] at h1 h3
   exact ⟨by omega,by omega,by omega,by omega⟩
  have hb : r.has (max (sqr (c.1 / 4 ^ c.2) c.2).a r.a) (max (sqr (c.1 / 4 ^ c.2) c.2).b r.b) := by
   simp only [both] at h1 h3
   exact ⟨by omega,by omega,by omega,by omega⟩
  obtain ⟨g1,g2⟩ := (hin _ _ (by have := hb.2.1; omega) (by have := hb.2.2.2; omega)).1 ha
  exact ⟨_,g1,g2,_,_,hb,rfl⟩
 ·rintro ⟨t,t1,t2,x,y,hx,rfl⟩
  obtain ⟨x1,x2,x3,x4⟩ := hx
  obtain ⟨s1,s2,s3,s4⟩ := (hin x y (by omega) (by omega)).2 ⟨t1,t2⟩
  exact ⟨by simp only [both]; omega,by simp only [both]; omega,by simp only [both]; omega,by simp only [both]; omega⟩
theorem cover_meets {r v : Box} (hv : v.ok) (hr : r.ok) (h : mvW r v) : ∃ p ∈ plc v,mcW r p := by
 obtain ⟨h1,h2,h3,h4⟩ := h
 obtain ⟨r1,r2,r3,r4⟩ := hr
 simp only [both] at h1 h2 h3 h4
 have hvx : v.has (max v.a r.a) (max v.b r.b) := ⟨by omega,by omega,by omega,by omega⟩
 have hrx : r.has (max v.a r.a) (max v.b r.b) := ⟨by omega,by omega,by omega,by omega⟩
 have hc := covL_is hv
 obtain ⟨c,hcm,hce⟩ := hc.point hv hvx
 have hok := cover_cell hv hc hcm
 have hk : c.2 = (covers_of v hv).choose := (hc.good hv hcm).two
 have q := Nat.pow_pos (n := c.2) (show 0 < 4 by decide)
 rw [← hk] at hce
 have hmul : c.1 / 4 ^ c.2 * 4 ^ c.2 = c.1 := Nat.div_mul_cancel hok.mul
 refine ⟨place c,List.mem_map.2 ⟨c,hcm,rfl⟩, ?_⟩
 have e := cellAt_place hok.size
 unfold mcW
 rw [e]
 refine ⟨hok,rfl,code (max v.a r.a) (max v.b r.b), ?_, ?_,⟨_,_,hrx,rfl⟩⟩
 ·rw [← hmul,hce]; exact Nat.div_mul_le_self _ _
 ·have := Nat.lt_div_mul_add (a := code (max v.a r.a) (max v.b r.b)) q
  unfold cend
  rw [← hce,hmul] at this
  exact this
theorem frm_later {V : Type} {es pre l : List (Key × V)} {x : Key × V} {k k' : Key} (hr : Rising es) (h : frm k es = pre ++ x :: l) (hx : klt x.1 k') : frm k' es = frm k' l := by
 have hr1 : Rising (pre ++ x :: l) := h ▸ rising_frm hr
 have hr2 : Rising (x :: l) := hr1.sub (List.sublist_append_right ..)
 have hxk : ¬ klt x.1 k := (mem_frm.1 (h ▸ List.mem_append_right pre List.mem_cons_self : x ∈ frm k es)).2
 refine rising_ext (rising_frm hr) (rising_frm (hr2.sub (List.sublist_cons_self ..))) fun y => ?_
 rw [mem_frm,mem_frm]
 constructor
 ·rintro ⟨hy,hk⟩
  have hyk : ¬ klt y.1 k := by unfold klt at *; omega
  have hm : y ∈ pre ++ x :: l := h ▸ mem_frm.2 ⟨hy,hyk⟩
  refine ⟨?_,hk⟩
  rcases List.mem_append.1 hm with g | g
  ·exfalso
   have := (List.pairwise_append.1 hr1).2.2 y g x List.mem_cons_self
   unfold klt at *
   omega
  ·rcases List.mem_cons.1 g with rfl | g
   ·exact absurd hx hk
   ·exact g
 ·rintro ⟨hy,hk⟩
  exact ⟨(mem_frm.1 (h ▸ List.mem_append_right pre (List.mem_cons_of_mem _ hy) : y ∈ frm k es)).1,hk⟩
theorem frm_len {V : Type} (k : Key) (l : List (Key × V)) : (frm k l).length ≤ l.length := List.length_filter_le ..
end
section
theorem nextC_ok {r : Box} {cd : Nat} {c : Nat × Nat} (h : NextC r cd c true) : CellOk c ∧ cd ≤ c.1 := by
 rcases h with ⟨_,f,k,hf,rfl,_,hw⟩ | ⟨h,_⟩
 ·exact ⟨around_ok hw.1 (by simpa using hf),hw.2.1⟩
 ·cases h
theorem nextC_zero {r : Box} {c : Nat × Nat} (hr : r.ok) : ¬ NextC r 0 c false := by
 rintro (⟨h,_⟩ | ⟨_,h⟩)
 ·cases h
 ·have := h r.a r.b ⟨Nat.le_refl _,hr.1,Nat.le_refl _,by have := hr.2.2; omega⟩
  omega
theorem ent_kind {tb : List (Int × Box)} {es : List (Key × Box)} (h : Idx plc tb es) {x : Key × Box} (hx : x ∈ es) : (0 ≤ x.1.2 ∧ x.1.2 ≤ 4611686018427387904) ∧ (x.1.1 = NUM ∨ ∃ c,CellOk c ∧ x.1.1 = (place c : Int)) := by
 obtain ⟨h1,h2⟩ := h.of_mem hx
 have hi := h.id _ h1
 have hp := h.pl _ h1
 refine ⟨hi, ?_⟩
 rcases mem_ents.1 h2 with e | ⟨p,hpm,e⟩
 ·left; rw [e]
 ·right
  have hv : x.2.ok := Classical.byContradiction fun hv => by
   have := hp.one
   unfold plc covL at this
   rw [dif_neg hv] at this
   simp at this
  obtain ⟨c,hc,hcp⟩ := List.mem_map.1 hpm
  refine ⟨c,cover_cell hv (covL_is hv) hc, ?_⟩
  rw [e,hcp]
structure Sea (r : Box) (tb : List (Int × Box)) (es : List (Key × Box)) (acc : List Int) (l : List (Key × Box)) : Prop where
 todo : Todo (mcW r) (mvW r) es acc l
 sound : Sound (mvW r) tb acc
 len : acc.length + l.length ≤ es.length
theorem Sea.start {r : Box} {tb : List (Int × Box)} {es : List (Key × Box)} {c : Nat × Nat} (h : Idx plc tb es) (hc : NextC r 0 c true) : Sea r tb es [] (frm ((place c : Int), 0) es) :=
 ⟨todo_start [] (fun e _ q _ _ hq => nextC_start hc q hq (Nat.zero_le _)) (fun e he => (ent_kind h he).1.1),Sound.nil _,by have := frm_len ((place c : Int), 0) es; simpa using this⟩
theorem Sea.yes {r : Box} {tb : List (Int × Box)} {es l : List (Key × Box)} {acc : List Int} {x : Key × Box} (h : Idx plc tb es) (hs : Sea r tb es acc (x :: l)) (hx : x ∈ es) (hm : (both x.2 r).ok) : Sea r tb es (acc ++ [x.1.2]) l :=
 ⟨todo_yes hs.todo,hs.sound.more h hx hm,by have := hs.len; simp at *; omega⟩
theorem Sea.no {r : Box} {tb : List (Int × Box)} {es l : List (Key × Box)} {acc : List Int} {x : Key × Box} (hs : Sea r tb es acc (x :: l)) (hm : ¬ (both x.2 r).ok) : Sea r tb es acc l :=
 ⟨todo_no hs.todo hm,hs.sound,by have := hs.len; simp at *; omega⟩
theorem Sea.num {r : Box} {tb : List (Int × Box)} {es l : List (Key × Box)} {acc : List Int} {x : Key × Box} (hs : Sea r tb es acc (x :: l)) (hr : Rising (x :: l)) (hx : x.1.1 = NUM) : Sea r tb es acc [] :=
 ⟨todo_num hs.todo hr hx,hs.sound,by have := hs.len; simp at *; omega⟩
theorem Sea.leap {r : Box} {tb : List (Int × Box)} {es l pre : List (Key × Box)} {acc : List Int} {x : Key × Box} {d c : Nat × Nat} {k : Key} (h : Idx plc tb es) (he : frm k es = pre ++ x :: l) (hs : Sea r tb es acc (x :: l)) (hd : CellOk d) (hx : x.1.1 = (place d : Int)) (hm : ¬ Meets (inWin r) d) (hc : NextC r (cend d) c true) :
  Sea r tb es acc (frm ((place c : Int), 0) es) ∧ (frm ((place c : Int), 0) es).length < (frm k es).length := by
 have hr : Rising (x :: l) := (he ▸ rising_frm h.ris : Rising (pre ++ x :: l)).sub (List.sublist_append_right ..)
 obtain ⟨hco,hcd⟩ := nextC_ok hc
 have hlt : klt x.1 ((place c : Int), 0) := by
  unfold klt
  left
  rw [hx]
  have := hd.size
  have := hco.size
  have := pow_pos4 d.2
  unfold cend at hcd
  unfold place
  simp only
  omega
 have hl := frm_later h.ris he hlt
 have hll := frm_len ((place c : Int), 0) l
 refine ⟨⟨todo_leap hs.todo hr (fun e _ q _ _ hxq hq => nextC_start hc q hq ?_) (fun e he => (ent_kind h he).1.1),hs.sound, ?_⟩, ?_⟩
 ·refine behind_end hd hq.1 ?_ hm hq.2.2
  rw [hq.2.1]
  rw [hx] at hxq
  omega
 ·have := hs.len
  rw [hl]
  simp at this
  omega
 ·rw [hl,he]
  simp
  omega
theorem Sea.none {r : Box} {tb : List (Int × Box)} {es l : List (Key × Box)} {acc : List Int} {x : Key × Box} {d c : Nat × Nat} (hs : Sea r tb es acc (x :: l)) (hr : Rising (x :: l)) (hd : CellOk d) (hx : x.1.1 = (place d : Int)) (hm : ¬ Meets (inWin r) d) (hc : NextC r (cend d) c false) : Sea r tb es acc [] :=
 ⟨todo_none hs.todo hr (fun e _ q _ _ hxq hq => nextC_none hc q hq (behind_end hd hq.1 (by rw [hq.2.1]; rw [hx] at hxq; omega) hm hq.2.2)),hs.sound,by have := hs.len; simp at *; omega⟩
def IsIds (r : Box) (tb : List (Int × Box)) (ids : List Int) : Prop := (∀ x,x ∈ ids ↔ ∃ v,(x,v) ∈ tb ∧ (both v r).ok) ∧ ids.Pairwise (· < ·)
theorem Sea.done {r : Box} {tb : List (Int × Box)} {es : List (Key × Box)} {acc : List Int} (h : Idx plc tb es) (hr : r.ok) (hs : Sea r tb es acc []) (x : Int) : x ∈ acc ↔ ∃ v,(x,v) ∈ tb ∧ (both v r).ok := by
 refine todo_done h hs.todo hs.sound (fun t ht hm => ?_) x
 have hv : t.2.ok := Classical.byContradiction fun hv => by
  have := (h.pl t ht).one
  unfold plc covL at this
  rw [dif_neg hv] at this
  simp at this
 exact cover_meets hv hr hm
end
end Go.Proofs.YtdgbgmffpcooeaaGreat
namespace Go.Proofs.YtdgbgmffpcooeaaGreat
open Go.RowKit Go.Lib Go.Shelf
section
def marks (rs : List Nat) : List Deferred := rs.map fun r => { target := .collected r,args := #[] }
theorem leaves_marks {F : Fence} {n : Nat} {P : Program} {fn : Func} {tmps : Array Value} {R : Ending → World → Prop} : ∀ (rs : List Nat) (W : World),rs.Nodup → (∀ r ∈ rs,W.heap[r]? = some (.deferred (some []))) →
  (∀ W',Off (fun k => k ∈ rs) W W' → LeavesIn F n P fn tmps R [] .returning W') → LeavesInM F n P fn tmps R (marks rs) .returning W
 | [],W,_,_,h => h W (Off.refl _ _)
 | r :: rs,W,hn,hd,h => by
  have hr := hd r List.mem_cons_self
  have ho := off_putObj W r (.deferred none)
  obtain ⟨hn1,hn2⟩ := List.nodup_cons.1 hn
  refine ⟨by simp, .inl ⟨r,_,rfl,run_takeDeferred hr, ?_⟩⟩
  refine leaves_marks rs _ hn2 (fun r' hr' => ?_) (fun W' hW' => h W' ?_)
  ·have h' := hd r' (List.mem_cons_of_mem _ hr')
   exact (ho.block r' (Array.getElem?_eq_some_iff.1 h').1 (fun e => hn1 (e ▸ hr'))).trans h'
  ·exact (ho.mono (fun k _ e => by rw [e]; exact List.mem_cons_self)).trans (hW'.mono (fun k _ hk => List.mem_cons_of_mem _ hk))
end
end Go.Proofs.YtdgbgmffpcooeaaGreat
namespace Go.Proofs.YtdgbgmffpcooeaaGreat
open Go.RowKit Go.Lib
section
theorem wpIn_scope_wide {n : Nat} {P : Program} {c : Code} {Q : Exit → Act → World → Prop} {a : Act} {w : World} (h : c.wpIn Fence.wide n P (Exit.noGoto Q) a w) : (Code.scope c).wpIn Fence.wide n P Q a w := wpIn_wide.2 (wp_scope_straight (wpIn_wide.1 h))
theorem blk_ne {W : World} {a b t1 t2 : Nat} {v1 v2 : Array Value} (h1 : Blk W a t1 v1) (h2 : Blk W b t2 v2) (ht : t1 ≠ t2) : a ≠ b := fun e => by
 subst e
 have e1 : W.heap[a]? = _ := h1
 have e2 : W.heap[a]? = _ := h2
 rw [e1] at e2
 simp at e2
 exact ht e2.2
structure Sb (w : World) (A : PA) (x t : Nat) (dead : Bool) (r : Box) (rs : List Nat) (B7 B8 : Nat) (sv : Value) (acc : List Int) (c : Nat × Nat) (more : Bool) (W : World) : Prop where
 b3 : Blk W w.heap.size 34 (boxC r)
 b4 : Blk W (w.heap.size + 1) 35 #[.slice none 0 0]
 b5 : Blk W (w.heap.size + 1 + 1) 26 #[.int .i64 0]
 b6 : Blk W (w.heap.size + 1 + 1 + 1) 35 #[sv]
 b7 : Blk W B7 99 #[.int .i64 (c.1 : Int), .int .i64 (c.2 : Int)]
 b8 : Blk W B8 4 #[.bool more]
 row : W.ownsRow w.heap.size 3 1 sv acc.length (intsV acc)
 ix : IdxB W x t dead
 off : Off A.F w W
 nd : rs.Nodup
 mks : ∀ k ∈ rs,W.heap[k]? = some (.deferred (some []))
 ge : w.heap.size ≤ B7 ∧ w.heap.size ≤ B8
 ger : ∀ k ∈ rs,w.heap.size ≤ k
section
variable {w X Y : World} {A : PA} {x t : Nat} {dead : Bool} {r : Box} {rs : List Nat} {B7 B8 : Nat} {sv : Value} {acc : List Int} {c : Nat × Nat} {more : Bool}
def Sk (w : World) (rs : List Nat) (B7 B8 : Nat) (sv : Value) (k : Nat) : Prop := k = w.heap.size ∨ k = w.heap.size + 1 ∨ k = w.heap.size + 1 + 1 ∨ k = w.heap.size + 1 + 1 + 1 ∨ k = B7 ∨ k = B8 ∨ sv.ownBlock = some k ∨ k ∈ rs
theorem Sb.offs (h : Sb w A x t dead r rs B7 B8 sv acc c more X) {G : Nat → Prop} (ho : Off G X Y) (hF : ∀ k,A.F k → k < w.heap.size) (hxF : ¬ A.F x) (hxl : x < w.heap.size) (hG : ∀ k,G k → A.F k ∨ (w.heap.size ≤ k ∧ ¬ Sk w rs B7 B8 sv k)) : Sb w A x t dead r rs B7 B8 sv acc c more Y := by
 have hk : ∀ k,w.heap.size ≤ k → Sk w rs B7 B8 sv k → ¬ G k := fun k hk1 hk2 hg => by
  rcases hG k hg with h1 | ⟨_,h1⟩
  ·have := hF k h1; omega
  ·exact h1 hk2
 refine ⟨h.b3.off ho (hk _ (Nat.le_refl _) (.inl rfl)),h.b4.off ho (hk _ (by omega) (.inr (.inl rfl))),h.b5.off ho (hk _ (by omega) (.inr (.inr (.inl rfl)))),h.b6.off ho (hk _ (by omega) (.inr (.inr (.inr (.inl rfl))))),h.b7.off ho (hk _ h.ge.1 (.inr (.inr (.inr (.inr (.inl rfl)))))),h.b8.off ho (hk _ h.ge.2 (.inr (.inr (.inr (.inr (.inr (.inl rfl))))))),own_offv h.row ho (fun g hg => hk g (own_tagged h.row hg).1 (.inr (.inr (.inr (.inr (.inr (.inr (.inl hg)))))))),(ho.block x h.ix.lt (fun hg => ?_)).trans h.ix,h.off.step ho (fun k hk1 hg => ?_),h.nd,fun k hm => ?_,h.ge,h.ger⟩
 ·rcases hG x hg with h1 | ⟨h1,_⟩
  ·exact hxF h1
  ·omega
 ·rcases hG k hg with h1 | ⟨h1,_⟩
  ·exact h1
  ·omega
 ·have hm' := h.mks k hm
  exact (ho.block k (Array.getElem?_eq_some_iff.1 hm').1 (hk k (h.ger k hm) (.inr (.inr (.inr (.inr (.inr (.inr (.inr hm))))))))).trans hm'
theorem Sb.below (h : Sb w A x t dead r rs B7 B8 sv acc c more X) (hb : Below X.heap.size X Y) (hF : ∀ k,A.F k → k < w.heap.size) (hxF : ¬ A.F x) (hxl : x < w.heap.size) : Sb w A x t dead r rs B7 B8 sv acc c more Y :=
 h.offs (G := fun _ => False) (Off.of_below hb) hF hxF hxl (fun _ h => h.elim)
theorem mk_ne (h : Sb w A x t dead r rs B7 B8 sv acc c more X) {k : Nat} {cs : Array Value} {ty : TypeId} {fr : Nat × Nat} (hk : X.heap[k]? = some (.cells cs ty fr)) : k ∉ rs := fun hm => by
 have := h.mks k hm
 rw [hk] at this
 simp at this
theorem Sb.put78 (h : Sb w A x t dead r rs B7 B8 sv acc c more X) (c' : Nat × Nat) (more' : Bool) (hxl : x < w.heap.size) (ho : Off (fun k => k = B7 ∨ k = B8) X Y) (h7 : Blk Y B7 99 #[.int .i64 (c'.1 : Int), .int .i64 (c'.2 : Int)]) (h8 : Blk Y B8 4 #[.bool more']) : Sb w A x t dead r rs B7 B8 sv acc c' more' Y := by
 have n : ∀ k,k ≠ B7 → k ≠ B8 → ¬ (k = B7 ∨ k = B8) := fun k h1 h2 h => h.elim h1 h2
 refine ⟨h.b3.off ho (n _ (blk_ne h.b3 h.b7 (by decide)) (blk_ne h.b3 h.b8 (by decide))),h.b4.off ho (n _ (blk_ne h.b4 h.b7 (by decide)) (blk_ne h.b4 h.b8 (by decide))),h.b5.off ho (n _ (blk_ne h.b5 h.b7 (by decide)) (blk_ne h.b5 h.b8 (by decide))),h.b6.off ho (n _ (blk_ne h.b6 h.b7 (by decide)) (blk_ne h.b6 h.b8 (by decide))),h7,h8,own_offv h.row ho (fun g hg => n _ (own_ne h.row h.b7 (by decide) g hg) (own_ne h.row h.b8 (by decide) g hg)),(ho.block x h.ix.lt (by have := h.ge; omega)).trans h.ix,h.off.step ho (fun k hk1 hg => by have := h.ge; omega),h.nd,fun k hm => ?_,h.ge,h.ger⟩
 have hm' := h.mks k hm
 refine (ho.block k (Array.getElem?_eq_some_iff.1 hm').1 (n _ (fun e => ?_) (fun e => ?_))).trans hm'
 ·subst e; exact mk_ne h h.b7 hm
 ·subst e; exact mk_ne h h.b8 hm
theorem Sb.grow (h : Sb w A x t dead r rs B7 B8 sv acc c more X) {sv' : Value} {i : Int} {Z : World} (hxl : x < w.heap.size) (hg : X.grownBy Y sv.ownBlock) (hrow : Y.ownsRow w.heap.size 3 1 sv' (acc.length + 1) (intsV acc ++ [.int .i64 i]))
  (hZ : Z = Y.setCell ⟨w.heap.size + 1 + 1 + 1, 0,none⟩ sv') : Sb w A x t dead r rs B7 B8 sv' (acc ++ [i]) c more Z ∧ Off (fun k => k = w.heap.size + 1 + 1 + 1 ∨ sv.ownBlock = some k) X Z := by
 have oG : Off (fun k => sv.ownBlock = some k) X Y := (Off.refl _ X).grown hg (fun j hj => .inl hj)
 have oZ : Off (fun k => k = w.heap.size + 1 + 1 + 1) Y Z := by rw [hZ]; exact Off.one _ _
 have ho : Off (fun k => k = w.heap.size + 1 + 1 + 1 ∨ sv.ownBlock = some k) X Z := (oG.mono fun k _ e => .inr e).trans (oZ.mono fun k _ e => .inl e)
 have hlt : ∀ k,sv.ownBlock = some k → w.heap.size ≤ k := fun k hk => (own_tagged h.row hk).1
 have y6 : Blk Y (w.heap.size + 1 + 1 + 1) 35 #[sv] := h.b6.off oG (fun hg => own_ne h.row h.b6 (by decide) _ hg rfl)
 have z6 : Blk Z (w.heap.size + 1 + 1 + 1) 35 #[sv'] := by rw [hZ]; exact y6.set 0 sv'
 have hs6 := y6.lt
 refine ⟨⟨h.b3.off ho (fun hg => ?_),h.b4.off ho (fun hg => ?_),h.b5.off ho (fun hg => ?_),z6,h.b7.off ho (fun hg => ?_),h.b8.off ho (fun hg => ?_), ?_,(ho.block x h.ix.lt (fun hg => ?_)).trans h.ix,h.off.step ho (fun k hk1 hg => ?_),h.nd,fun k hm => ?_,h.ge,h.ger⟩,ho⟩
 ·rcases hg with hg | hg
  ·omega
  ·exact own_ne h.row h.b3 (by decide) _ hg rfl
 ·rcases hg with hg | hg
  ·omega
  ·exact own_ne h.row h.b4 (by decide) _ hg rfl
 ·rcases hg with hg | hg
  ·omega
  ·exact own_ne h.row h.b5 (by decide) _ hg rfl
 ·rcases hg with hg | hg
  ·exact blk_ne h.b7 h.b6 (by decide) hg
  ·exact own_ne h.row h.b7 (by decide) _ hg rfl
 ·rcases hg with hg | hg
  ·exact blk_ne h.b8 h.b6 (by decide) hg
  ·exact own_ne h.row h.b8 (by decide) _ hg rfl
 ·have e1 : (acc ++ [i]).length = acc.length + 1 := by simp
  have e2 : intsV (acc ++ [i]) = intsV acc ++ [.int .i64 i] := by simp [intsV]
  rw [e1,e2]
  refine own_offv hrow oZ (fun g hg e => ?_)
  subst e
  obtain ⟨_,cs,hc⟩ := own_tagged hrow hg
  have e6 : Y.heap[w.heap.size + 1 + 1 + 1]? = _ := y6
  rw [hc] at e6
  simp at e6
 ·rcases hg with hg | hg
  ·omega
  ·have := hlt x hg; omega
 ·rcases hg with hg | hg
  ·omega
  ·have := hlt k hg; omega
 ·have hm' := h.mks k hm
  refine (ho.block k (Array.getElem?_eq_some_iff.1 hm').1 (fun hg => ?_)).trans hm'
  rcases hg with hg | hg
  ·subst hg; exact mk_ne h h.b6 hm
  ·obtain ⟨_,cs,hc⟩ := own_tagged h.row hg
   exact mk_ne h hc hm
end
end
end Go.Proofs.YtdgbgmffpcooeaaGreat
