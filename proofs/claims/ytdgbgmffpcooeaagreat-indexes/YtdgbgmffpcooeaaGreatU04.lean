/- Next -/
import Derived.Test.YtdgbgmffpcooeaaGreatU03
namespace Go.Proofs.YtdgbgmffpcooeaaGreat
open Go.RowKit Go.Shelf
section
attribute [local go_sem] Oper.semAt_some
def Blk (W : World) (B : Nat) (t : TypeId) (vs : Array Value) : Prop := W.heap[B]? = some (.cells vs t (0, 0))
theorem Blk.lt {W : World} {B : Nat} {t : TypeId} {vs : Array Value} (h : Blk W B t vs) : B < W.heap.size := (Array.getElem?_eq_some_iff.1 h).1
theorem Blk.cell {W : World} {B : Nat} {t : TypeId} {vs : Array Value} (h : Blk W B t vs) (i : Nat) : W.cell? ⟨B,i,none⟩ = vs[i]? := by simp [World.cell?,show W.heap[B]? = _ from h]
theorem Blk.frozen {W : World} {B : Nat} {t : TypeId} {vs : Array Value} (h : Blk W B t vs) (i : Nat) : W.frozen? ⟨B,i,none⟩ = false := by simp [World.frozen?,show W.heap[B]? = _ from h]
theorem Blk.new (W : World) (t : TypeId) (vs : Array Value) : Blk (W.alloc (.cells vs t)) W.heap.size t vs := World.alloc_heap_new W _
theorem Blk.kept {W W' : World} {row : Option Nat} {B : Nat} {t : TypeId} {vs : Array Value} (h : Blk W B t vs) (hg : W.grownBy W' row) (hne : some B ≠ row) : Blk W' B t vs := (hg.block B h.lt hne).trans h
theorem Blk.alloc {W : World} {B : Nat} {t : TypeId} {vs : Array Value} (h : Blk W B t vs) (o : Obj) : Blk (W.alloc o) B t vs := h.kept (World.grownBy_alloc W o none) (by simp)
theorem Blk.below {W W' : World} {B n : Nat} {t : TypeId} {vs : Array Value} (h : Blk W B t vs) (hb : Below n W W') (hn : B < n) : Blk W' B t vs := (hb.block B hn).trans h
theorem blk_own {β : Type} (B : Nat) (t : TypeId) (f : β → Array Value) : Own (fun s W => Blk W B t (f s)) := fun s X Y row hs hg hrow =>
 hs.kept hg (fun e' => by obtain ⟨o,ho,hc⟩ := hrow B e'.symm; rw [show X.heap[B]? = _ from hs] at ho; cases ho; cases hc)
theorem keeps_of_below {W W' : World} (h : Below W.heap.size W W') : KeepsOthers W W' := ⟨h.size,fun k _ hk _ => (h.block k (Array.getElem?_eq_some_iff.1 hk).1).trans hk⟩
theorem keeps_below_from {n : Nat} {W W' : World} (h : Below W.heap.size W W') : KeepsFrom n W W' := (keeps_of_below h).from n
def clear (r : Box) (l : List Cel) : Prop := ∀ q ∈ l, ¬ ∃ x y,(sqr q.p q.k).has x y ∧ r.has x y
theorem clear_snoc {r : Box} {l : List Cel} {q : Cel} (h : clear r l) (hq : ¬ (both (sqr q.p q.k) r).ok) : clear r (l ++ [q]) := by
 intro q' hq'
 rcases List.mem_append.1 hq' with h' | h'
 ·exact h q' h'
 ·rw [List.mem_singleton.1 h']; exact none_of_both hq (sqr_lt q.p q.k (by have := q.hk; omega))
theorem found_none {c : Nat} {r : Box} {xs : List Cel} (hr : r.ok) (h : chain c (pks xs) 4294967296) (hc : clear r xs) : IsNext c r (-1) := by
 refine next_none hr h ?_ ?_
 ·intro q hq
  obtain ⟨x,_,rfl⟩ := List.mem_map.1 hq
  exact ⟨by have := x.hk; simp only [Cel.pk]; omega,x.hp⟩
 ·intro q hq
  obtain ⟨x,hx,rfl⟩ := List.mem_map.1 hq
  exact hc x hx
theorem found_some {c b : Nat} {r : Box} {pre : List Cel} {q : Cel} (hr : r.ok) (h : chain c (pks (pre ++ [q])) b) (hc : clear r pre) (hok : (both (sqr q.p q.k) r).ok) :
  IsNext c r (code (both (sqr q.p q.k) r).a (both (sqr q.p q.k) r).b) := by
 rw [pks_snoc] at h
 refine next_some (q := (q.p,q.k)) hr h ?_ ?_ (by have := q.hk; simp only; omega) q.hp hok
 ·intro q hq
  obtain ⟨x,_,rfl⟩ := List.mem_map.1 hq
  exact ⟨by have := x.hk; simp only [Cel.pk]; omega,x.hp⟩
 ·intro q hq
  obtain ⟨x,hx,rfl⟩ := List.mem_map.1 hq
  exact hc x hx
abbrev rcells (r : Box) : Array Value := #[.int .i64 (r.a : Int), .int .i64 (r.b : Int), .int .i64 (r.c : Int), .int .i64 (r.d : Int)]
abbrev four (a b c d : Int) : Obj := .cells #[.int .i64 a, .int .i64 b, .int .i64 c, .int .i64 d] 34
theorem leafA {W w1 w2 : World} {m1 m2 m3 m4 : Int} (hb1 : Below W.drew.heap.size W.drew w1) (hb2 : Below w1.heap.size w1 w2) :
  Below W.heap.size W (w2.alloc (four m1 m2 m3 m4)) ∧ (w2.alloc (four m1 m2 m3 m4)).cell? ⟨w2.heap.size, 0,none⟩ = some (.int .i64 m1) ∧ (w2.alloc (four m1 m2 m3 m4)).cell? ⟨w2.heap.size, 1,none⟩ = some (.int .i64 m2) := by
 have h1 : Below W.heap.size W w1 := (Below.refl _ W).drew.trans hb1
 have h2 : Below W.heap.size W w2 := h1.trans (hb2.mono h1.size)
 have hb := Blk.new w2 34 #[.int .i64 m1, .int .i64 m2, .int .i64 m3, .int .i64 m4]
 exact ⟨h2.alloc h2.size _,hb.cell 0,hb.cell 1⟩
theorem set4 {w2 : World} {B : Nat} {z0 z1 z2 z3 : Value} (hb : Blk w2 B 34 #[z0,z1,z2,z3]) (v0 v1 v2 v3 : Value) :
  ((((w2.setCell ⟨B, 0,none⟩ v0).setCell ⟨B, 1,none⟩ v1).setCell ⟨B, 2,none⟩ v2).setCell ⟨B, 3,none⟩ v3).cell? ⟨B, 0,none⟩ = some v0 ∧ ((((w2.setCell ⟨B, 0,none⟩ v0).setCell ⟨B, 1,none⟩ v1).setCell ⟨B, 2,none⟩ v2).setCell ⟨B, 3,none⟩ v3).cell? ⟨B, 1,none⟩ = some v1 := by
 have e0 := hb.cell 0
 have e1 := hb.cell 1
 simp at e0 e1
 constructor <;> simp [go_sem,e0,e1]
theorem leafB {W w1 w2 : World} {m1 m2 m3 m4 : Int} (hb1 : Below W.drew.heap.size W.drew w1) (hb2 : Below (w1.alloc (four 0 0 0 0)).heap.size (w1.alloc (four 0 0 0 0)) w2) :
  Below W.heap.size W ((((w2.setCell ⟨w1.heap.size, 0,none⟩ (.int .i64 m1)).setCell ⟨w1.heap.size, 1,none⟩ (.int .i64 m2)).setCell ⟨w1.heap.size, 2,none⟩ (.int .i64 m3)).setCell ⟨w1.heap.size, 3,none⟩ (.int .i64 m4)) ∧
  ((((w2.setCell ⟨w1.heap.size, 0,none⟩ (.int .i64 m1)).setCell ⟨w1.heap.size, 1,none⟩ (.int .i64 m2)).setCell ⟨w1.heap.size, 2,none⟩ (.int .i64 m3)).setCell ⟨w1.heap.size, 3,none⟩ (.int .i64 m4)).cell? ⟨w1.heap.size, 0,none⟩ = some (.int .i64 m1) ∧
  ((((w2.setCell ⟨w1.heap.size, 0,none⟩ (.int .i64 m1)).setCell ⟨w1.heap.size, 1,none⟩ (.int .i64 m2)).setCell ⟨w1.heap.size, 2,none⟩ (.int .i64 m3)).setCell ⟨w1.heap.size, 3,none⟩ (.int .i64 m4)).cell? ⟨w1.heap.size, 1,none⟩ = some (.int .i64 m2) := by
 have h1 : Below W.heap.size W w1 := (Below.refl _ W).drew.trans hb1
 have hs := h1.size
 have h2 : Below W.heap.size W w2 := (h1.alloc hs _).trans (hb2.mono (by simp; omega))
 have hb := (Blk.new w1 34 #[.int .i64 0, .int .i64 0, .int .i64 0, .int .i64 0]).below hb2 (by simp)
 exact ⟨(((h2.setCell (p := ⟨w1.heap.size, 0,none⟩) hs _).setCell (p := ⟨w1.heap.size, 1,none⟩) hs _).setCell (p := ⟨w1.heap.size, 2,none⟩) hs _).setCell (p := ⟨w1.heap.size, 3,none⟩) hs _,set4 hb _ _ _ _⟩
theorem leafC {W w1 w2 : World} {m1 m2 m3 m4 : Int} (hb1 : Below (W.alloc (four 0 0 0 0)).drew.heap.size (W.alloc (four 0 0 0 0)).drew w1) (hb2 : Below w1.heap.size w1 w2) :
  Below W.heap.size W ((((w2.setCell ⟨W.heap.size, 0,none⟩ (.int .i64 m1)).setCell ⟨W.heap.size, 1,none⟩ (.int .i64 m2)).setCell ⟨W.heap.size, 2,none⟩ (.int .i64 m3)).setCell ⟨W.heap.size, 3,none⟩ (.int .i64 m4)) ∧
  ((((w2.setCell ⟨W.heap.size, 0,none⟩ (.int .i64 m1)).setCell ⟨W.heap.size, 1,none⟩ (.int .i64 m2)).setCell ⟨W.heap.size, 2,none⟩ (.int .i64 m3)).setCell ⟨W.heap.size, 3,none⟩ (.int .i64 m4)).cell? ⟨W.heap.size, 0,none⟩ = some (.int .i64 m1) ∧
  ((((w2.setCell ⟨W.heap.size, 0,none⟩ (.int .i64 m1)).setCell ⟨W.heap.size, 1,none⟩ (.int .i64 m2)).setCell ⟨W.heap.size, 2,none⟩ (.int .i64 m3)).setCell ⟨W.heap.size, 3,none⟩ (.int .i64 m4)).cell? ⟨W.heap.size, 1,none⟩ = some (.int .i64 m2) := by
 have h1 : Below W.heap.size W w1 := (((Below.refl _ W).alloc (Nat.le_refl _) _).drew).trans (hb1.mono (by simp))
 have h2 : Below W.heap.size W w2 := h1.trans (hb2.mono h1.size)
 have hz : W.heap.size < w1.heap.size := by have := hb1.size; simp at this; omega
 have hb := (((Blk.new W 34 #[.int .i64 0, .int .i64 0, .int .i64 0, .int .i64 0])).below (W' := w1) (n := W.heap.size + 1) (Below.trans (Below.drew (Below.refl _ _)) (hb1.mono (by simp))) (by omega)).below hb2 hz
 exact ⟨(((h2.setCell (p := ⟨W.heap.size, 0,none⟩) (Nat.le_refl _) _).setCell (p := ⟨W.heap.size, 1,none⟩) (Nat.le_refl _) _).setCell (p := ⟨W.heap.size, 2,none⟩) (Nat.le_refl _) _).setCell (p := ⟨W.heap.size, 3,none⟩) (Nat.le_refl _) _,set4 hb _ _ _ _⟩
theorem common_some (s r : Box) : ∃ (m1 m2 m3 m4 : Int) (f : Bool),(∀ w,Calls Tryz.prog 123 #[.agg #[.int .i64 s.a, .int .i64 s.b, .int .i64 s.c, .int .i64 s.d], .agg #[.int .i64 r.a, .int .i64 r.b, .int .i64 r.c, .int .i64 r.d]] w fun e w' =>
   e = .returned (.tuple #[.agg #[.int .i64 m1, .int .i64 m2, .int .i64 m3, .int .i64 m4], .bool f]) ∧ Below w.heap.size w w') ∧ (f = true → (both s r).ok ∧ m1 = (both s r).a ∧ m2 = (both s r).b) ∧ (f = false → ¬ (both s r).ok) := by
 by_cases h : (both s r).ok
 ·exact ⟨_,_,_,_,true,fun w => common_box_yes s r w h,fun _ => ⟨h,rfl,rfl⟩,fun e => by cases e⟩
 ·exact ⟨_,_,_,_,false,fun w => common_box_no s r w h,fun e => (by cases e),fun _ => h⟩
set_option maxRecDepth 100000 in
set_option maxHeartbeats 2000000 in
theorem gnext_any (c : Nat) (hc : c < 4294967296) (r : Box) (hr : r.ok) (w : World) :
  Calls Tryz.prog 118 #[.int .i64 (c : Int), .agg #[.int .i64 (r.a : Int), .int .i64 (r.b : Int), .int .i64 (r.c : Int), .int .i64 (r.d : Int)]] w fun e w' => (∃ m : Int,e = .returned (.int .i64 m) ∧ IsNext c r m) ∧ Below w.heap.size w w' := by
 refine (callsIn_wide (n := 6)).1 ?_
 refine callsIn_of_wp_marks Tryz.func118 rfl trivial ?_ rfl
 simp only [Tryz.ntmps118,List.size_toArray,List.length_cons,List.length_nil,Nat.reduceAdd,Nat.reduceSub,Array.replicate_succ,Array.replicate_zero,List.push_toArray,List.append_toArray,List.nil_append,List.cons_append]
 gi_wp2_with (refine ⟨trivial, ?_⟩; gi_at_call 151; refine (cellsFrom_in Fence.wide _ trivial rfl _ _).mono ?_; rintro e w' ⟨rfl,rfl⟩)
 have b0 := ((Blk.new w 34 (rcells r)).alloc (.cells #[.int .i64 0] 3)).alloc (.cells #[.int .i64 (c : Int)] 3)
 have b1 := (Blk.new (w.alloc (.cells (rcells r) 34)) 3 #[.int .i64 0]).alloc (.cells #[.int .i64 (c : Int)] 3)
 have b2 := Blk.new ((w.alloc (.cells (rcells r) 34)).alloc (.cells #[.int .i64 0] 3)) 3 #[.int .i64 (c : Int)]
 simp only [World.size_alloc] at b1 b2
 have hB0 : Below w.heap.size w (((w.alloc (.cells (rcells r) 34)).alloc (.cells #[.int .i64 0] 3)).alloc (.cells #[.int .i64 (c : Int)] 3)) := (((Below.refl _ w).alloc (Nat.le_refl _) _).alloc (by simp) _).alloc (by simp; omega) _
 have hsz : (((w.alloc (.cells (rcells r) 34)).alloc (.cells #[.int .i64 0] 3)).alloc (.cells #[.int .i64 (c : Int)] 3)).heap.size = w.heap.size + 3 := by simp
 obtain ⟨W0,hW0⟩ : ∃ W0,((w.alloc (.cells (rcells r) 34)).alloc (.cells #[.int .i64 0] 3)).alloc (.cells #[.int .i64 (c : Int)] 3) = W0 := ⟨_,rfl⟩
 rw [hW0] at b0 b1 b2 hB0 hsz ⊢
 clear hW0
 refine wpIn_rangeFunc_ownH rfl (by omega) (gf := 188) (lb := #[.pointer (some ⟨w.heap.size + 1 + 1, 0,none⟩)]) rfl trivial (enters_of Tryz.func188 (by kernel_rfl) rfl)
  (cells_stops Fence.wide _ trivial rfl (by omega) (w.heap.size + 1 + 1) (w.heap.size + 3) c hc W0 (by omega) (by omega) (b2.cell 0) (4294967296 + 1) (by omega)) belowK_t (belowK_b (by omega)) (Below.refl _ _) (fun _ => rfl)
  (fun pre W => clear r pre ∧ Below (w.heap.size + 3) W0 W)
  (fun co pre W => ((co = .ret ∧ ∃ pre' q,pre = pre' ++ [q] ∧ clear r pre' ∧ (both (sqr q.p q.k) r).ok ∧ W.cell? ⟨w.heap.size + 1, 0,none⟩ = some (.int .i64 (code (both (sqr q.p q.k) r).a (both (sqr q.p q.k) r).b : Int))) ∧ Below w.heap.size w W))
  (OwnFrom.and (ownFrom_pure _ _) (ownFrom_below (by omega) (by omega)))
  (fun co => OwnFrom.and (Own.from (fun s A B row hs hg hr => ⟨hs.1,by obtain ⟨_,p',q',h1,h2,h3,h4⟩ := hs; exact ⟨p',q',h1,h2,h3,cell_kept h4 hg hr⟩⟩) _) (ownFrom_below (Nat.le_refl _) (by omega)))
  ⟨fun _ h => absurd h List.not_mem_nil,Below.refl _ _⟩
  (fun x a' W => ∃ Bx,w.heap.size + 3 ≤ Bx ∧ Blk W Bx 99 #[.int .i64 (x.c : Int), .int .i64 (x.k : Int)] ∧ a' = { tmps := #[.int .i64 (c : Int), .agg (rcells r),undef, .pointer (some ⟨w.heap.size, 0,none⟩), .pointer (some ⟨w.heap.size + 1, 0,none⟩), .pointer (some ⟨Bx, 0,none⟩),undef,undef, .int .i64 (c : Int), .func (.func 188) #[] #[.pointer (some ⟨w.heap.size + 1 + 1, 0,none⟩)], .agg #[.int .i64 (x.c : Int), .int .i64 (x.k : Int)],undef,undef,undef,undef,undef,undef,undef,undef,undef,undef,undef,undef,undef],defers := [] })
  (fun x a' _ X Y row hs hg hr => by obtain ⟨Bx,h1,h2,h3⟩ := hs; exact ⟨Bx,h1,blk_own Bx 99 (fun (_ : Unit) => #[.int .i64 (x.c : Int), .int .i64 (x.k : Int)]) () X Y row h2 hg (fun r e => (hr r e).2),h3⟩)
  ?assign ?body ?done ?stop
 case assign =>
  rintro l pre x W K ⟨hcl,hB1⟩ hK
  have hs1 := hB1.size
  simp only [celE]
  gi_wp2
  exact hK _ _ ((KeepsOthers.alloc _ _).from _) ((Below.refl _ W).alloc (by omega) _) ⟨hcl,hB1.alloc (by omega) _⟩ ⟨W.heap.size,by omega,Blk.new W 99 _,rfl⟩
 case body =>
  rintro l pre x a' W hl _ ⟨hcl,hB1⟩ ⟨Bx,hBx,bX,rfl⟩ _
  have hs1 := hB1.size
  have b0' := b0.below hB1 (by omega)
  have b1' := b1.below hB1 (by omega)
  have c00 : W.cell? ⟨w.heap.size, 0,none⟩ = some (.int .i64 (r.a : Int)) := b0'.cell 0
  have c01 : W.cell? ⟨w.heap.size, 1,none⟩ = some (.int .i64 (r.b : Int)) := b0'.cell 1
  have c02 : W.cell? ⟨w.heap.size, 2,none⟩ = some (.int .i64 (r.c : Int)) := b0'.cell 2
  have c03 : W.cell? ⟨w.heap.size, 3,none⟩ = some (.int .i64 (r.d : Int)) := b0'.cell 3
  have cx0 : W.cell? ⟨Bx, 0,none⟩ = some (.int .i64 (x.c : Int)) := bX.cell 0
  have cx1 : W.cell? ⟨Bx, 1,none⟩ = some (.int .i64 (x.k : Int)) := bX.cell 1
  have c10 : W.cell? ⟨w.heap.size + 1, 0,none⟩ = some (.int .i64 0) := b1'.cell 0
  have f10 : W.frozen? ⟨w.heap.size + 1, 0,none⟩ = false := b1'.frozen 0
  have hxl := bX.lt
  have h0l := b0'.lt
  have h1l := b1'.lt
  have hmx : Tryz.prog.follows .mixedOrders = true := by kernel_rfl
  obtain ⟨m1,m2,m3,m4,f,hcom,hyes,hno⟩ := common_some (sqr x.p x.k) r
  gi_wp2
  rename_i Q2 K2 hK2
  have fin : ∀ (B6 : Nat) (w' : World),(Below W.heap.size W w' ∧ w'.cell? ⟨B6, 0,none⟩ = some (.int .i64 m1) ∧ w'.cell? ⟨B6, 1,none⟩ = some (.int .i64 m2)) →
    K2 { tmps := #[.int .i64 (c : Int), .agg (rcells r),undef, .pointer (some ⟨w.heap.size, 0,none⟩), .pointer (some ⟨w.heap.size + 1, 0,none⟩), .pointer (some ⟨Bx, 0,none⟩), .pointer (some ⟨B6, 0,none⟩), .bool f, .int .i64 (c : Int), .func (.func 188) #[] #[.pointer (some ⟨w.heap.size + 1 + 1, 0,none⟩)], .agg #[.int .i64 (x.c : Int), .int .i64 (x.k : Int)],
     .tuple #[.agg #[.int .i64 m1, .int .i64 m2, .int .i64 m3, .int .i64 m4], .bool f], .agg #[.int .i64 (x.c : Int), .int .i64 (x.k : Int)], .agg (rcells (sqr x.p x.k)), .agg (rcells r), .tuple #[.agg #[.int .i64 m1, .int .i64 m2, .int .i64 m3, .int .i64 m4], .bool f], .agg #[.int .i64 m1, .int .i64 m2, .int .i64 m3, .int .i64 m4], .bool f,undef,undef,undef,undef,undef,undef],defers := [] } w' := by
   rintro B6 w' ⟨hW',k0,k1⟩
   apply hK2
   have hcw : w'.cell? ⟨w.heap.size + 1, 0,none⟩ = some (.int .i64 0) := (hW'.cell (p := ⟨w.heap.size + 1, 0,none⟩) h1l).trans c10
   have hfw : w'.frozen? ⟨w.heap.size + 1, 0,none⟩ = false := (hW'.frozen (p := ⟨w.heap.size + 1, 0,none⟩) h1l).trans f10
   have hk3 : Below (w.heap.size + 3) W w' := hW'.mono (by omega)
   cases f with
   | false =>
    have hnot := hno rfl
    clear hyes hcom hno
    gi_wp2
    exact ⟨keeps_below_from hW',hk3,clear_snoc hcl hnot,hB1.trans hk3⟩
   | true =>
    obtain ⟨hok,rfl,rfl⟩ := hyes rfl
    clear hno hcom
    have hlx : (both (sqr x.p x.k) r).a < 65536 := by have := hok.1; have := hok.2.1; omega
    have hly : (both (sqr x.p x.k) r).b < 65536 := by have := hok.2.2.1; have := hok.2.2.2; omega
    gi_wp2_with (refine ⟨trivial, ?_⟩; gi_at_call 139; refine (CallsIn.inRound l (callsIn_wide.2 (code_any _ _ _ hlx hly))).mono ?_; rintro e w3 ⟨rfl,rfl⟩)
    exact ⟨((keeps_of_below hW').trans (KeepsOthers.setCell _ _ _)).from _,⟨rfl,pre,x,rfl,hcl,hok,World.cell?_setCell_same' _ _ _ (by rw [hcw]; rfl)⟩,(hB0.trans ((hB1.mono (by omega)).trans (hW'.mono (by omega)))).setCell (p := ⟨w.heap.size + 1, 0,none⟩) (by simp) _⟩
  clear hK2 hyes hno
  gi_region_with_o (first | (refine ⟨trivial, ?_⟩; gi_at_call 91; refine (CallsIn.inRound l (callsIn_wide.2 (square_any x.p x.k _ (by have := x.hk; omega) x.hp x.c x.hc))).mono ?_; rintro e w1 ⟨rfl,hb1⟩; obtain ⟨hc1,hf1⟩ := bcell hb1; have hz1 := hb1.size; simp only [World.size_drew,World.size_alloc] at hc1 hf1 hz1; have g10 : w.heap.size < w1.heap.size := (by omega); have g11 : w.heap.size + 1 < w1.heap.size := (by omega); try have g12 : W.heap.size < w1.heap.size := (by omega)) | (refine ⟨trivial, ?_⟩; gi_at_call 123; refine (CallsIn.inRound l (callsIn_wide.2 (hcom _))).mono ?_; rintro e w2 ⟨rfl,hb2⟩; obtain ⟨hc2,hf2⟩ := bcell hb2; have hz2 := hb2.size; (try simp only [World.size_alloc] at hc2 hf2 hz2); have g20 : w.heap.size < w2.heap.size := (by omega); have g21 : w.heap.size + 1 < w2.heap.size := (by omega); (try have g22 : W.heap.size < w2.heap.size := (by omega)); try have g23 : w1.heap.size < w2.heap.size := (by omega)))
  all_goals change K2 _ _
  all_goals clear hcom
  all_goals first | exact fin _ _ (leafA hb1 hb2) | exact fin _ _ (leafB hb1 hb2) | exact fin _ _ (leafC hb1 hb2)
 case done =>
  rintro D xs W hD hS ⟨hcl,hB1⟩ hK
  have b1' := b1.below hB1 (by omega)
  have c1 := b1'.cell 0
  have f1 := b1'.frozen 0
  gi_wp2
  have hK' := (KeepsOthers.setCell W ⟨w.heap.size + 1, 0,none⟩ (.int .i64 (-1))).same D _ hK rfl
  refine ⟨by simp, .inl ⟨_,_,rfl,run_takeDeferred hK', ?_⟩⟩
  have hcW : (W.setCell ⟨w.heap.size + 1, 0,none⟩ (.int .i64 (-1))).cell? ⟨w.heap.size + 1, 0,none⟩ = some (.int .i64 (-1)) := World.cell?_setCell_same' _ _ _ (by rw [c1]; rfl)
  have hcP := cell_kept hcW (grownBy_putObj' _ D (.deferred none)) (fun r e => by cases e; exact ⟨_,hK',rfl⟩)
  refine ⟨.int .i64 (-1),by simp [results,Tryz.results118,go_sem,hcP],⟨-1,rfl,found_none hr hS hcl⟩, ?_⟩
  have hB2 : Below w.heap.size w (W.setCell ⟨w.heap.size + 1, 0,none⟩ (.int .i64 (-1))) := (hB0.trans (hB1.mono (by omega))).setCell (p := ⟨w.heap.size + 1, 0,none⟩) (by simp) _
  exact hB2.trans (belowK_b (w := w) (Nat.le_refl _) _ D _ _ (by omega) hK' rfl rfl)
 case stop =>
  rintro D co pre W hD ⟨b,hch⟩ ⟨⟨rfl,pre',q,rfl,hcl,hok,hcell⟩,hB⟩ hK
  gi_wp2
  refine ⟨by simp, .inl ⟨_,_,rfl,run_takeDeferred hK, ?_⟩⟩
  have hcP := cell_kept hcell (grownBy_putObj' _ D (.deferred none)) (fun r e => by cases e; exact ⟨_,hK,rfl⟩)
  refine ⟨.int .i64 (code (both (sqr q.p q.k) r).a (both (sqr q.p q.k) r).b : Int),by simp [results,Tryz.results118,go_sem,hcP],⟨_,rfl,found_some hr hch hcl hok⟩, ?_⟩
  exact hB.trans (belowK_b (w := w) (Nat.le_refl _) _ D _ _ (by omega) hK rfl rfl)
end
end Go.Proofs.YtdgbgmffpcooeaaGreat
