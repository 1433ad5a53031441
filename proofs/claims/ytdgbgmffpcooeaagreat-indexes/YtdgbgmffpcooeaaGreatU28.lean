/- Ix1 Ix2 -/
import Derived.Test.YtdgbgmffpcooeaaGreatU27
namespace Go.Proofs.YtdgbgmffpcooeaaGreat
open Go.RowKit Go.Lib Go.Shelf
section
attribute [local go_sem] Oper.semAt_some
theorem nkey_any (w : World) (id : Int) :
  Calls Tryz.prog 108 #[.int .i64 id] w fun e w' => e = .returned (keyV (NUM,id)) ∧ Below w.heap.size w w' := by
 go_enter Tryz.func108,Tryz.ntmps108
 go_wp2
 refine bodyPost_ret (v := keyV (NUM,id)) (by simp [results,Tryz.results108,go_sem]) rfl ?_
 exact ⟨rfl,(Below.refl _ w).alloc (Nat.le_refl _) _⟩
theorem eq154 (a b c d : Int) (w : World) : (Op.equalIn 10000 154 (.agg #[.int .i64 a, .int .i64 b]) (.agg #[.int .i64 c, .int .i64 d])).run Tryz.prog w = .ok (decide ((a,b) = (c,d))) w := by
 have u3 := Tryz.underlying3
 have a3 := Tryz.isAgg3
 have z3 := Tryz.sizeOf3
 rw [show (10000 : Nat) = 9999 + 1 from rfl,Op.equalIn]
 simp only [Sem.run_bind,run_underlying Tryz.underlying154,Result.andThen_ok]
 simp only [Std.Legacy.Range.forIn_eq_forIn_range',Std.Legacy.Range.size,Nat.sub_zero,Nat.add_sub_cancel,Nat.div_one,List.range'_succ,List.range'_zero,List.forIn_cons,List.forIn_nil]
 go_simp
 by_cases h1 : a = c <;> by_cases h2 : b = d <;> simp [h1,h2]
theorem wpIn_calm {F : Fence} {n : Nat} {P : Program} {c : Code} {K : Act → World → Prop} {Q : Exit → Act → World → Prop} {a : Act} {w : World} (h : c.wpIn F n P (Exit.then K (fun _ _ _ => False)) a w) : c.wpIn F n P (Exit.then K Q) a w := by
 refine wpIn_mono h ?_
 intro e a' w' hq
 cases e with
 | normal => exact hq
 | exit id => exact hq.elim
 | goto l => exact hq.elim
 | ret => exact hq.elim
 | panic ch => exact hq.elim
 | outgrown => exact hq.elim
def zeroBox : Box := ⟨0, 0, 0, 0⟩
abbrev boxC (r : Box) : Array Value := #[.int .i64 (r.a : Int), .int .i64 (r.b : Int), .int .i64 (r.c : Int), .int .i64 (r.d : Int)]
theorem put45 {W : World} {B4 B5 : Nat} {z0 z1 z2 z3 z5 : Value} (h4 : Blk W B4 34 #[z0,z1,z2,z3]) (h5 : Blk W B5 26 #[z5]) (hne : B4 ≠ B5) (v0 v1 v2 v3 v5 : Value) :
  Blk (((((W.setCell ⟨B4, 0,none⟩ v0).setCell ⟨B4, 1,none⟩ v1).setCell ⟨B4, 2,none⟩ v2).setCell ⟨B4, 3,none⟩ v3).setCell ⟨B5, 0,none⟩ v5) B4 34 #[v0,v1,v2,v3] ∧ Blk (((((W.setCell ⟨B4, 0,none⟩ v0).setCell ⟨B4, 1,none⟩ v1).setCell ⟨B4, 2,none⟩ v2).setCell ⟨B4, 3,none⟩ v3).setCell ⟨B5, 0,none⟩ v5) B5 26 #[v5] ∧
  ∀ F : Nat → Prop,F B4 → F B5 → Off F W (((((W.setCell ⟨B4, 0,none⟩ v0).setCell ⟨B4, 1,none⟩ v1).setCell ⟨B4, 2,none⟩ v2).setCell ⟨B4, 3,none⟩ v3).setCell ⟨B5, 0,none⟩ v5) := by
 have ho : ∀ F : Nat → Prop,F B4 → Off F W ((((W.setCell ⟨B4, 0,none⟩ v0).setCell ⟨B4, 1,none⟩ v1).setCell ⟨B4, 2,none⟩ v2).setCell ⟨B4, 3,none⟩ v3) := fun F hF => ((((Off.refl F W).setCell v0 (.inl hF)).setCell v1 (.inl hF)).setCell v2 (.inl hF)).setCell v3 (.inl hF)
 have k4 := (((h4.set 0 v0).set 1 v1).set 2 v2).set 3 v3
 have k4' : Blk ((((W.setCell ⟨B4, 0,none⟩ v0).setCell ⟨B4, 1,none⟩ v1).setCell ⟨B4, 2,none⟩ v2).setCell ⟨B4, 3,none⟩ v3) B4 34 #[v0,v1,v2,v3] := k4
 have k5 : Blk ((((W.setCell ⟨B4, 0,none⟩ v0).setCell ⟨B4, 1,none⟩ v1).setCell ⟨B4, 2,none⟩ v2).setCell ⟨B4, 3,none⟩ v3) B5 26 #[z5] := ((ho (fun k => k = B4) rfl).block B5 h5.lt (Ne.symm hne)).trans h5
 have k5' := k5.set 0 v5
 exact ⟨((Off.one _ v5).block B4 k4'.lt hne).trans k4',k5',fun F f4 f5 => (ho F f4).setCell v5 (.inl f5)⟩
def findR (id : Int) : List Tld → Box × Int
 | [] => (zeroBox, 9)
 | x :: _ => if x.2 ≠ 0 then (zeroBox,x.2) else if x.1.1 = (NUM,id) then (x.1.2, 0) else (zeroBox, 9)
def IdxB (W : World) (x t : Nat) (dead : Bool) : Prop := Blk W x 124 #[.pointer (some ⟨t, 0,none⟩), .bool dead]
set_option maxRecDepth 100000 in
set_option maxHeartbeats 4000000 in
theorem find_any (w : World) (A : PA) (t x : Nat) (dead : Bool) (id : Int) (xs : List Tld) (Ed : World → Prop) (Es : Nat → World → Prop)
  (hF : ∀ k,A.F k → k < w.heap.size) (ht : t < w.heap.size) (hx : IdxB w x t dead)
  (hEd : ∀ X Y,Ed X → Off (fun k => w.heap.size ≤ k) X Y → Ed Y) (hEs : ∀ i X Y,Es i X → Off (fun k => w.heap.size ≤ k) X Y → Es i Y)
  (hseq : ∀ (W : World) (tb kb : Nat) (M0 : Nat → Prop),Below w.heap.size w W → Blk W tb 122 #[.pointer (some ⟨t, 0,none⟩)] → Blk W kb 154 #[.int .i64 NUM, .int .i64 id] → (∀ b,M0 b → b < W.heap.size) → (∀ b,A.F b → ¬ M0 b) → ¬ M0 t → Tells 5 Tryz.prog 120 #[.pointer (some ⟨tb, 0,none⟩), .pointer (some ⟨kb, 0,none⟩)] tldE A.F M0 xs Ed Es W) :
  Calls Tryz.prog 80 #[.pointer (some ⟨x, 0,none⟩), .int .i64 id] w fun e w' => e = .returned (.tuple #[.agg (boxC (findR id xs).1), .int .i64 (findR id xs).2]) ∧ Off A.F w w' ∧ (xs = [] → Ed w') ∧ (xs ≠ [] → Es 1 w') := by
 refine (callsIn_wide (n := 6)).1 ?_
 refine callsIn_of_wp_marks Tryz.func80 rfl trivial ?_ rfl
 simp only [Tryz.ntmps80,List.size_toArray,List.length_cons,List.length_nil,Nat.reduceAdd,Nat.reduceSub,Array.replicate_succ,Array.replicate_zero,List.push_toArray,List.append_toArray,List.nil_append,List.cons_append]
 gi_upto_region 1 with fail
 obtain ⟨W0,hW0⟩ : ∃ W0,((w.alloc (.cells #[.int .i64 id] 3)).alloc (.cells #[.int .i64 0, .int .i64 0, .int .i64 0, .int .i64 0] 34)).alloc (.cells #[.int .i64 0] 26) = W0 := ⟨_,rfl⟩
 have b3 : Blk W0 w.heap.size 3 #[.int .i64 id] := by rw [← hW0]; exact ((Blk.new w 3 _).alloc _).alloc _
 have b4 : Blk W0 (w.heap.size + 1) 34 (boxC zeroBox) := by
  rw [← hW0]; have := (Blk.new (w.alloc (.cells #[.int .i64 id] 3)) 34 (boxC zeroBox)).alloc (.cells #[.int .i64 0] 26); rwa [World.size_alloc] at this
 have b5 : Blk W0 (w.heap.size + 1 + 1) 26 #[.int .i64 0] := by
  rw [← hW0]; have := Blk.new ((w.alloc (.cells #[.int .i64 id] 3)).alloc (.cells #[.int .i64 0, .int .i64 0, .int .i64 0, .int .i64 0] 34)) 26 #[.int .i64 0]; simp only [World.size_alloc] at this; exact this
 have hb0 : Below w.heap.size w W0 := by rw [← hW0]; exact (((Below.refl _ w).alloc (Nat.le_refl _) _).alloc (by simp) _).alloc (by simp; omega) _
 have hs0 : W0.heap.size = w.heap.size + 3 := by rw [← hW0]; simp
 rw [hW0]
 have cx : W0.cell? ⟨x, 0,none⟩ = some (.pointer (some ⟨t, 0,none⟩)) := (hb0.cell (p := ⟨x, 0,none⟩) hx.lt).trans (hx.cell 0)
 have c3 : W0.cell? ⟨w.heap.size, 0,none⟩ = some (.int .i64 id) := b3.cell 0
 have hxl : x < W0.heap.size := by have := hx.lt; omega
 have hkl : w.heap.size < W0.heap.size := by omega
 have hnk := nkey_any W0.drew id
 clear hW0
 gi_cut [14] from 29 (fun s14 wx => ∃ tb kb,s14 = .func (.func 120) #[] #[.pointer (some ⟨tb, 0,none⟩), .pointer (some ⟨kb, 0,none⟩)] ∧ Blk wx tb 122 #[.pointer (some ⟨t, 0,none⟩)] ∧ Blk wx kb 154 #[.int .i64 NUM, .int .i64 id] ∧ Below W0.heap.size W0 wx)
 case first =>
  have hmx : Tryz.prog.follows .mixedOrders = true := by kernel_rfl
  refine wpIn_calm ?_
  gi_region_with_o (first
   | (refine ⟨trivial, ?_⟩; gi_at_call 108; refine (callsIn_wide.2 hnk).mono ?_; rintro e w1 ⟨rfl,hb1⟩; have cx1 : w1.cell? ⟨x, 0,none⟩ = some (.pointer (some ⟨t, 0,none⟩)) := (hb1.cell (p := ⟨x, 0,none⟩) hxl).trans cx)
   | (refine ⟨trivial, ?_⟩; gi_at_call 87; refine (callsIn_wide.2 (from_any _ t (NUM,id))).mono ?_; rintro e w2 ⟨rfl,rfl⟩))
  all_goals gi_wp2
  all_goals gi_meet
  all_goals
   have hb1' : Below W0.heap.size W0 w1 := ((Below.refl _ W0).drew).trans hb1
   have hs1 := hb1'.size
   exact ⟨w1.heap.size,w1.heap.size + 1,rfl,(Blk.new w1 122 _).alloc _,by have := Blk.new (w1.alloc (.cells #[.pointer (some ⟨t, 0,none⟩)] 122)) 154 #[.int .i64 NUM, .int .i64 id]; rwa [World.size_alloc] at this,(hb1'.alloc hs1 _).alloc (by simp; omega) _⟩
 case rest =>
  obtain ⟨tb,kb,rfl,btb,bkb,hbx⟩ := hcut
  clear hnk
  have hsx := hbx.size
  have hBx : Below w.heap.size w wc := hb0.trans (hbx.mono (by omega))
  have bx3 := b3.below hbx (by omega)
  have bx4 := b4.below hbx (by omega)
  have bx5 := b5.below hbx (by omega)
  have htells := hseq wc tb kb (fun k => k = w.heap.size + 1 ∨ k = w.heap.size + 1 + 1) hBx btb bkb (fun b hb => by omega) (fun b hb h => by have := hF b hb; omega) (by omega)
  have hF3 : ∀ k,w.heap.size ≤ k → ¬ A.F k := fun k hk h => by have := hF k h; omega
  clear hseq cx c3 hxl hkl b3 b4 b5 hb0 btb bkb
  gi_wp2
  refine wpIn_tells (by omega) (gf := 120) (lb := #[.pointer (some ⟨tb, 0,none⟩), .pointer (some ⟨kb, 0,none⟩)]) rfl (enters_of Tryz.func120 (by kernel_rfl) rfl) htells (fun _ => rfl) (fun k hk => by have := hF k hk; omega) (fun k hk => by omega)
   (fun i M W => i = 0 ∧ M (w.heap.size + 1) ∧ M (w.heap.size + 1 + 1) ∧ (∀ k,M k → w.heap.size ≤ k) ∧ Blk W w.heap.size 3 #[.int .i64 id] ∧ Blk W (w.heap.size + 1) 34 (boxC zeroBox) ∧ Blk W (w.heap.size + 1 + 1) 26 #[.int .i64 0] ∧ Off A.F w W)
   (fun c i W => i = 1 ∧ xs ≠ [] ∧ Off A.F w W ∧ ((c = .ret ∧ Blk W (w.heap.size + 1) 34 (boxC (findR id xs).1) ∧ Blk W (w.heap.size + 1 + 1) 26 #[.int .i64 (findR id xs).2]) ∨ (c = .exit 0 ∧ findR id xs = (zeroBox, 9) ∧ Blk W (w.heap.size + 1) 34 (boxC zeroBox) ∧ Blk W (w.heap.size + 1 + 1) 26 #[.int .i64 0])))
   ?hI ?hIx (fun X Y h _ ho => hEd X Y h (ho.mono fun k _ e => by omega)) (fun i X Y h _ ho => hEs i X Y h (ho.mono fun k _ e => by omega)) ⟨rfl, .inl rfl, .inr rfl,fun k hk => by omega,bx3,bx4,bx5,Off.of_below hBx⟩
   (fun y a' W => ∃ Bx,wc.heap.size + 1 < Bx ∧ Blk W Bx 156 #[.int .i64 y.1.1.1, .int .i64 y.1.1.2, .int .i64 (y.1.2.a : Int), .int .i64 (y.1.2.b : Int), .int .i64 (y.1.2.c : Int), .int .i64 (y.1.2.d : Int)] ∧ a' = { tmps := #[.pointer (some ⟨x, 0,none⟩), .int .i64 id,undef, .pointer (some ⟨w.heap.size, 0,none⟩), .pointer (some ⟨w.heap.size + 1, 0,none⟩), .pointer (some ⟨w.heap.size + 1 + 1, 0,none⟩), .pointer (some ⟨Bx, 0,none⟩), .int .i64 y.2,u8,u9,u10,u11,u12,u13, .func (.func 120) #[] #[.pointer (some ⟨tb, 0,none⟩), .pointer (some ⟨kb, 0,none⟩)],entV y.1, .int .i64 y.2,undef,undef,undef,undef,undef,undef,undef,undef,undef,undef,undef,undef],defers := [] })
   ?hAx ?assign ?body ?done ?stop
  case hI =>
   rintro i M X Y ⟨rfl,m1,m2,m3,h3,h4,h5,h6⟩ ho
   exact ⟨rfl,m1,m2,m3,(ho.block _ h3.lt (fun h => h.elim (hF3 _ (by omega)) (by omega))).trans h3,(ho.block _ h4.lt (fun h => h.elim (hF3 _ (by omega)) (by omega))).trans h4,(ho.block _ h5.lt (fun h => h.elim (hF3 _ (by omega)) (by omega))).trans h5,h6.step ho (fun k hk h => h.elim (fun h => h) (by omega))⟩
  case hIx =>
   rintro c i X Y ⟨rfl,hne,h6,hc⟩ ho
   refine ⟨rfl,hne,h6.step ho (fun k hk h => h.elim (fun h => h) (by omega)), ?_⟩
   rcases hc with ⟨rfl,h4,h5⟩ | ⟨rfl,e,h4,h5⟩
   ·exact .inl ⟨rfl,(ho.block _ h4.lt (fun h => h.elim (hF3 _ (by omega)) (by omega))).trans h4,(ho.block _ h5.lt (fun h => h.elim (hF3 _ (by omega)) (by omega))).trans h5⟩
   ·exact .inr ⟨rfl,e,(ho.block _ h4.lt (fun h => h.elim (hF3 _ (by omega)) (by omega))).trans h4,(ho.block _ h5.lt (fun h => h.elim (hF3 _ (by omega)) (by omega))).trans h5⟩
  case hAx =>
   rintro y a' X Y ⟨Bx,h1,h2,h3⟩ ho
   exact ⟨Bx,h1,(ho.block _ h2.lt (by omega)).trans h2,h3⟩
  case assign =>
   rintro l i y M W K hy ⟨rfl,m1,m2,m3,h3,h4,h5,h6⟩ hM hW hK
   simp only [tldE]
   gi_wp2
   have ho : Off M W (W.alloc (entO y.1)) := Off.of_below ((Below.refl _ W).alloc (Nat.le_refl _) _)
   have hw6 := h6.size
   exact hK _ _ ho ⟨trivial, .inl m1, .inl m2,fun k hk => hk.elim (m3 k) (fun h => by omega),h3.alloc _,h4.alloc _,h5.alloc _,h6.trans (Off.of_below ((Below.refl _ W).alloc (Nat.le_refl _) _))⟩ ⟨W.heap.size,hW,Blk.new W 156 _,rfl⟩
  case body =>
   rintro l i y M a' W hy ⟨rfl,m1,m2,m3,h3,h4,h5,h6⟩ ⟨Bx,hBx1,bX,rfl⟩ hM hW
   obtain ⟨l',rfl⟩ : ∃ l',xs = y :: l' := by
    cases xs with
    | nil => cases hy
    | cons z l' => simp only [List.getElem?_cons_zero,Option.some.injEq] at hy; exact ⟨l',by rw [hy]⟩
   have hw6 := h6.size
   have c40 : W.cell? ⟨w.heap.size + 1, 0,none⟩ = some (.int .i64 0) := h4.cell 0
   have c41 : W.cell? ⟨w.heap.size + 1, 1,none⟩ = some (.int .i64 0) := h4.cell 1
   have c42 : W.cell? ⟨w.heap.size + 1, 2,none⟩ = some (.int .i64 0) := h4.cell 2
   have c43 : W.cell? ⟨w.heap.size + 1, 3,none⟩ = some (.int .i64 0) := h4.cell 3
   have c50 : W.cell? ⟨w.heap.size + 1 + 1, 0,none⟩ = some (.int .i64 0) := h5.cell 0
   have f4 : ∀ i,W.frozen? ⟨w.heap.size + 1,i,none⟩ = false := h4.frozen
   have f50 : W.frozen? ⟨w.heap.size + 1 + 1, 0,none⟩ = false := h5.frozen 0
   have x0 : W.cell? ⟨Bx, 0,none⟩ = some (.int .i64 y.1.1.1) := bX.cell 0
   have x1 : W.cell? ⟨Bx, 1,none⟩ = some (.int .i64 y.1.1.2) := bX.cell 1
   have x2 : W.cell? ⟨Bx, 2,none⟩ = some (.int .i64 (y.1.2.a : Int)) := bX.cell 2
   have x3 : W.cell? ⟨Bx, 3,none⟩ = some (.int .i64 (y.1.2.b : Int)) := bX.cell 3
   have x4 : W.cell? ⟨Bx, 4,none⟩ = some (.int .i64 (y.1.2.c : Int)) := bX.cell 4
   have x5 : W.cell? ⟨Bx, 5,none⟩ = some (.int .i64 (y.1.2.d : Int)) := bX.cell 5
   have f40 := f4 0
   have f41 := f4 1
   have f42 := f4 2
   have f43 := f4 3
   clear f4
   by_cases hy2 : y.2 = 0
   ·obtain ⟨⟨⟨k1,k2⟩,bx⟩,ye⟩ := y
    simp only at hy2 x0 x1 x2 x3 x4 x5 bX
    subst hy2
    have HFR : Hid (findR id ((((k1,k2),bx), 0) :: l') = if (k1,k2) = (NUM,id) then (bx, 0) else (zeroBox, 9)) := by show _ = _; simp only [findR]; rw [if_neg (by simp)]
    have c3 : W.cell? ⟨w.heap.size, 0,none⟩ = some (.int .i64 id) := h3.cell 0
    have hnk := nkey_any W.drew id
    have hbl := bX.lt
    have h4l := h4.lt
    have h5l := h5.lt
    clear hy
    gi_upto_region 6 with fail
    gi_cut [25] from 29 (fun s25 wx => s25 = .bool (decide (k1 = NUM) && decide (k2 = id)) ∧ Below W.heap.size W wx)
    case first =>
     have hmx : Tryz.prog.follows .mixedOrders = true := by kernel_rfl
     have heq := eq154 k1 k2 NUM id
     refine wpIn_calm ?_
     gi_region_with_o (refine ⟨trivial, ?_⟩; gi_at_call 108; refine (CallsIn.inRound l (callsIn_wide.2 hnk)).mono ?_; rintro e w1 ⟨rfl,hb1⟩; have x10 : w1.cell? ⟨Bx, 0,none⟩ = some (.int .i64 k1) := (hb1.cell (p := ⟨Bx, 0,none⟩) hbl).trans x0; have x11 : w1.cell? ⟨Bx, 1,none⟩ = some (.int .i64 k2) := (hb1.cell (p := ⟨Bx, 1,none⟩) hbl).trans x1)
     all_goals gi_wp2
     all_goals gi_meet
     all_goals exact ⟨rfl,((Below.refl _ W).drew).trans hb1⟩
    case rest =>
     obtain ⟨rfl,hb1⟩ := hcut
     have k4 := h4.below hb1 h4l
     have k5 := h5.below hb1 h5l
     have kX := bX.below hb1 hbl
     have ho1 : Off M W wc := Off.of_below hb1
     have hs1 := hb1.size
     have h61 : Off A.F w wc := h6.trans (Off.of_below hb1)
     clear c40 c41 c42 c43 c50 f40 f41 f42 f43 f50 x0 x1 x2 x3 x4 x5 c3 hnk
     by_cases heq : (k1,k2) = (NUM,id)
     ·have e1 : k1 = NUM := congrArg Prod.fst heq
      have e2 : k2 = id := congrArg Prod.snd heq
      subst e1 e2
      have x2 : wc.cell? ⟨Bx, 2,none⟩ = some (.int .i64 (bx.a : Int)) := kX.cell 2
      have x3 : wc.cell? ⟨Bx, 3,none⟩ = some (.int .i64 (bx.b : Int)) := kX.cell 3
      have x4 : wc.cell? ⟨Bx, 4,none⟩ = some (.int .i64 (bx.c : Int)) := kX.cell 4
      have x5 : wc.cell? ⟨Bx, 5,none⟩ = some (.int .i64 (bx.d : Int)) := kX.cell 5
      have c40 : wc.cell? ⟨w.heap.size + 1, 0,none⟩ = some (.int .i64 0) := k4.cell 0
      have c41 : wc.cell? ⟨w.heap.size + 1, 1,none⟩ = some (.int .i64 0) := k4.cell 1
      have c42 : wc.cell? ⟨w.heap.size + 1, 2,none⟩ = some (.int .i64 0) := k4.cell 2
      have c43 : wc.cell? ⟨w.heap.size + 1, 3,none⟩ = some (.int .i64 0) := k4.cell 3
      have c50 : wc.cell? ⟨w.heap.size + 1 + 1, 0,none⟩ = some (.int .i64 0) := k5.cell 0
      have f40 : wc.frozen? ⟨w.heap.size + 1, 0,none⟩ = false := k4.frozen 0
      have f41 : wc.frozen? ⟨w.heap.size + 1, 1,none⟩ = false := k4.frozen 1
      have f42 : wc.frozen? ⟨w.heap.size + 1, 2,none⟩ = false := k4.frozen 2
      have f43 : wc.frozen? ⟨w.heap.size + 1, 3,none⟩ = false := k4.frozen 3
      have f50 : wc.frozen? ⟨w.heap.size + 1 + 1, 0,none⟩ = false := k5.frozen 0
      have HF2 : Hid (findR k2 ((((NUM,k2),bx), 0) :: l') = (bx, 0)) := by show _ = _; rw [HFR.out,if_pos rfl]
      clear HFR heq
      gi_wp2
      obtain ⟨q4,q5,qo⟩ := put45 k4 k5 (by omega) (.int .i64 (bx.a : Int)) (.int .i64 (bx.b : Int)) (.int .i64 (bx.c : Int)) (.int .i64 (bx.d : Int)) (.int .i64 0)
      have ho := qo M m1 m2
      refine ⟨ho1.trans ho,rfl,by simp,h61.step ho (fun k hk h => by have := m3 k h; omega), .inl ⟨rfl, ?_, ?_⟩⟩
      ·rw [HF2.out]; exact q4
      ·rw [HF2.out]; exact q5
     ·have HF2 : Hid (findR id ((((k1,k2),bx), 0) :: l') = (zeroBox, 9)) := by show _ = _; rw [HFR.out,if_neg heq]
      have hb : (decide (k1 = NUM) && decide (k2 = id)) = false := by
       by_cases g1 : k1 = NUM
       ·by_cases g2 : k2 = id
        ·exact absurd (by rw [g1,g2]) heq
        ·simp [g2]
       ·simp [g1]
      rw [hb]
      clear HFR heq hb
      gi_wp2
      exact ⟨ho1,rfl,by simp,h61, .inr ⟨rfl,HF2.out,k4,k5⟩⟩
   ·have hy3 : (y.2 != 0) = true := by simpa using hy2
    have hfr : findR id (y :: l') = (zeroBox,y.2) := by simp only [findR]; rw [if_pos hy2]
    gi_wp2
    obtain ⟨k4,k5,ko⟩ := put45 h4 h5 (by omega) (.int .i64 0) (.int .i64 0) (.int .i64 0) (.int .i64 0) (.int .i64 y.2)
    have ho := ko M m1 m2
    refine ⟨ho,rfl,by simp,h6.step ho (fun k hk h => by have := m3 k h; omega), .inl ⟨rfl, ?_, ?_⟩⟩
    ·rw [hfr]; exact k4
    ·rw [hfr]; exact k5
  case done =>
   rintro M W ⟨hi,m1,m2,m3,h3,h4,h5,h6⟩ hE hD
   have hxs : xs = [] := List.eq_nil_of_length_eq_zero hi
   have c40 : W.cell? ⟨w.heap.size + 1, 0,none⟩ = some (.int .i64 0) := h4.cell 0
   have c41 : W.cell? ⟨w.heap.size + 1, 1,none⟩ = some (.int .i64 0) := h4.cell 1
   have c42 : W.cell? ⟨w.heap.size + 1, 2,none⟩ = some (.int .i64 0) := h4.cell 2
   have c43 : W.cell? ⟨w.heap.size + 1, 3,none⟩ = some (.int .i64 0) := h4.cell 3
   have c50 : W.cell? ⟨w.heap.size + 1 + 1, 0,none⟩ = some (.int .i64 0) := h5.cell 0
   have f40 : W.frozen? ⟨w.heap.size + 1, 0,none⟩ = false := h4.frozen 0
   have f41 : W.frozen? ⟨w.heap.size + 1, 1,none⟩ = false := h4.frozen 1
   have f42 : W.frozen? ⟨w.heap.size + 1, 2,none⟩ = false := h4.frozen 2
   have f43 : W.frozen? ⟨w.heap.size + 1, 3,none⟩ = false := h4.frozen 3
   have f50 : W.frozen? ⟨w.heap.size + 1 + 1, 0,none⟩ = false := h5.frozen 0
   gi_wp2
   obtain ⟨k4,k5,ko⟩ := put45 h4 h5 (by omega) (.int .i64 0) (.int .i64 0) (.int .i64 0) (.int .i64 0) (.int .i64 9)
   have ho := ko (fun k => k = w.heap.size + 1 ∨ k = w.heap.size + 1 + 1) (.inl rfl) (.inr rfl)
   revert k4 k5 ho
   generalize (((((W.setCell ⟨w.heap.size + 1, 0,none⟩ (.int .i64 0)).setCell ⟨w.heap.size + 1, 1,none⟩ (.int .i64 0)).setCell ⟨w.heap.size + 1, 2,none⟩ (.int .i64 0)).setCell ⟨w.heap.size + 1, 3,none⟩ (.int .i64 0)).setCell ⟨w.heap.size + 1 + 1, 0,none⟩ (.int .i64 9)) = W'
   intro k4 k5 ho
   have hD' := (ho.block wc.heap.size (by have := (Array.getElem?_eq_some_iff.1 hD).1; exact this) (by omega)).trans hD
   have ho2 := off_putObj W' wc.heap.size (.deferred none)
   have q4 : Blk (W'.putObj wc.heap.size (.deferred none)) (w.heap.size + 1) 34 (boxC zeroBox) := (ho2.block _ k4.lt (by omega)).trans k4
   have q5 : Blk (W'.putObj wc.heap.size (.deferred none)) (w.heap.size + 1 + 1) 26 #[.int .i64 9] := (ho2.block _ k5.lt (by omega)).trans k5
   refine ⟨by simp, .inl ⟨_,_,rfl,run_takeDeferred hD', ?_⟩⟩
   have d0 : (W'.putObj wc.heap.size (.deferred none)).cell? ⟨w.heap.size + 1, 0,none⟩ = some (.int .i64 0) := q4.cell 0
   have d1 : (W'.putObj wc.heap.size (.deferred none)).cell? ⟨w.heap.size + 1, 1,none⟩ = some (.int .i64 0) := q4.cell 1
   have d2 : (W'.putObj wc.heap.size (.deferred none)).cell? ⟨w.heap.size + 1, 2,none⟩ = some (.int .i64 0) := q4.cell 2
   have d3 : (W'.putObj wc.heap.size (.deferred none)).cell? ⟨w.heap.size + 1, 3,none⟩ = some (.int .i64 0) := q4.cell 3
   have d5 : (W'.putObj wc.heap.size (.deferred none)).cell? ⟨w.heap.size + 1 + 1, 0,none⟩ = some (.int .i64 9) := q5.cell 0
   refine ⟨.tuple #[.agg (boxC zeroBox), .int .i64 9],by simp [results,Tryz.results80,go_sem,d0,d1,d2,d3,d5,zeroBox], ?_⟩
   refine ⟨by rw [hxs]; rfl,(h6.step ho (fun k hk h => by omega)).step ho2 (fun k hk h => by omega),fun _ => hEd W _ hE ((ho.mono fun k _ h => by omega).trans (ho2.mono fun k _ h => by omega)),fun h => absurd hxs h⟩
  case stop =>
   rintro c i W hi ⟨rfl,hne,h6,hc⟩ hE hD
   have hDl := (Array.getElem?_eq_some_iff.1 hD).1
   rcases hc with ⟨rfl,h4,h5⟩ | ⟨rfl,e,h4,h5⟩
   ·gi_wp2
    have ho2 := off_putObj W wc.heap.size (.deferred none)
    have q4 : Blk (W.putObj wc.heap.size (.deferred none)) (w.heap.size + 1) 34 (boxC (findR id xs).1) := (ho2.block _ h4.lt (by omega)).trans h4
    have q5 : Blk (W.putObj wc.heap.size (.deferred none)) (w.heap.size + 1 + 1) 26 #[.int .i64 (findR id xs).2] := (ho2.block _ h5.lt (by omega)).trans h5
    refine ⟨by simp, .inl ⟨_,_,rfl,run_takeDeferred hD, ?_⟩⟩
    have d0 := q4.cell 0
    have d1 := q4.cell 1
    have d2 := q4.cell 2
    have d3 := q4.cell 3
    have d5 := q5.cell 0
    simp at d0 d1 d2 d3 d5
    refine ⟨.tuple #[.agg (boxC (findR id xs).1), .int .i64 (findR id xs).2],by simp [results,Tryz.results80,go_sem,d0,d1,d2,d3,d5], ?_⟩
    exact ⟨rfl,h6.step ho2 (fun k hk h => by omega),fun h => absurd h hne,fun _ => hEs 1 W _ hE (ho2.mono fun k _ h => by omega)⟩
   ·have c40 : W.cell? ⟨w.heap.size + 1, 0,none⟩ = some (.int .i64 0) := h4.cell 0
    have c41 : W.cell? ⟨w.heap.size + 1, 1,none⟩ = some (.int .i64 0) := h4.cell 1
    have c42 : W.cell? ⟨w.heap.size + 1, 2,none⟩ = some (.int .i64 0) := h4.cell 2
    have c43 : W.cell? ⟨w.heap.size + 1, 3,none⟩ = some (.int .i64 0) := h4.cell 3
    have c50 : W.cell? ⟨w.heap.size + 1 + 1, 0,none⟩ = some (.int .i64 0) := h5.cell 0
    have f40 : W.frozen? ⟨w.heap.size + 1, 0,none⟩ = false := h4.frozen 0
    have f41 : W.frozen? ⟨w.heap.size + 1, 1,none⟩ = false := h4.frozen 1
    have f42 : W.frozen? ⟨w.heap.size + 1, 2,none⟩ = false := h4.frozen 2
    have f43 : W.frozen? ⟨w.heap.size + 1, 3,none⟩ = false := h4.frozen 3
    have f50 : W.frozen? ⟨w.heap.size + 1 + 1, 0,none⟩ = false := h5.frozen 0
    have HE : Hid (findR id xs = (zeroBox, 9)) := e
    clear e
    gi_wp2
    obtain ⟨k4,k5,ko⟩ := put45 h4 h5 (by omega) (.int .i64 0) (.int .i64 0) (.int .i64 0) (.int .i64 0) (.int .i64 9)
    have ho := ko (fun k => k = w.heap.size + 1 ∨ k = w.heap.size + 1 + 1) (.inl rfl) (.inr rfl)
    revert k4 k5 ho
    generalize (((((W.setCell ⟨w.heap.size + 1, 0,none⟩ (.int .i64 0)).setCell ⟨w.heap.size + 1, 1,none⟩ (.int .i64 0)).setCell ⟨w.heap.size + 1, 2,none⟩ (.int .i64 0)).setCell ⟨w.heap.size + 1, 3,none⟩ (.int .i64 0)).setCell ⟨w.heap.size + 1 + 1, 0,none⟩ (.int .i64 9)) = W'
    intro k4 k5 ho
    have hD' := (ho.block wc.heap.size hDl (by omega)).trans hD
    have ho2 := off_putObj W' wc.heap.size (.deferred none)
    have q4 : Blk (W'.putObj wc.heap.size (.deferred none)) (w.heap.size + 1) 34 (boxC zeroBox) := (ho2.block _ k4.lt (by omega)).trans k4
    have q5 : Blk (W'.putObj wc.heap.size (.deferred none)) (w.heap.size + 1 + 1) 26 #[.int .i64 9] := (ho2.block _ k5.lt (by omega)).trans k5
    refine ⟨by simp, .inl ⟨_,_,rfl,run_takeDeferred hD', ?_⟩⟩
    have d0 : (W'.putObj wc.heap.size (.deferred none)).cell? ⟨w.heap.size + 1, 0,none⟩ = some (.int .i64 0) := q4.cell 0
    have d1 : (W'.putObj wc.heap.size (.deferred none)).cell? ⟨w.heap.size + 1, 1,none⟩ = some (.int .i64 0) := q4.cell 1
    have d2 : (W'.putObj wc.heap.size (.deferred none)).cell? ⟨w.heap.size + 1, 2,none⟩ = some (.int .i64 0) := q4.cell 2
    have d3 : (W'.putObj wc.heap.size (.deferred none)).cell? ⟨w.heap.size + 1, 3,none⟩ = some (.int .i64 0) := q4.cell 3
    have d5 : (W'.putObj wc.heap.size (.deferred none)).cell? ⟨w.heap.size + 1 + 1, 0,none⟩ = some (.int .i64 9) := q5.cell 0
    refine ⟨.tuple #[.agg (boxC zeroBox), .int .i64 9],by simp [results,Tryz.results80,go_sem,d0,d1,d2,d3,d5,zeroBox], ?_⟩
    exact ⟨by rw [HE.out],(h6.step ho (fun k hk h => by omega)).step ho2 (fun k hk h => by omega),fun h => absurd h hne,fun _ => hEs 1 W _ hE ((ho.mono fun k _ h => by omega).trans (ho2.mono fun k _ h => by omega))⟩
end
section
attribute [local go_sem] Oper.semAt_some
theorem put23 {W : World} {B4 B5 : Nat} {z0 z5 : Value} {t4 : Nat} (h4 : Blk W B4 t4 #[z0]) (h5 : Blk W B5 26 #[z5]) (hne : B4 ≠ B5) (v0 v5 : Value) :
  Blk ((W.setCell ⟨B4, 0,none⟩ v0).setCell ⟨B5, 0,none⟩ v5) B4 t4 #[v0] ∧ Blk ((W.setCell ⟨B4, 0,none⟩ v0).setCell ⟨B5, 0,none⟩ v5) B5 26 #[v5] ∧
  ∀ F : Nat → Prop,F B4 → F B5 → Off F W ((W.setCell ⟨B4, 0,none⟩ v0).setCell ⟨B5, 0,none⟩ v5) := by
 have ho : ∀ F : Nat → Prop,F B4 → Off F W (W.setCell ⟨B4, 0,none⟩ v0) := fun F hF => (Off.refl F W).setCell v0 (.inl hF)
 have k4' : Blk (W.setCell ⟨B4, 0,none⟩ v0) B4 t4 #[v0] := h4.set 0 v0
 have k5 : Blk (W.setCell ⟨B4, 0,none⟩ v0) B5 26 #[z5] := ((ho (fun k => k = B4) rfl).block B5 h5.lt (Ne.symm hne)).trans h5
 have k5' := k5.set 0 v5
 exact ⟨((Off.one _ v5).block B4 k4'.lt hne).trans k4',k5',fun F f4 f5 => (ho F f4).setCell v5 (.inl f5)⟩
set_option maxRecDepth 100000 in
set_option maxHeartbeats 4000000 in
theorem count_any (w : World) (A : PA) (t x : Nat) (dead : Bool) (xs : List Tld) (Ed : World → Prop) (Es : Nat → World → Prop) (hlen : xs.length ≤ 1000000)
  (hF : ∀ k,A.F k → k < w.heap.size) (ht : t < w.heap.size) (hx : IdxB w x t dead)
  (hEd : ∀ X Y,Ed X → Off (fun k => w.heap.size ≤ k) X Y → Ed Y) (hEs : ∀ i X Y,Es i X → Off (fun k => w.heap.size ≤ k) X Y → Es i Y)
  (hseq : ∀ (W : World) (tb kb : Nat) (M0 : Nat → Prop),Below w.heap.size w W → Blk W tb 122 #[.pointer (some ⟨t, 0,none⟩)] → Blk W kb 154 #[.int .i64 NUM, .int .i64 0] → (∀ b,M0 b → b < W.heap.size) → (∀ b,A.F b → ¬ M0 b) → ¬ M0 t → Tells 5 Tryz.prog 120 #[.pointer (some ⟨tb, 0,none⟩), .pointer (some ⟨kb, 0,none⟩)] tldE A.F M0 xs Ed Es W) :
  Calls Tryz.prog 96 #[.pointer (some ⟨x, 0,none⟩)] w fun e w' => Off A.F w w' ∧ ((e = .returned (.tuple #[.int .i64 (xs.length : Int), .int .i64 0]) ∧ (∀ y ∈ xs,y.2 = 0) ∧ Ed w') ∨ ∃ i y,xs[i]? = some y ∧ y.2 ≠ 0 ∧ e = .returned (.tuple #[.int .i64 0, .int .i64 y.2]) ∧ Es (i + 1) w') := by
 refine (callsIn_wide (n := 6)).1 ?_
 refine callsIn_of_wp_marks Tryz.func96 rfl trivial ?_ rfl
 simp only [Tryz.ntmps96,List.size_toArray,List.length_cons,List.length_nil,Nat.reduceAdd,Nat.reduceSub,Array.replicate_succ,Array.replicate_zero,List.push_toArray,List.append_toArray,List.nil_append,List.cons_append]
 gi_upto_region 2 with fail
 obtain ⟨W0,hW0⟩ : ∃ W0,((w.alloc (.cells #[.int .i64 0] 3)).alloc (.cells #[.int .i64 0] 26)).alloc (.cells #[.int .i64 0] 3) = W0 := ⟨_,rfl⟩
 have b2 : Blk W0 w.heap.size 3 #[.int .i64 0] := by rw [← hW0]; exact ((Blk.new w 3 _).alloc _).alloc _
 have b3 : Blk W0 (w.heap.size + 1) 26 #[.int .i64 0] := by
  rw [← hW0]; have := (Blk.new (w.alloc (.cells #[.int .i64 0] 3)) 26 #[.int .i64 0]).alloc (.cells #[.int .i64 0] 3); rwa [World.size_alloc] at this
 have b4 : Blk W0 (w.heap.size + 1 + 1) 3 #[.int .i64 0] := by
  rw [← hW0]; have := Blk.new ((w.alloc (.cells #[.int .i64 0] 3)).alloc (.cells #[.int .i64 0] 26)) 3 #[.int .i64 0]; simp only [World.size_alloc] at this; exact this
 have hb0 : Below w.heap.size w W0 := by rw [← hW0]; exact (((Below.refl _ w).alloc (Nat.le_refl _) _).alloc (by simp) _).alloc (by simp; omega) _
 have hs0 : W0.heap.size = w.heap.size + 3 := by rw [← hW0]; simp
 rw [hW0]
 have cx : W0.cell? ⟨x, 0,none⟩ = some (.pointer (some ⟨t, 0,none⟩)) := (hb0.cell (p := ⟨x, 0,none⟩) hx.lt).trans (hx.cell 0)
 have hxl : x < W0.heap.size := by have := hx.lt; omega
 have hnk := nkey_any W0.drew 0
 clear hW0
 gi_cut [12] from 21 (fun s12 wx => ∃ tb kb,s12 = .func (.func 120) #[] #[.pointer (some ⟨tb, 0,none⟩), .pointer (some ⟨kb, 0,none⟩)] ∧ Blk wx tb 122 #[.pointer (some ⟨t, 0,none⟩)] ∧ Blk wx kb 154 #[.int .i64 NUM, .int .i64 0] ∧ Below W0.heap.size W0 wx)
 case first =>
  have hmx : Tryz.prog.follows .mixedOrders = true := by kernel_rfl
  refine wpIn_calm ?_
  gi_region_with_o (first
   | (refine ⟨trivial, ?_⟩; gi_at_call 108; refine (callsIn_wide.2 hnk).mono ?_; rintro e w1 ⟨rfl,hb1⟩; have cx1 : w1.cell? ⟨x, 0,none⟩ = some (.pointer (some ⟨t, 0,none⟩)) := (hb1.cell (p := ⟨x, 0,none⟩) hxl).trans cx)
   | (refine ⟨trivial, ?_⟩; gi_at_call 87; refine (callsIn_wide.2 (from_any _ t (NUM, 0))).mono ?_; rintro e w2 ⟨rfl,rfl⟩))
  all_goals gi_wp2
  all_goals gi_meet
  all_goals
   have hb1' : Below W0.heap.size W0 w1 := ((Below.refl _ W0).drew).trans hb1
   have hs1 := hb1'.size
   exact ⟨w1.heap.size,w1.heap.size + 1,rfl,(Blk.new w1 122 _).alloc _,by have := Blk.new (w1.alloc (.cells #[.pointer (some ⟨t, 0,none⟩)] 122)) 154 #[.int .i64 NUM, .int .i64 0]; rwa [World.size_alloc] at this,(hb1'.alloc hs1 _).alloc (by simp; omega) _⟩
 case rest =>
  obtain ⟨tb,kb,rfl,btb,bkb,hbx⟩ := hcut
  clear hnk
  have hsx := hbx.size
  have hBx : Below w.heap.size w wc := hb0.trans (hbx.mono (by omega))
  have bx2 := b2.below hbx (by omega)
  have bx3 := b3.below hbx (by omega)
  have bx4 := b4.below hbx (by omega)
  have htells := hseq wc tb kb (fun k => k = w.heap.size ∨ k = w.heap.size + 1 ∨ k = w.heap.size + 1 + 1) hBx btb bkb (fun b hb => by omega) (fun b hb h => by have := hF b hb; omega) (by omega)
  have hF3 : ∀ k,w.heap.size ≤ k → ¬ A.F k := fun k hk h => by have := hF k h; omega
  clear hseq cx hxl b2 b3 b4 hb0 btb bkb
  gi_wp2
  refine wpIn_tells (by omega) (gf := 120) (lb := #[.pointer (some ⟨tb, 0,none⟩), .pointer (some ⟨kb, 0,none⟩)]) rfl (enters_of Tryz.func120 (by kernel_rfl) rfl) htells (fun _ => rfl) (fun k hk => by have := hF k hk; omega) (fun k hk => by omega)
   (fun i M W => i ≤ xs.length ∧ (∀ j y,j < i → xs[j]? = some y → y.2 = 0) ∧ (M w.heap.size ∧ M (w.heap.size + 1) ∧ M (w.heap.size + 1 + 1)) ∧ (∀ k,M k → w.heap.size ≤ k) ∧ Blk W w.heap.size 3 #[.int .i64 0] ∧ Blk W (w.heap.size + 1) 26 #[.int .i64 0] ∧ Blk W (w.heap.size + 1 + 1) 3 #[.int .i64 (i : Int)] ∧ Off A.F w W)
   (fun c i W => c = .ret ∧ Off A.F w W ∧ ∃ i' y,i = i' + 1 ∧ xs[i']? = some y ∧ y.2 ≠ 0 ∧ Blk W w.heap.size 3 #[.int .i64 0] ∧ Blk W (w.heap.size + 1) 26 #[.int .i64 y.2])
   ?hI ?hIx (fun X Y h _ ho => hEd X Y h (ho.mono fun k _ e => by omega)) (fun i X Y h _ ho => hEs i X Y h (ho.mono fun k _ e => by omega)) ⟨Nat.zero_le _,fun j y hj => by omega,⟨.inl rfl, .inr (.inl rfl), .inr (.inr rfl)⟩,fun k hk => by omega,bx2,bx3,bx4,Off.of_below hBx⟩
   (fun y a' W => a' = { tmps := #[.pointer (some ⟨x, 0,none⟩),undef, .pointer (some ⟨w.heap.size, 0,none⟩), .pointer (some ⟨w.heap.size + 1, 0,none⟩), .pointer (some ⟨w.heap.size + 1 + 1, 0,none⟩),undef, .int .i64 y.2,u7,u8,u9,u10,u11, .func (.func 120) #[] #[.pointer (some ⟨tb, 0,none⟩), .pointer (some ⟨kb, 0,none⟩)],entV y.1, .int .i64 y.2,undef,undef,undef,undef,undef,undef],defers := [] })
   (fun y a' X Y h _ => h) ?assign ?body ?done ?stop
  case hI =>
   rintro i M X Y ⟨hi,hz,m1,m3,h2,h3,h4,h6⟩ ho
   exact ⟨hi,hz,m1,m3,(ho.block _ h2.lt (fun h => h.elim (hF3 _ (by omega)) (by omega))).trans h2,(ho.block _ h3.lt (fun h => h.elim (hF3 _ (by omega)) (by omega))).trans h3,(ho.block _ h4.lt (fun h => h.elim (hF3 _ (by omega)) (by omega))).trans h4,h6.step ho (fun k hk h => h.elim (fun h => h) (by omega))⟩
  case hIx =>
   rintro c i X Y ⟨rfl,h6,i',y,rfl,hy,hy2,h2,h3⟩ ho
   exact ⟨rfl,h6.step ho (fun k hk h => h.elim (fun h => h) (by omega)),i',y,rfl,hy,hy2,(ho.block _ h2.lt (fun h => h.elim (hF3 _ (by omega)) (by omega))).trans h2,(ho.block _ h3.lt (fun h => h.elim (hF3 _ (by omega)) (by omega))).trans h3⟩
  case assign =>
   rintro l i y M W K hy hi hM hW hK
   have HK : Hid _ := hK
   have HI : Hid _ := hi
   clear hK hi
   simp only [tldE]
   gi_wp2
   have e : Grow M W W = M := by funext k; exact propext ⟨fun h => h.elim (fun h => h) (fun h => by omega), .inl⟩
   exact HK.out _ _ (Off.refl _ _) (by rw [e]; exact HI.out) rfl
  case body =>
   rintro l i y M a' W hy ⟨hi,hz,⟨m1,m2,m4⟩,m3,h2,h3,h4,h6⟩ rfl hM hW
   have hw6 := h6.size
   have hil := (List.getElem?_eq_some_iff.1 hy).1
   have c2 : W.cell? ⟨w.heap.size, 0,none⟩ = some (.int .i64 0) := h2.cell 0
   have c3 : W.cell? ⟨w.heap.size + 1, 0,none⟩ = some (.int .i64 0) := h3.cell 0
   have c4 : W.cell? ⟨w.heap.size + 1 + 1, 0,none⟩ = some (.int .i64 (i : Int)) := h4.cell 0
   have f2 : W.frozen? ⟨w.heap.size, 0,none⟩ = false := h2.frozen 0
   have f3 : W.frozen? ⟨w.heap.size + 1, 0,none⟩ = false := h3.frozen 0
   have f4 : W.frozen? ⟨w.heap.size + 1 + 1, 0,none⟩ = false := h4.frozen 0
   by_cases hy2 : y.2 = 0
   ·obtain ⟨ye,yb⟩ := y
    simp only at hy2
    subst hy2
    have HY : Hid (xs[i]? = some (ye, 0)) := hy
    have HZ : Hid (∀ j y,j < i → xs[j]? = some y → y.2 = 0) := hz
    clear hy hz
    gi_wp2
    have ho : Off M W (W.setCell ⟨w.heap.size + 1 + 1, 0,none⟩ (.int .i64 ((i : Int) + 1))) := (Off.refl M W).setCell _ (.inl m4)
    have hgr : ∀ k,M k → Grow M W (W.setCell ⟨w.heap.size + 1 + 1, 0,none⟩ (.int .i64 ((i : Int) + 1))) k := fun k h => .inl h
    have k2 : Blk (W.setCell ⟨w.heap.size + 1 + 1, 0,none⟩ (.int .i64 ((i : Int) + 1))) w.heap.size 3 #[.int .i64 0] := ((Off.one W _).block _ h2.lt (by omega)).trans h2
    have k3 : Blk (W.setCell ⟨w.heap.size + 1 + 1, 0,none⟩ (.int .i64 ((i : Int) + 1))) (w.heap.size + 1) 26 #[.int .i64 0] := ((Off.one W _).block _ h3.lt (by omega)).trans h3
    have k4 : Blk (W.setCell ⟨w.heap.size + 1 + 1, 0,none⟩ (.int .i64 ((i : Int) + 1))) (w.heap.size + 1 + 1) 3 #[.int .i64 ((i + 1 : Nat) : Int)] := h4.set 0 _
    refine ⟨ho,by omega,fun j y hj hy => ?_,⟨hgr _ m1,hgr _ m2,hgr _ m4⟩,fun k hk => hk.elim (m3 k) (fun h => by omega),k2,k3,k4,h6.step ho (fun k hk h => by have := m3 k h; omega)⟩
    by_cases hj2 : j = i
    ·subst hj2
     rw [HY.out] at hy
     simp only [Option.some.injEq] at hy
     rw [← hy]
    ·exact HZ.out j y (by omega) hy
   ·have hy3 : (y.2 != 0) = true := by simpa using hy2
    have HY : Hid (xs[i]? = some y) := hy
    clear hy
    gi_wp2
    obtain ⟨k4,k5,ko⟩ := put23 h2 h3 (by omega) (.int .i64 0) (.int .i64 y.2)
    have ho := ko M m1 m2
    exact ⟨ho,rfl,h6.step ho (fun k hk h => by have := m3 k h; omega),i,y,rfl,HY.out,hy2,k4,k5⟩
  case done =>
   rintro M W ⟨hi,hz,m1,m3,h2,h3,h4,h6⟩ hE hD
   have c2 : W.cell? ⟨w.heap.size, 0,none⟩ = some (.int .i64 0) := h2.cell 0
   have c3 : W.cell? ⟨w.heap.size + 1, 0,none⟩ = some (.int .i64 0) := h3.cell 0
   have c4 : W.cell? ⟨w.heap.size + 1 + 1, 0,none⟩ = some (.int .i64 (xs.length : Int)) := h4.cell 0
   have f2 : W.frozen? ⟨w.heap.size, 0,none⟩ = false := h2.frozen 0
   have f3 : W.frozen? ⟨w.heap.size + 1, 0,none⟩ = false := h3.frozen 0
   gi_wp2
   obtain ⟨k4,k5,ko⟩ := put23 h2 h3 (by omega) (.int .i64 (xs.length : Int)) (.int .i64 0)
   have ho := ko (fun k => k = w.heap.size ∨ k = w.heap.size + 1) (.inl rfl) (.inr rfl)
   revert k4 k5 ho
   generalize ((W.setCell ⟨w.heap.size, 0,none⟩ (.int .i64 (xs.length : Int))).setCell ⟨w.heap.size + 1, 0,none⟩ (.int .i64 0)) = W'
   intro k4 k5 ho
   have hD' := (ho.block wc.heap.size (by have := (Array.getElem?_eq_some_iff.1 hD).1; exact this) (by omega)).trans hD
   have ho2 := off_putObj W' wc.heap.size (.deferred none)
   have q4 : Blk (W'.putObj wc.heap.size (.deferred none)) w.heap.size 3 #[.int .i64 (xs.length : Int)] := (ho2.block _ k4.lt (by omega)).trans k4
   have q5 : Blk (W'.putObj wc.heap.size (.deferred none)) (w.heap.size + 1) 26 #[.int .i64 0] := (ho2.block _ k5.lt (by omega)).trans k5
   refine ⟨by simp, .inl ⟨_,_,rfl,run_takeDeferred hD', ?_⟩⟩
   have d0 := q4.cell 0
   have d5 := q5.cell 0
   simp at d0 d5
   refine ⟨.tuple #[.int .i64 (xs.length : Int), .int .i64 0],by simp [results,Tryz.results96,go_sem,d0,d5], ?_⟩
   refine ⟨(h6.step ho (fun k hk h => by omega)).step ho2 (fun k hk h => by omega), .inl ⟨rfl,fun y hy => ?_,hEd W _ hE ((ho.mono fun k _ h => by omega).trans (ho2.mono fun k _ h => by omega))⟩⟩
   obtain ⟨j,hj,e⟩ := List.getElem_of_mem hy
   exact hz j y hj (by rw [List.getElem?_eq_getElem hj,e])
  case stop =>
   rintro c i W hi ⟨rfl,h6,i',y,rfl,hy,hy2,h2,h3⟩ hE hD
   gi_wp2
   have ho2 := off_putObj W wc.heap.size (.deferred none)
   have q4 : Blk (W.putObj wc.heap.size (.deferred none)) w.heap.size 3 #[.int .i64 0] := (ho2.block _ h2.lt (by omega)).trans h2
   have q5 : Blk (W.putObj wc.heap.size (.deferred none)) (w.heap.size + 1) 26 #[.int .i64 y.2] := (ho2.block _ h3.lt (by omega)).trans h3
   refine ⟨by simp, .inl ⟨_,_,rfl,run_takeDeferred hD, ?_⟩⟩
   have d0 := q4.cell 0
   have d5 := q5.cell 0
   simp at d0 d5
   refine ⟨.tuple #[.int .i64 0, .int .i64 y.2],by simp [results,Tryz.results96,go_sem,d0,d5], ?_⟩
   exact ⟨h6.step ho2 (fun k hk h => by omega), .inr ⟨i',y,hy,hy2,rfl,hEs _ W _ hE (ho2.mono fun k _ h => by omega)⟩⟩
end
end Go.Proofs.YtdgbgmffpcooeaaGreat
