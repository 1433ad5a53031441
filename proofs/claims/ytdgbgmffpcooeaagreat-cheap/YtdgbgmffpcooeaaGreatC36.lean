/- Ix4 -/
import Derived.Test.YtdgbgmffpcooeaaGreatC35
section
/- The calls of an index: Put, Delete, Get, Count. -/
namespace Go.Proofs.YtdgbgmffpcooeaaGreat
open Go.RowKit Go.Lib
def idB (id : Int) : Bool := decide (0 ≤ id) && decide (id ≤ 4611686018427387904)
set_option maxHeartbeats 1000000 in
theorem isId_any (id : Int) (w : World) : Calls Tryz.prog 78 #[.int .i64 id] w fun e w' => e = .returned (.bool (idB id)) ∧ w' = w := by
  unfold idB
  by_cases h1 : 0 ≤ id
  · by_cases h2 : id ≤ 4611686018427387904
    · go_enter Tryz.func78, Tryz.ntmps78
      go_wp2
      go_ret
      simp [h1, h2]
    · go_enter Tryz.func78, Tryz.ntmps78
      go_wp2
      go_ret
      simp [h2]
  · go_enter Tryz.func78, Tryz.ntmps78
    go_wp2
    go_ret
    simp
    omega
def refuseE (dead : Bool) (id : Int) : Int := if dead = true then 11 else if idB id = true then 0 else 8
set_option maxHeartbeats 1000000 in
theorem refuse_any (w : World) (x t : Nat) (dead : Bool) (hx : IdxB w x t dead) (id : Int) : Calls Tryz.prog 58 #[.pointer (some ⟨x, 0, none⟩), .int .i64 id] w fun e w' => e = .returned (.int .i64 (refuseE dead id)) ∧ w' = w := by
  have c1 : w.cell? ⟨x, 1, none⟩ = some (.bool dead) := hx.cell 1
  have hid := isId_any id w
  unfold refuseE
  cases dead with
  | true =>
    go_enter Tryz.func58, Tryz.ntmps58
    go_wp2
    go_ret
    exact ⟨rfl, rfl⟩
  | false =>
    cases hb : idB id with
    | true =>
      rw [hb] at hid
      go_enter Tryz.func58, Tryz.ntmps58
      go_wp2_with (go_at_call 78; refine hid.mono ?_; rintro e w1 ⟨rfl, rfl⟩)
      go_ret
      exact ⟨rfl, rfl⟩
    | false =>
      rw [hb] at hid
      go_enter Tryz.func58, Tryz.ntmps58
      go_wp2_with (go_at_call 78; refine hid.mono ?_; rintro e w1 ⟨rfl, rfl⟩)
      go_ret
      exact ⟨rfl, rfl⟩
theorem right_of_ok {v : Box} (hv : v.ok) : rightB (v.a : Int) (v.b : Int) (v.c : Int) (v.d : Int) = true := by
  unfold rightB; rw [decide_eq_true_iff]
  obtain ⟨h1, h2, h3, h4⟩ := hv
  exact ⟨by omega, by omega, by omega, by omega, by omega, by omega⟩
/-- What is kept in mind. -/
def mindW (w : World) (x : Nat) (er : Int) : World := if er = 4 then w.setCell ⟨x, 1, none⟩ (.bool true) else w
set_option maxHeartbeats 1000000 in
theorem mind_any (w : World) (x t : Nat) (dead : Bool) (hx : IdxB w x t dead) (er : Int) : Calls Tryz.prog 60 #[.pointer (some ⟨x, 0, none⟩), .int .i64 er] w fun e w' => e = .returned (.int .i64 er) ∧ w' = mindW w x er := by
  have c1 : w.cell? ⟨x, 1, none⟩ = some (.bool dead) := hx.cell 1
  have f1 : w.frozen? ⟨x, 1, none⟩ = false := hx.frozen 1
  unfold mindW
  by_cases h4 : er = 4
  · subst h4
    go_enter Tryz.func60, Tryz.ntmps60
    go_wp2
    go_ret
    exact ⟨rfl, rfl⟩
  · have h4' : (er == 4) = false := by simpa using h4
    rw [if_neg h4]
    go_enter Tryz.func60, Tryz.ntmps60
    go_wp2
    go_ret
    exact ⟨rfl, rfl⟩
theorem IxS.minded {w : World} {base : Nat} {A : PA} {s : PS} {x t : Nat} {dead : Bool} {f : Value} {fr : List Nat} (h : IxS w base A s x t dead f fr) (er : Int) : IxS (mindW w x er) base A s x t (dead || decide (er = 4)) f fr ∧ Off (fun k => k = x) w (mindW w x er) := by
  unfold mindW
  by_cases h4 : er = 4
  · rw [if_pos h4, decide_eq_true h4, Bool.or_true]
    obtain ⟨n1, n2⟩ := h.nx
    have o : Off (fun k => k = x) w (w.setCell ⟨x, 1, none⟩ (.bool true)) := Off.one w _
    refine ⟨⟨h.pd.off o (fun k hk e => n1 (e ▸ hk)), (o.block t h.tr.lt (Ne.symm n2)).trans h.tr, own_offv h.row o (fun g hg e => ?_), h.ix.set 1 _⟩, o⟩
    have e' : g = x := e
    obtain ⟨cs, hc⟩ := (own_tagged h.row hg).2
    have h' : w.heap[x]? = _ := h.ix
    rw [e', h'] at hc; simp at hc
  · rw [if_neg h4, decide_eq_false h4, Bool.or_false]
    exact ⟨h, Off.refl _ _⟩
/-- What is left behind a call that changes the table. -/
def CallP (w : World) (base : Nat) (A : PA) (s : PS) (x t : Nat) (dead : Bool) (f : Value) (fr : List Nat) (tb tb' : List (Int × Box)) (full : Prop) (e : Ending) (w' : World) : Prop :=
  Off (fun k => A.F k ∨ k = t ∨ k = x) w w' ∧ (
  (e = .returned (.int .i64 10) ∧ full ∧ ∃ r, r ≤ 400 ∧ IxS w' base A (s.at_ r) x t dead f fr) ∨
  (e = .returned (.int .i64 0) ∧ ∃ m' s' f' fr' root' es' us', (m' = A.m ∨ w.heap.size ≤ m') ∧ IxS w' base { A with m := m' } s' x t dead f' fr' ∧ Gd s' fr' root' es' us' tb' ∧ s'.n = s.n ∧ Adds s s' 400 ∧ s'.broken = false ∧ (Free s → Free s')) ∨
  (e = .returned (.int .i64 4) ∧ ∃ m' s', (m' = A.m ∨ w.heap.size ≤ m') ∧ IxS w' base { A with m := m' } s' x t true f fr ∧ s'.broken = true ∧ Torn2 s' tb tb' ∧ s'.n = s.n ∧ Adds s s' 400 ∧ ¬ Free s))
theorem DoneP.minded {w : World} {base : Nat} {A : PA} {s : PS} {x t : Nat} {f : Value} {fr : List Nat} {tb tb' : List (Int × Box)} {full : Prop} {e : Ending} {w' : World} (h : DoneP w base A s x t false f fr tb tb' full e w') : ∃ er : Int, e = .returned (.int .i64 er) ∧ IdxB w' x t false ∧ CallP w base A s x t false f fr tb tb' full e (mindW w' x er) := by
  obtain ⟨ho, h⟩ := h
  have ho' : Off (fun k => A.F k ∨ k = t ∨ k = x) w w' := ho.mono (fun k _ h => h.elim .inl (fun h => .inr (.inl h)))
  rcases h with ⟨rfl, hf, r, hr, hI⟩ | ⟨rfl, m', s', f', fr', root', es', us', hm, hI, hG, hn, ha⟩ | ⟨rfl, m', s', hm, hI, hb, ht, hn, ha⟩
  · obtain ⟨h1, o1⟩ := hI.minded 10
    exact ⟨10, rfl, hI.ix, ho'.trans (o1.mono (fun k _ h => .inr (.inr h))), .inl ⟨rfl, hf, r, hr, h1⟩⟩
  · obtain ⟨h1, o1⟩ := hI.minded 0
    exact ⟨0, rfl, hI.ix, ho'.trans (o1.mono (fun k _ h => .inr (.inr h))), .inr (.inl ⟨rfl, m', s', f', fr', root', es', us', hm, h1, hG, hn, ha⟩)⟩
  · obtain ⟨h1, o1⟩ := hI.minded 4
    exact ⟨4, rfl, hI.ix, ho'.trans (o1.mono (fun k _ h => .inr (.inr h))), .inr (.inr ⟨rfl, m', s', hm, h1, hb, ht, hn, ha⟩)⟩
set_option maxRecDepth 100000 in
set_option maxHeartbeats 2000000 in
/-- Put, of a rectangle that is right. -/
theorem iput_go (w : World) (x t : Nat) (hx : IdxB w x t false) (id : Int) (hid : idB id = true) (v : Box) (hv : v.ok) (R : Ending → World → Prop)
    (hput : ∀ W, Below w.heap.size w W → Calls Tryz.prog 61 #[.pointer (some ⟨x, 0, none⟩), .int .i64 id, .agg #[.int .i64 (v.a : Int), .int .i64 (v.b : Int), .int .i64 (v.c : Int), .int .i64 (v.d : Int)]] W fun e w' => ∃ er : Int, e = .returned (.int .i64 er) ∧ (∃ dead, IdxB w' x t dead) ∧ R e (mindW w' x er)) :
    Calls Tryz.prog 30 #[.pointer (some ⟨x, 0, none⟩), .int .i64 id, .agg #[.int .i64 (v.a : Int), .int .i64 (v.b : Int), .int .i64 (v.c : Int), .int .i64 (v.d : Int)]] w R := by
  have hb0 : Below w.heap.size w (w.alloc (.cells #[.int .i64 (v.a : Int), .int .i64 (v.b : Int), .int .i64 (v.c : Int), .int .i64 (v.d : Int)] 34)) := (Below.refl _ w).alloc (Nat.le_refl _) _
  have B0 := Blk.new w 34 #[.int .i64 (v.a : Int), .int .i64 (v.b : Int), .int .i64 (v.c : Int), .int .i64 (v.d : Int)]
  have href := refuse_any _ x t false ((hb0.block x hx.lt).trans hx) id
  have hr0 : refuseE false id = 0 := by unfold refuseE; rw [hid]; rfl
  rw [hr0] at href
  have hri := right_any (v.a : Int) (v.b : Int) (v.c : Int) (v.d : Int) (w.alloc (.cells #[.int .i64 (v.a : Int), .int .i64 (v.b : Int), .int .i64 (v.c : Int), .int .i64 (v.d : Int)] 34))
  rw [right_of_ok hv] at hri
  have HB : Hid _ := hb0
  have HB0 : Hid (Blk (w.alloc (.cells #[.int .i64 (v.a : Int), .int .i64 (v.b : Int), .int .i64 (v.c : Int), .int .i64 (v.d : Int)] 34)) w.heap.size 34 #[.int .i64 (v.a : Int), .int .i64 (v.b : Int), .int .i64 (v.c : Int), .int .i64 (v.d : Int)]) := B0
  have HPUT : Hid _ := hput
  clear hb0 B0 hr0 hid hv hx hput
  go_enter Tryz.func30, Tryz.ntmps30
  go_upto_region 6 with (first
    | (go_at_call 58; refine href.mono ?_; rintro e w1 ⟨rfl, rfl⟩)
    | (go_at_call 59; refine hri.mono ?_; rintro e w2 ⟨rfl, hb2⟩))
  have hW2 := HB.out.trans (hb2.mono HB.out.size)
  have B2 := HB0.out.below hb2 HB0.out.lt
  have c0 : w2.cell? ⟨w.heap.size, 0, none⟩ = some (.int .i64 (v.a : Int)) := B2.cell 0
  have c1 : w2.cell? ⟨w.heap.size, 1, none⟩ = some (.int .i64 (v.b : Int)) := B2.cell 1
  have c2 : w2.cell? ⟨w.heap.size, 2, none⟩ = some (.int .i64 (v.c : Int)) := B2.cell 2
  have c3 : w2.cell? ⟨w.heap.size, 3, none⟩ = some (.int .i64 (v.d : Int)) := B2.cell 3
  have hpu := HPUT.out w2 hW2
  clear href hri B2 hb2 hW2
  go_wp2_with (first
    | (go_at_call 61; refine hpu.mono ?_; rintro e w3 ⟨er, rfl, ⟨dd, hx3⟩, hR⟩; have hmi := mind_any w3 x t dd hx3 er)
    | (go_at_call 60; refine hmi.mono ?_; rintro e w4 ⟨rfl, rfl⟩))
  exact hR
set_option maxRecDepth 100000 in
set_option maxHeartbeats 2000000 in
theorem idel_go (w : World) (x t : Nat) (hx : IdxB w x t false) (id : Int) (hid : idB id = true) (R : Ending → World → Prop)
    (hdel : Calls Tryz.prog 95 #[.pointer (some ⟨x, 0, none⟩), .int .i64 id] w fun e w' => ∃ er : Int, e = .returned (.int .i64 er) ∧ (∃ dead, IdxB w' x t dead) ∧ R e (mindW w' x er)) :
    Calls Tryz.prog 65 #[.pointer (some ⟨x, 0, none⟩), .int .i64 id] w R := by
  have href := refuse_any w x t false hx id
  have hr0 : refuseE false id = 0 := by unfold refuseE; rw [hid]; rfl
  rw [hr0] at href
  clear hr0 hid hx
  go_enter Tryz.func65, Tryz.ntmps65
  go_wp2_with (first
    | (go_at_call 58; refine href.mono ?_; rintro e w1 ⟨rfl, rfl⟩)
    | (go_at_call 95; refine hdel.mono ?_; rintro e w3 ⟨er, rfl, ⟨dd, hx3⟩, hR⟩; have hmi := mind_any w3 x t dd hx3 er)
    | (go_at_call 60; refine hmi.mono ?_; rintro e w4 ⟨rfl, rfl⟩))
  exact hR
end Go.Proofs.YtdgbgmffpcooeaaGreat
end
