/- Se6 T10 Op1 -/
import Derived.Test.YtdgbgmffpcooeaaGreatK31
import Derived.Test.YtdgbgmffpcooeaaGreatK34
import Derived.Test.YtdgbgmffpcooeaaGreatK13
import Derived.Test.YtdgbgmffpcooeaaGreatK28
import Derived.Test.YtdgbgmffpcooeaaGreatK25
import Derived.Test.YtdgbgmffpcooeaaGreatK29
section
/- A window's search on a disk that has a tree, and on one that does not answer; Window. -/
namespace Go.Proofs.YtdgbgmffpcooeaaGreat
open Go.RowKit Go.Lib
theorem Tells.mono {α : Type} {n : Nat} {P : Program} {g : Nat} {lb : Array Value} {encs : α → Array Value} {Fb M0 : Nat → Prop} {xs : List α} {Ed Ed' : World → Prop} {Es Es' : Nat → World → Prop} {w : World} (h : Tells n P g lb encs Fb M0 xs Ed Es w) (h1 : ∀ W, Ed W → Ed' W) (h2 : ∀ i W, Es i W → Es' i W) : Tells n P g lb encs Fb M0 xs Ed' Es' w := by
  intro l J Jx W a1 a2 a3 a4 a5 a6 a7
  refine (h l J Jx W a1 a2 a3 a4 a5 a6 a7).mono ?_
  rintro e W' ⟨b1, ⟨M, b2, b3⟩ | ⟨i, b2, b3, b4⟩⟩
  · exact ⟨b1, .inl ⟨M, b2, h1 _ b3⟩⟩
  · exact ⟨b1, .inr ⟨i, b2, b3, h2 _ _ b4⟩⟩
section
variable {w : World} {base : Nat} {A : PA} {s : PS} {x t : Nat} {dead : Bool} {f : Value} {fr : List Nat} {root : Nat} {es : List (Key × Box)} {us : List Nat} {tb : List (Int × Box)}
theorem search_live (h : IxS w base A s x t dead f fr) (hG : Gd s fr root es us tb) (hs : s.brk = false) (r : Box) (hr : r.ok) :
    Calls Tryz.prog 62 #[.pointer (some ⟨x, 0, none⟩), .agg (boxC r)] w fun e w' => ∃ v ids, e = .returned (.tuple #[v, .int .i64 0]) ∧ IsIds r tb ids ∧ w'.ownsRow w.heap.size 3 1 v ids.length (intsV ids) ∧ Off A.F w w' ∧ ∃ r, IxS w' base A (s.at_ r) x t dead f fr := by
  have hF : ∀ k, A.F k → k < w.heap.size := fun k hk => (h.pd.lt k hk).2
  have hl := hG.tr.few h.pd.n2
  have st : ∀ X Y, (∃ r, PD X base A (s.at_ r) ∧ TreeB X t A f) → Off (fun k => w.heap.size ≤ k) X Y → ∃ r, PD Y base A (s.at_ r) ∧ TreeB Y t A f := fun X Y ⟨r, h1, h2⟩ ho => ⟨r, h1.off ho (fun k hk hh => by have := hF k hk; omega), (ho.block t h2.lt (by have := h.tr.lt; omega)).trans h2⟩
  have st0 : ∀ X Y, ((PD X base A s ∨ ∃ r, PD X base A (s.at_ r)) ∧ TreeB X t A f) → Off (fun k => w.heap.size ≤ k) X Y → (PD Y base A s ∨ ∃ r, PD Y base A (s.at_ r)) ∧ TreeB Y t A f := fun X Y ⟨h1, h2⟩ ho => ⟨h1.imp (fun h1 => h1.off ho (fun k hk hh => by have := hF k hk; omega)) (fun ⟨r, h1⟩ => ⟨r, h1.off ho (fun k hk hh => by have := hF k hk; omega)⟩), (ho.block t h2.lt (by have := h.tr.lt; omega)).trans h2⟩
  refine (search_any w A x t dead r hr false es tb (fun _ => hG.idx) (by omega) (fun W => (PD W base A s ∨ ∃ r, PD W base A (s.at_ r)) ∧ TreeB W t A f) (fun W => ∃ r, PD W base A (s.at_ r) ∧ TreeB W t A f) hF h.tr.lt h.nx.1 h.ix st0 st (fun _ _ ⟨r, h1, h2⟩ => ⟨.inr ⟨r, h1⟩, h2⟩) ⟨.inl h.pd, h.tr⟩ ?_).mono ?_
  · rintro W tB kB key M0 ⟨h1 | ⟨r0, h1⟩, h2⟩ hsz h3 h4 h5 h6 h7
    · have := from_live 5 base A s t f root es us key 12 M0 W tB kB hs hG.tr (fun h nd u a b c d => height_le a hl d) (by omega) h1 h2 h3 h4 h5 h6 h7
      rw [if_neg (by simp)]
      exact this.mono (fun X ⟨r1, e1, e2, _⟩ => ⟨_, e1, e2⟩) (fun i X ⟨r1, e1, e2, _⟩ => ⟨_, e1, e2⟩)
    · have hT : Tr (s.at_ r0) root es us := hG.tr.congr rfl rfl (fun _ _ => rfl)
      have := from_live 5 base A (s.at_ r0) t f root es us key 12 M0 W tB kB hs hT (fun h nd u a b c d => height_le a hl d) (by omega) h1 h2 h3 h4 h5 h6 h7
      rw [if_neg (by simp)]
      refine this.mono ?_ ?_
      · rintro X ⟨r1, e1, e2, _⟩
        rw [PS.at_at] at e1
        exact ⟨_, e1, e2⟩
      · rintro i X ⟨r1, e1, e2, _⟩
        rw [PS.at_at] at e1
        exact ⟨_, e1, e2⟩
  · rintro e w' ⟨ho, ⟨r1, e1, e2⟩, ⟨hh, _⟩ | ⟨_, v, ids, rfl, hi, hrow⟩⟩
    · cases hh
    · exact ⟨v, ids, rfl, hi, hrow, ho, r1, h.off (ho.mono (fun k _ hk => .inl hk)) e1 e2⟩
end
set_option maxRecDepth 100000 in
set_option maxHeartbeats 2000000 in
theorem iwin_go (w : World) (x t : Nat) (hx : IdxB w x t false) (r : Box) (hr : r.ok) (R : Ending → World → Prop)
    (hse : ∀ W, Below w.heap.size w W → Calls Tryz.prog 62 #[.pointer (some ⟨x, 0, none⟩), .agg (boxC r)] W fun e w' => ∃ (a : Option Addr) (n c : Nat) (er : Int), e = .returned (.tuple #[.slice a n c, .int .i64 er]) ∧ IdxB w' x t false ∧ R e (mindW w' x er)) :
    Calls Tryz.prog 31 #[.pointer (some ⟨x, 0, none⟩), .agg (boxC r)] w R := by
  have hb0 : Below w.heap.size w (w.alloc (.cells #[.int .i64 (r.a : Int), .int .i64 (r.b : Int), .int .i64 (r.c : Int), .int .i64 (r.d : Int)] 34)) := (Below.refl _ w).alloc (Nat.le_refl _) _
  have B0 : Blk _ w.heap.size 34 (boxC r) := Blk.new w 34 (boxC r)
  obtain ⟨W0, hW0⟩ : ∃ W0, w.alloc (.cells #[.int .i64 (r.a : Int), .int .i64 (r.b : Int), .int .i64 (r.c : Int), .int .i64 (r.d : Int)] 34) = W0 := ⟨_, rfl⟩
  rw [hW0] at hb0 B0
  have HW0 : Hid (w.alloc (.cells #[.int .i64 (r.a : Int), .int .i64 (r.b : Int), .int .i64 (r.c : Int), .int .i64 (r.d : Int)] 34) = W0) := hW0
  have hri := right_any (r.a : Int) (r.b : Int) (r.c : Int) (r.d : Int) W0
  rw [right_of_ok hr] at hri
  have hx0 : IdxB W0 x t false := (hb0.block x hx.lt).trans hx
  have c1 : W0.cell? ⟨x, 1, none⟩ = some (.bool false) := hx0.cell 1
  have q0 : W0.cell? ⟨w.heap.size, 0, none⟩ = some (.int .i64 (r.a : Int)) := B0.cell 0
  have q1 : W0.cell? ⟨w.heap.size, 1, none⟩ = some (.int .i64 (r.b : Int)) := B0.cell 1
  have q2 : W0.cell? ⟨w.heap.size, 2, none⟩ = some (.int .i64 (r.c : Int)) := B0.cell 2
  have q3 : W0.cell? ⟨w.heap.size, 3, none⟩ = some (.int .i64 (r.d : Int)) := B0.cell 3
  have B0l := B0.lt
  clear hW0 hx hx0
  go_enter Tryz.func31, Tryz.ntmps31
  go_upto_region 1 with fail
  rw [HW0.out]
  go_upto_region 5 with (go_at_call 59; refine hri.mono ?_; rintro e1 w1 ⟨rfl, hb1⟩)
  have B1 := B0.below hb1 B0l
  have hse1 := hse w1 (hb0.trans (hb1.mono hb0.size))
  have p0 : w1.cell? ⟨w.heap.size, 0, none⟩ = some (.int .i64 (r.a : Int)) := B1.cell 0
  have p1 : w1.cell? ⟨w.heap.size, 1, none⟩ = some (.int .i64 (r.b : Int)) := B1.cell 1
  have p2 : w1.cell? ⟨w.heap.size, 2, none⟩ = some (.int .i64 (r.c : Int)) := B1.cell 2
  have p3 : w1.cell? ⟨w.heap.size, 3, none⟩ = some (.int .i64 (r.d : Int)) := B1.cell 3
  clear B1 hri hse B0 q0 q1 q2 q3
  go_wp2_with (first
    | (go_at_call 62; refine hse1.mono ?_; rintro e w2 ⟨sa, sn, sc, er, rfl, hx2, hR⟩; have hmi := mind_any w2 x t false hx2 er)
    | (go_at_call 60; refine hmi.mono ?_; rintro e w4 ⟨rfl, rfl⟩))
  exact hR
end Go.Proofs.YtdgbgmffpcooeaaGreat
end
section
/- Plain facts on the look through a tree when it is opened: what it takes for a tree is one, and it takes every one. -/
namespace Go.Proofs.YtdgbgmffpcooeaaGreat
section
variable {V : Type}
/-- What is known while a tree is looked through. -/
structure SS where
  seen : Nat → Bool
  last : Key
def lastK {V : Type} (r : List (Key × V)) : Key := (r.getLast?.map (·.1)).getD (0, 0)
/-- Look through the nodes under a branch. -/
def underF (g : SS → Nat → Option (Node V × Nat × SS)) : List (Key × Nat) → Option Nat → SS → Option (Nat × SS)
  | [], ho, s => some (ho.getD 0, s)
  | c :: r, ho, s => (g s c.2).bind fun x => if x.1.poor = true ∨ x.1.fk ≠ c.1 ∨ (∃ h, ho = some h ∧ x.2.1 ≠ h) then none else underF g r (some x.2.1) x.2.2
def lookF (M : Nat → Option (Node V)) (N : Nat) : Nat → SS → Nat → Option (Node V × Nat × SS)
  | 0, _, _ => none
  | f + 1, s, sec => if N ≤ sec ∨ s.seen sec = true then none else
    match M sec with
    | none => none
    | some (.leaf r) => if klt s.last (Node.leaf r).fk then some (.leaf r, 1, ⟨upd2 s.seen sec true, lastK r⟩) else none
    | some (.branch r) => (underF (lookF M N f) r none ⟨upd2 s.seen sec true, s.last⟩).bind fun x => some (.branch r, x.1 + 1, x.2)

/-- Entries that rise behind a key. -/
structure Up (a : Key) (es : List (Key × V)) (b : Key) : Prop where
  rise : Rising es
  from_ : ∀ x ∈ es, klt a x.1
  to_ : ∀ x ∈ es, ¬ klt b x.1
  le : ¬ klt b a
theorem Up.nil (a : Key) : Up (V := V) a [] a := ⟨Rising.nil, fun _ h => (by cases h), fun _ h => (by cases h), klt_irrefl a⟩
theorem Up.append {a b c : Key} {es fs : List (Key × V)} (h : Up a es b) (k : Up b fs c) : Up a (es ++ fs) c := by
  refine ⟨Rising.append.2 ⟨h.rise, k.rise, fun x hx y hy => klt_of_le_lt (h.to_ x hx) (k.from_ y hy)⟩, fun x hx => ?_, fun x hx => ?_, fun g => ?_⟩
  · rcases List.mem_append.1 hx with hx | hx
    · exact h.from_ x hx
    · exact klt_of_le_lt h.le (k.from_ x hx)
  · rcases List.mem_append.1 hx with hx | hx
    · exact fun g => k.le (klt_of_lt_le g (h.to_ x hx))
    · exact k.to_ x hx
  · exact k.le (klt_of_lt_le g h.le)
theorem lastK_up {a : Key} {r : List (Key × V)} (hr : Rising r) (hne : r ≠ []) (h : klt a (Node.leaf r).fk) : Up a r (lastK r) := by
  have hl : ∀ x ∈ r, ¬ klt (lastK r) x.1 := fun x hx => by
    obtain ⟨i, e⟩ : ∃ i, r = i ++ [r.getLast hne] := ⟨r.dropLast, (List.dropLast_concat_getLast hne).symm⟩
    have hk : lastK r = (r.getLast hne).1 := by unfold lastK; rw [List.getLast?_eq_some_getLast hne]; rfl
    rw [hk]
    rw [e] at hr hx
    rcases List.mem_append.1 hx with hx | hx
    · exact klt_asymm ((Rising.append.1 hr).2.2 x hx _ (by simp))
    · simp only [List.mem_singleton] at hx
      rw [hx]; exact klt_irrefl _
  cases r with
  | nil => exact absurd rfl hne
  | cons y t =>
    have hy : (Node.leaf (V := V) (y :: t)).fk = y.1 := by simp [Node.fk]
    rw [hy] at h
    have hf : ∀ x ∈ y :: t, klt a x.1 := fun x hx => by
      rcases List.mem_cons.1 hx with rfl | hx
      · exact h
      · exact klt_trans h ((Rising.cons.1 hr).1 x hx)
    exact ⟨hr, hf, hl, fun g => hl y List.mem_cons_self (klt_trans g h)⟩

/-- What a look has found: a node with its entries and its sectors, none of which was seen. -/
structure Seen (M : Nat → Option (Node V)) (N : Nat) (s : SS) (sec : Nat) (n : Node V) (h : Nat) (s' : SS) (es : List (Key × V)) (us : List Nat) : Prop where
  at_ : M sec = some n
  tre : Tre M h n es us
  nd : (sec :: us).Nodup
  new : ∀ t ∈ sec :: us, s.seen t = false ∧ t < N
  seen : ∀ t, s'.seen t = (s.seen t || decide (t ∈ sec :: us))
  up : Up s.last es s'.last
  ne : es ≠ []
structure Kids (M : Nat → Option (Node V)) (N h : Nat) (s s' : SS) (ks : List (Kid V)) : Prop where
  ok : ∀ c ∈ ks, KidOk M h c
  nd : (ks.flatMap Kid.all).Nodup
  new : ∀ t ∈ ks.flatMap Kid.all, s.seen t = false ∧ t < N
  seen : ∀ t, s'.seen t = (s.seen t || decide (t ∈ ks.flatMap Kid.all))
  up : Up s.last (ks.flatMap Kid.es) s'.last
/-- The facts on nodes that stand on the disk. -/
structure Stout (M : Nat → Option (Node V)) : Prop where
  leaf : ∀ t r, M t = some (.leaf r) → 1 ≤ r.length ∧ r.length ≤ 10 ∧ Rising r
  branch : ∀ t r, M t = some (.branch r) → 2 ≤ r.length ∧ r.length ≤ 14 ∧ Rising r
theorem Stout.size {M : Nat → Option (Node V)} (h : Stout M) {t : Nat} {n : Node V} (e : M t = some n) : n.size ≤ n.most ∧ 1 ≤ n.size := by
  cases n with
  | leaf r => exact ⟨(h.leaf t r e).2.1, (h.leaf t r e).1⟩
  | branch r => exact ⟨(h.branch t r e).2.1, by have := (h.branch t r e).1; show 1 ≤ r.length; omega⟩

theorem under_sound {M : Nat → Option (Node V)} (hM : Stout M) {N f : Nat} (ih : ∀ s sec n h s', lookF M N f s sec = some (n, h, s') → ∃ k es us, h = k + 1 ∧ Seen M N s sec n k s' es us) :
    ∀ (r : List (Key × Nat)) (ho : Option Nat) (s : SS) (h : Nat) (s' : SS), underF (lookF M N f) r ho s = some (h, s') → r ≠ [] →
      ∃ (k : Nat) (ks : List (Kid V)), h = k + 1 ∧ (∀ j, ho = some j → j = h) ∧ ks.map Kid.pr = r ∧ Kids M N k s s' ks
  | [], _, _, _, _, _, hne => absurd rfl hne
  | c :: r, ho, s, h, s', e, _ => by
    unfold underF at e
    cases hl : lookF M N f s c.2 with
    | none => rw [hl] at e; simp at e
    | some x =>
      obtain ⟨n, h1, s1⟩ := x
      rw [hl] at e
      simp only [Option.bind_some] at e
      split at e
      · cases e
      · rename_i hc
        obtain ⟨hp, hk, hh⟩ : n.poor = false ∧ n.fk = c.1 ∧ ∀ j, ho = some j → h1 = j := by
          refine ⟨?_, ?_, fun j hj => ?_⟩
          · cases hq : n.poor with
            | false => rfl
            | true => exact absurd (.inl hq) hc
          · exact Classical.byContradiction fun g => hc (.inr (.inl g))
          · exact Classical.byContradiction fun g => hc (.inr (.inr ⟨j, hj, g⟩))
        obtain ⟨k, es, us, rfl, hs⟩ := ih s c.2 n h1 s1 hl
        have hsz := hM.size hs.at_
        have hkid : KidOk M k ⟨c.1, c.2, n, es, us⟩ := ⟨hs.at_, hs.tre, hp, hsz.1, by have := tre_head hs.tre (by omega); rw [this, hk]⟩
        cases r with
        | nil =>
          unfold underF at e
          cases e
          refine ⟨k, [⟨c.1, c.2, n, es, us⟩], rfl, fun j hj => (hh j hj).symm, rfl, ⟨fun q hq => ?_, ?_, ?_, ?_, ?_⟩⟩
          · rw [List.mem_singleton.1 hq]; exact hkid
          · simpa using hs.nd
          · simpa using hs.new
          · simpa using hs.seen
          · simpa using hs.up
        | cons d r =>
          obtain ⟨k2, ks, rfl, h2, h3, h4⟩ := under_sound hM ih (d :: r) (some (k + 1)) s1 h s' e (by simp)
          have hkk : k2 = k := by have := h2 (k + 1) rfl; omega
          subst hkk
          have hap : ∀ t ∈ (c.2 :: us), t ∉ ks.flatMap Kid.all := fun t ht g => by
            have g1 := (h4.new t g).1
            have g2 := hs.seen t
            rw [g1, decide_eq_true ht, Bool.or_true] at g2
            cases g2
          refine ⟨k2, ⟨c.1, c.2, n, es, us⟩ :: ks, rfl, fun j hj => (hh j hj).symm, by rw [List.map_cons, h3], ⟨fun q hq => ?_, ?_, fun t ht => ?_, fun t => ?_, ?_⟩⟩
          · rcases List.mem_cons.1 hq with rfl | hq
            · exact hkid
            · exact h4.ok q hq
          · rw [List.flatMap_cons]
            exact nodup2.2 ⟨hs.nd, h4.nd, hap⟩
          · rw [List.flatMap_cons, List.mem_append] at ht
            rcases ht with ht | ht
            · exact hs.new t ht
            · obtain ⟨g1, g2⟩ := h4.new t ht
              have g3 := hs.seen t
              rw [g1] at g3
              refine ⟨?_, g2⟩
              cases hq : s.seen t with
              | false => rfl
              | true => rw [hq] at g3; simp at g3
          · rw [h4.seen t, hs.seen t, List.flatMap_cons]
            simp only [Kid.all, List.mem_append, Bool.decide_or, Bool.or_assoc]
          · rw [List.flatMap_cons]; exact hs.up.append h4.up
/-- What a look takes for a tree is one. -/
theorem look_sound {M : Nat → Option (Node V)} (hM : Stout M) {N : Nat} : ∀ (f : Nat) (s : SS) (sec : Nat) (n : Node V) (h : Nat) (s' : SS), lookF M N f s sec = some (n, h, s') → ∃ k es us, h = k + 1 ∧ Seen M N s sec n k s' es us
  | 0, _, _, _, _, _, e => by cases e
  | f + 1, s, sec, n, h, s', e => by
    unfold lookF at e
    split at e
    · cases e
    · rename_i hc
      have hc1 : sec < N := by omega
      have hc2 : s.seen sec = false := by cases hq : s.seen sec with
        | false => rfl
        | true => exact absurd (.inr hq) hc
      cases hm : M sec with
      | none => rw [hm] at e; cases e
      | some nd =>
        rw [hm] at e
        cases nd with
        | leaf r =>
          simp only at e
          split at e
          · rename_i hk
            cases e
            obtain ⟨r1, r2, r3⟩ := hM.leaf sec r hm
            have hne : r ≠ [] := fun g => by rw [g] at r1; simp at r1
            refine ⟨0, r, [], rfl, ⟨hm, ⟨rfl, rfl⟩, by simp, fun t ht => ?_, fun t => ?_, lastK_up r3 hne hk, hne⟩⟩
            · rw [List.mem_singleton.1 ht]; exact ⟨hc2, hc1⟩
            · by_cases ht : t = sec
              · subst ht; simp [upd2]
              · simp [upd2, ht]
          · cases e
        | branch r =>
          simp only at e
          cases hu : underF (lookF M N f) r none ⟨upd2 s.seen sec true, s.last⟩ with
          | none => rw [hu] at e; simp at e
          | some x =>
            obtain ⟨h1, s1⟩ := x
            rw [hu] at e
            simp only [Option.bind_some, Option.some.injEq, Prod.mk.injEq] at e
            obtain ⟨rfl, rfl, rfl⟩ := e
            obtain ⟨r1, r2, r3⟩ := hM.branch sec r hm
            have hne : r ≠ [] := fun g => by rw [g] at r1; simp at r1
            obtain ⟨k, ks, rfl, _, h3, h4⟩ := under_sound hM (look_sound hM f) r none _ h1 s1 hu hne
            have hns : sec ∉ ks.flatMap Kid.all := fun g => by
              have := (h4.new sec g).1
              simp [upd2] at this
            refine ⟨k + 1, ks.flatMap Kid.es, ks.flatMap Kid.all, rfl, ⟨hm, tre_succ.2 ⟨ks, by rw [h3], h4.ok, rfl, rfl⟩, List.nodup_cons.2 ⟨hns, h4.nd⟩, fun t ht => ?_, fun t => ?_, h4.up, ?_⟩⟩
            · rcases List.mem_cons.1 ht with rfl | ht
              · exact ⟨hc2, hc1⟩
              · have := h4.new t ht
                have hts : t ≠ sec := fun g => hns (g ▸ ht)
                simp only [upd2, hts, if_false] at this
                exact this
            · rw [h4.seen t]
              by_cases ht : t = sec
              · subst ht; simp [upd2]
              · simp only [upd2, ht, if_false, List.mem_cons, false_or]
            · cases hks : ks with
              | nil => rw [hks] at h3; exact absurd h3.symm hne
              | cons q t =>
                obtain ⟨v, t', e⟩ := (h4.ok q (by rw [hks]; simp)).ne
                simp [e]

theorem under_full {M : Nat → Option (Node V)} {N f k : Nat} (ih : ∀ (s : SS) (sec : Nat) (n : Node V) (es : List (Key × V)) (us : List Nat) (b : Key), M sec = some n → Tre M k n es us → (sec :: us).Nodup → (∀ t ∈ sec :: us, s.seen t = false ∧ t < N) → Up s.last es b → es ≠ [] →
      ∃ s', lookF M N f s sec = some (n, k + 1, s') ∧ (∀ t, s'.seen t = (s.seen t || decide (t ∈ sec :: us))) ∧ s'.last = lastK es) :
    ∀ (ks : List (Kid V)) (ho : Option Nat) (s : SS) (b : Key), (∀ c ∈ ks, KidOk M k c) → (ks.flatMap Kid.all).Nodup → (∀ t ∈ ks.flatMap Kid.all, s.seen t = false ∧ t < N) → Up s.last (ks.flatMap Kid.es) b → (∀ j, ho = some j → j = k + 1) → ks ≠ [] →
      ∃ s', underF (lookF M N f) (ks.map Kid.pr) ho s = some (k + 1, s') ∧ (∀ t, s'.seen t = (s.seen t || decide (t ∈ ks.flatMap Kid.all))) ∧ s'.last = lastK (ks.flatMap Kid.es)
  | [], _, _, _, _, _, _, _, _, hne => absurd rfl hne
  | c :: ks, ho, s, b, hk, hnd, hnew, hup, hh, _ => by
    have hc := hk c List.mem_cons_self
    obtain ⟨v, tl, hes⟩ := hc.ne
    rw [List.flatMap_cons] at hnd hnew hup
    obtain ⟨n1, n2, n3⟩ := nodup2.1 hnd
    have hr := Rising.append.1 hup.rise
    have hup1 : Up s.last c.es (lastK c.es) := by
      have hf : (Node.leaf c.es : Node V).fk = c.key := by simp [Node.fk, hes]
      exact lastK_up hr.1 (by rw [hes]; simp) (by rw [hf]; exact hup.from_ (c.key, v) (by rw [hes]; simp))
    obtain ⟨s1, e1, e2, e3⟩ := ih s c.sec c.nd c.es c.us (lastK c.es) hc.at_ hc.tre n1 (fun t ht => hnew t (List.mem_append_left _ ht)) hup1 (by rw [hes]; simp)
    have hfk : c.nd.fk = c.key := by
      have hs : 0 < c.nd.size := by have := rich_size hc.rich; omega
      have := tre_head hc.tre hs
      rw [hes] at this
      simp at this
      exact this.symm
    have hstep : underF (lookF M N f) ((c :: ks).map Kid.pr) ho s = underF (lookF M N f) (ks.map Kid.pr) (some (k + 1)) s1 := by
      rw [List.map_cons, underF, e1]
      simp only [Option.bind_some]
      rw [if_neg]
      rintro (g | g | ⟨j, g1, g2⟩)
      · rw [hc.rich] at g; cases g
      · exact g hfk
      · exact g2 (hh j g1).symm
    rw [hstep]
    cases ks with
    | nil => exact ⟨s1, by simp [underF], by simpa using e2, by simpa using e3⟩
    | cons d ks =>
      have hup2 : Up s1.last ((d :: ks).flatMap Kid.es) b := by
        refine ⟨hr.2.1, fun x hx => ?_, fun x hx => hup.to_ x (List.mem_append_right _ hx), ?_⟩
        · rw [e3]
          have hne : c.es ≠ [] := by rw [hes]; simp
          have hl : lastK c.es = (c.es.getLast hne).1 := by unfold lastK; rw [List.getLast?_eq_some_getLast hne]; rfl
          rw [hl]
          exact hr.2.2 _ (List.getLast_mem hne) x hx
        · rw [e3]
          have hne : c.es ≠ [] := by rw [hes]; simp
          have hl : lastK c.es = (c.es.getLast hne).1 := by unfold lastK; rw [List.getLast?_eq_some_getLast hne]; rfl
          rw [hl]
          exact hup.to_ _ (List.mem_append_left _ (List.getLast_mem hne))
      obtain ⟨s2, f1, f2, f3⟩ := under_full ih (d :: ks) (some (k + 1)) s1 b (fun q hq => hk q (List.mem_cons_of_mem _ hq)) n2 (fun t ht => by
        obtain ⟨g1, g2⟩ := hnew t (List.mem_append_right _ ht)
        refine ⟨?_, g2⟩
        rw [e2 t, g1]
        have : t ∉ c.sec :: c.us := fun g => n3 t g ht
        simp only [Bool.false_or, decide_eq_false_iff_not]
        exact this) hup2 (fun j hj => (by cases hj; rfl)) (by simp)
      refine ⟨s2, f1, fun t => ?_, ?_⟩
      · rw [f2 t, e2 t, List.flatMap_cons (x := c)]
        simp only [Kid.all, List.mem_append, Bool.decide_or, Bool.or_assoc]
      · rw [f3]
        have hne : (d :: ks).flatMap Kid.es ≠ [] := by
          obtain ⟨v', t', e⟩ := (hk d (by simp)).ne
          simp [e]
        unfold lastK
        rw [List.flatMap_cons (x := c), List.getLast?_append, List.getLast?_eq_some_getLast hne]; rfl
/-- Every tree is taken for one. -/
theorem look_full {M : Nat → Option (Node V)} {N : Nat} : ∀ (k f : Nat) (s : SS) (sec : Nat) (n : Node V) (es : List (Key × V)) (us : List Nat) (b : Key), k < f → M sec = some n → Tre M k n es us → (sec :: us).Nodup → (∀ t ∈ sec :: us, s.seen t = false ∧ t < N) → Up s.last es b → es ≠ [] →
      ∃ s', lookF M N f s sec = some (n, k + 1, s') ∧ (∀ t, s'.seen t = (s.seen t || decide (t ∈ sec :: us))) ∧ s'.last = lastK es
  | _, 0, _, _, _, _, _, _, hf, _, _, _, _, _, _ => absurd hf (by omega)
  | 0, f + 1, s, sec, n, es, us, b, _, hm, ht, hnd, hnew, hup, hne => by
    obtain ⟨rfl, rfl⟩ := ht
    have h0 := hnew sec (by simp)
    unfold lookF
    rw [if_neg (by rintro (g | g); omega; rw [h0.1] at g; cases g), hm]
    simp only
    have hk : klt s.last (Node.leaf es : Node V).fk := by
      cases es with
      | nil => exact absurd rfl hne
      | cons x t => simp only [Node.fk, List.head?_cons, Option.map_some, Option.getD_some]; exact hup.from_ x (by simp)
    rw [if_pos hk]
    refine ⟨_, rfl, fun t => ?_, rfl⟩
    by_cases ht : t = sec
    · subst ht; simp [upd2]
    · simp [upd2, ht]
  | k + 1, f + 1, s, sec, n, es, us, b, hf, hm, ht, hnd, hnew, hup, hne => by
    obtain ⟨ks, rfl, hk, rfl, rfl⟩ := tre_succ.1 ht
    have h0 := hnew sec (by simp)
    obtain ⟨hns, hnd2⟩ := List.nodup_cons.1 hnd
    have hks : ks ≠ [] := fun g => by rw [g] at hne; simp at hne
    obtain ⟨s', e1, e2, e3⟩ := under_full (fun s sec n es us b h1 h2 h3 h4 h5 h6 => look_full k f s sec n es us b (by omega) h1 h2 h3 h4 h5 h6) ks none ⟨upd2 s.seen sec true, s.last⟩ b hk hnd2 (fun t ht => by
      have hts : t ≠ sec := fun g => hns (g ▸ ht)
      have := hnew t (List.mem_cons_of_mem _ ht)
      simp only [upd2, hts, if_false]
      exact this) hup (fun j hj => by cases hj) hks
    unfold lookF
    rw [if_neg (by rintro (g | g); omega; rw [h0.1] at g; cases g), hm]
    simp only
    rw [e1]
    refine ⟨s', rfl, fun t => ?_, e3⟩
    rw [e2 t]
    by_cases ht : t = sec
    · subst ht; simp [upd2]
    · simp only [upd2, ht, if_false, List.mem_cons, false_or]
end
end Go.Proofs.YtdgbgmffpcooeaaGreat
end
section
/- A tree is looked through: the nodes under a branch. -/
namespace Go.Proofs.YtdgbgmffpcooeaaGreat
open Go.RowKit Go.Lib
/-- How many sectors were not seen yet. -/
def unseen (N : Nat) (ss : SS) : Nat := (List.range N).countP fun t => !ss.seen t
theorem unseen_mono {N : Nat} {a b : SS} (h : ∀ t, a.seen t = true → b.seen t = true) : unseen N b ≤ unseen N a := by
  unfold unseen
  refine List.countP_mono_left (fun t _ hb => ?_)
  cases ha : a.seen t with
  | false => rfl
  | true => rw [h t ha] at hb; cases hb
theorem unseen_upd {N : Nat} {a : SS} {sec : Nat} {l : Key} (h : sec < N) (hs : a.seen sec = false) : unseen N ⟨upd2 a.seen sec true, l⟩ < unseen N a := by
  unfold unseen
  have key : ∀ n, sec < n → (List.range n).countP (fun t => !(upd2 a.seen sec true) t) < (List.range n).countP (fun t => !a.seen t) := by
    intro n
    induction n with
    | zero => intro h; omega
    | succ n ih =>
      intro hn
      rw [List.range_succ, List.countP_append, List.countP_append]
      by_cases e : sec = n
      · subst e
        have hm : (List.range sec).countP (fun t => !(upd2 a.seen sec true) t) ≤ (List.range sec).countP (fun t => !a.seen t) := List.countP_mono_left (fun t _ hb => by
          by_cases e : t = sec
          · simp [upd2, e] at hb
          · simpa [upd2, e] using hb)
        have e1 : [sec].countP (fun t => !(upd2 a.seen sec true) t) = 0 := by simp [upd2]
        have e2 : [sec].countP (fun t => !a.seen t) = 1 := by simp [hs]
        omega
      · have := ih (by omega)
        have e3 : [n].countP (fun t => !(upd2 a.seen sec true) t) = [n].countP (fun t => !a.seen t) := by simp [upd2, Ne.symm e]
        omega
  exact key N h
theorem stoutN (s : PS) : Stout (nodesN s) := ⟨fun t r h => by have := nodesN_stands h; exact ⟨this.1, this.2.1, this.2.2.1⟩, fun t r h => by have := nodesN_stands h; exact ⟨this.1, this.2.1, this.2.2.1⟩⟩
theorem look_unseen {s : PS} {N f : Nat} {ss ss' : SS} {sec h : Nat} {n : Node Box} (e : lookF (nodesN s) N f ss sec = some (n, h, ss')) : unseen N ss' ≤ unseen N ss := by
  obtain ⟨k, es, us, _, hs⟩ := look_sound (stoutN s) f ss sec n h ss' e
  exact unseen_mono fun t ht => by rw [hs.seen, ht]; rfl
/-- What was seen lies in a row. -/
def SeenAt (W : World) (g N : Nat) (seen : Nat → Bool) : Prop := ∃ cur : Array Value, W.heap[g]? = some (.cells cur 4 (0, 0)) ∧ cur.size = N ∧ ∀ i, i < N → cur[i]? = some (.bool (seen i))
theorem SeenAt.cell {W : World} {g N : Nat} {seen : Nat → Bool} (h : SeenAt W g N seen) {i : Nat} (hi : i < N) : W.cell? ⟨g, i, none⟩ = some (.bool (seen i)) ∧ W.frozen? ⟨g, i, none⟩ = false := by
  obtain ⟨cur, h1, h2, h3⟩ := h
  exact ⟨by simp only [World.cell?, h1]; exact h3 i hi, by simp [World.frozen?, h1]⟩
theorem SeenAt.off {F : Nat → Prop} {W W' : World} {g N : Nat} {seen : Nat → Bool} (h : SeenAt W g N seen) (ho : Off F W W') (hF : ¬ F g) : SeenAt W' g N seen := by
  obtain ⟨cur, h1, h2, h3⟩ := h
  exact ⟨cur, (ho.block g (Array.getElem?_eq_some_iff.1 h1).1 hF).trans h1, h2, h3⟩
theorem SeenAt.lt {W : World} {g N : Nat} {seen : Nat → Bool} (h : SeenAt W g N seen) : g < W.heap.size := by
  obtain ⟨cur, h1, _⟩ := h
  exact (Array.getElem?_eq_some_iff.1 h1).1
theorem SeenAt.set {W : World} {g N : Nat} {seen : Nat → Bool} (h : SeenAt W g N seen) {i : Nat} (hi : i < N) : SeenAt (W.setCell ⟨g, i, none⟩ (.bool true)) g N (upd2 seen i true) := by
  obtain ⟨cur, h1, h2, h3⟩ := h
  have hb : Blk W g 4 cur := h1
  refine ⟨cur.setIfInBounds i (.bool true), hb.set i _, by simp [h2], fun j hj => ?_⟩
  by_cases e : j = i
  · subst e; simp [upd2, h2, hj]
  · simp [upd2, e, Ne.symm e, h3 j hj]
/-- A survey: the disk, the tree, what is known. -/
structure Sv (W : World) (base : Nat) (A : PA) (s : PS) (t : Nat) (f : Value) (sb g : Nat) (ss : SS) (r : Nat) : Prop where
  pd : PD W base A (s.at_ r)
  tr : TreeB W t A f
  blk : Blk W sb 173 #[.pointer (some ⟨t, 0, none⟩), .slice (some ⟨g, 0, none⟩) s.n s.n, .int .i64 ss.last.1, .int .i64 ss.last.2]
  seen : SeenAt W g s.n ss.seen
/-- What a look may write. -/
def SvF (A : PA) (sb g : Nat) (k : Nat) : Prop := A.F k ∨ k = sb ∨ k = g
section
variable {W W' : World} {base : Nat} {A : PA} {s : PS} {t : Nat} {f : Value} {sb g : Nat} {ss : SS} {r : Nat}
theorem Sv.below (h : Sv W base A s t f sb g ss r) (hb : Below W.heap.size W W') : Sv W' base A s t f sb g ss r :=
  ⟨h.pd.below hb, (hb.block t h.tr.lt).trans h.tr, (hb.block sb h.blk.lt).trans h.blk, h.seen.off (Off.of_below (F := fun _ => False) hb) (fun h => h)⟩
theorem Sv.norow (h : Sv W base A s t f sb g ss r) : ∀ k, SvF A sb g k → ¬ RowTag W k := fun k hk hr => by
  rcases hk with hk | rfl | rfl
  · exact h.pd.norow k hk hr
  · have hb : W.heap[k]? = _ := h.blk
    rcases hr with ⟨c2, hr⟩ | ⟨c2, hr⟩ <;> rw [hb] at hr <;> simp at hr
  · obtain ⟨cur, hb, _⟩ := h.seen
    rcases hr with ⟨c2, hr⟩ | ⟨c2, hr⟩ <;> rw [hb] at hr <;> simp at hr
end
theorem nodeV_first {W : World} {v : Value} {nd : Node Box} (h : NodeV W v nd) (hs : 1 ≤ nd.size) : ∃ T x y ff, v = .iface T x ∧ (∀ w, (method 447 T x (nm "first")).run Tryz.prog w = .ok (ff, y) w) ∧ (∀ (args : Array Value) (w : World), (callFunc ff args).run Tryz.prog w = .ok (.enter ff args) w) ∧ ∀ W', NodeV W' v nd → Calls Tryz.prog ff #[y] W' fun e w' => e = .returned (keyV nd.fk) ∧ Below W'.heap.size W' w' := by
  cases nd with
  | leaf r =>
    obtain ⟨s, rfl, hr⟩ := h
    obtain ⟨a, c, rfl, _⟩ := hr.len pkR
    cases r with
    | nil => simp [Node.size] at hs
    | cons x r =>
      refine ⟨191, _, .slice a (x :: r).length c, 131, rfl, m_lfirst a _ c, fun args w => by simp, fun W' ⟨s', e, h'⟩ => ?_⟩
      cases e
      exact firstR_any W' _ (x :: r) h' x r rfl
  | branch r =>
    obtain ⟨s, rfl, hr⟩ := h
    obtain ⟨a, c, rfl, _⟩ := hr.len pkS
    cases r with
    | nil => simp [Node.size] at hs
    | cons x r =>
      refine ⟨214, _, .slice a (x :: r).length c, 266, rfl, m_bfirst a _ c, fun args w => by simp, fun W' ⟨s', e, h'⟩ => ?_⟩
      cases e
      exact firstS_any W' _ (x :: r) h' x r rfl
/-- What a look leaves. -/
def LookP (base : Nat) (A : PA) (s : PS) (t : Nat) (f : Value) (sb g : Nat) (res : Option (Node Box × Nat × SS)) (W : World) (e : Ending) (W' : World) : Prop :=
  Off (SvF A sb g) W W' ∧ match res with
  | some x => ∃ v r', e = .returned (.tuple #[v, .int .i64 (x.2.1 : Int), .int .i64 0]) ∧ NodeV W' v x.1 ∧ Stands x.1 ∧ Sv W' base A s t f sb g x.2.2 r'
  | none => e = .returned (.tuple #[.nilIface, .int .i64 0, .int .i64 7]) ∧ ∃ ss' r', Sv W' base A s t f sb g ss' r'
/-- What a look under a branch leaves. -/
def UnderP (base : Nat) (A : PA) (s : PS) (t : Nat) (f : Value) (sb g : Nat) (res : Option (Nat × SS)) (W : World) (e : Ending) (W' : World) : Prop :=
  Off (SvF A sb g) W W' ∧ match res with
  | some x => ∃ r', e = .returned (.tuple #[.int .i64 (x.1 : Int), .int .i64 0]) ∧ Sv W' base A s t f sb g x.2 r'
  | none => e = .returned (.tuple #[.int .i64 0, .int .i64 7]) ∧ ∃ ss' r', Sv W' base A s t f sb g ss' r'
end Go.Proofs.YtdgbgmffpcooeaaGreat
end
