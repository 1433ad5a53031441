/- T4 -/
import Derived.Test.YtdgbgmffpcooeaaGreatK11
section
/- Plain facts on the tree: what an edit of a node and the planting of a root leave. -/
namespace Go.Proofs.YtdgbgmffpcooeaaGreat
section
variable {V : Type}

structure OpOk (k : Key) (op : List (Key × V) → List (Key × V)) : Prop where
  loc : Local k op
  ris : ∀ r, Rising r → Rising (op r)
  up : ∀ r, Rising r → (op r).length ≤ r.length + 1
  dn : ∀ r, Rising r → r.length ≤ (op r).length + 1
theorem opOk_ins (k : Key) (v : V) : OpOk k (ins k v) := ⟨local_ins k v, fun _ h => rising_ins h, fun r h => by rw [length_ins h]; split <;> omega, fun r h => by rw [length_ins h]; split <;> omega⟩
theorem opOk_del (k : Key) : OpOk (V := V) k (del k) := ⟨local_del k, fun _ h => rising_del h, fun r h => by rw [length_del h]; split <;> omega, fun r h => by rw [length_del h]; split <;> omega⟩

theorem edit_ok {n : Nat} {U : Nat → Prop} {D : Nat → Option (Node V)} {k : Key} {op : List (Key × V) → List (Key × V)} (ho : OpOk k op) : ∀ (h : Nat) (L : Nat → Prop) (s : CS V) (sec : Nat) (nd : Node V) (es : List (Key × V)) (us : List Nat),
    Ok n U L s → cur D s sec = some nd → Tre (cur D s) h nd es us → (∀ t ∈ sec :: us, L t) → (sec :: us).Nodup → Rising es → (h = 0 ∨ 2 ≤ nd.size) →
    editF D k op (h + 1) s sec = .space ∨ ∃ (nd' : Node V) (s' : CS V) (us' : List Nat), editF D k op (h + 1) s sec = .ok (nd', s') ∧ Ok n U (fun t => (L t ∧ t ∉ sec :: us) ∨ t ∈ us') s' ∧
      Tre (cur D s') h nd' (op es) us' ∧ us'.Nodup ∧ (∀ t ∈ us', ¬ (L t ∧ t ∉ sec :: us)) ∧ (∀ t, L t ∧ t ∉ sec :: us → cur D s' t = cur D s t) ∧ nd'.size ≤ nd.size + 1 ∧ nd.size ≤ nd'.size + 1 ∧ s'.reads ≤ s.reads + 2 * (h + 1)
  | 0, L, s, sec, nd, es, us, ok, hc, tr, hL, hnd, hr, _ => by
    obtain ⟨s1, e1, ok1, o1, r1⟩ := take_ok ok (hL sec List.mem_cons_self) hc
    obtain ⟨rfl, rfl⟩ := tr
    right
    refine ⟨.leaf (op es), s1, [], ?_, ok1.congr fun t => by simp, ⟨rfl, rfl⟩, by simp, fun t ht => (by cases ht), fun t ht => o1 t (fun e => ht.2 (by rw [e]; exact List.mem_cons_self)), ho.up es hr, ho.dn es hr, by omega⟩
    simp only [editF, e1, Res.bind, if_pos hr]
  | h + 1, L, s, sec, nd, es, us, ok, hc, tr, hL, hnd, hr, h2 => by
    obtain ⟨s1, e1, ok1, o1, r1⟩ := take_ok ok (hL sec List.mem_cons_self) hc
    obtain ⟨ks, rfl, hk, rfl, rfl⟩ := tre_succ.1 tr
    obtain ⟨hsec, hnd⟩ := List.nodup_cons.1 hnd
    have hks2 : 2 ≤ ks.length := by rcases h2 with h2 | h2; · cases h2
                                    · simpa [Node.size] using h2
    have hk1 : ∀ c ∈ ks, KidOk (cur D s1) h c := fun c hc => (hk c hc).congr fun t ht => o1 t fun e => hsec (by rw [← e]; exact List.mem_flatMap.2 ⟨c, hc, ht⟩)
    have rr := kids_rising ks hk hr
    obtain ⟨A, c, B, rfl, hi, hAk, hBk⟩ := undr_split k ks hk hr (by intro e; rw [e] at hks2; simp at hks2)
    have hget : ((A ++ c :: B).map Kid.pr)[undr k ((A ++ c :: B).map Kid.pr)]? = some c.pr := by rw [← hi]; simp
    obtain ⟨r, hrow⟩ : ∃ r, (A ++ c :: B).map Kid.pr = r := ⟨_, rfl⟩
    rw [hrow] at hi hget rr
    simp only [List.flatMap_append, List.flatMap_cons] at hnd hr hsec hL
    have hcOk := hk1 c (by simp)
    have hnd3 : (A.flatMap Kid.all ++ c.all ++ B.flatMap Kid.all).Nodup := by rw [List.append_assoc]; exact hnd
    obtain ⟨d1, d2, d3, d4, d5, d6⟩ := nodup3.1 hnd3
    have hris : Rising (A.flatMap Kid.es ++ c.es ++ B.flatMap Kid.es) := by rw [List.append_assoc]; exact hr
    have hcr : Rising c.es := hris.sub ((List.sublist_append_right _ _).trans (List.sublist_append_left _ _))
    have hin : ∀ t, t ∈ A.flatMap Kid.all ++ c.all ++ B.flatMap Kid.all → L t ∧ t ≠ sec := fun t ht => by
      rw [List.append_assoc] at ht
      exact ⟨hL t (List.mem_cons_of_mem _ ht), fun e => hsec (e ▸ ht)⟩
    have hcin : ∀ t ∈ c.all, L t ∧ t ≠ sec := fun t ht => hin t (by simp only [List.mem_append]; exact .inl (.inr ht))
    have hcs : h = 0 ∨ 2 ≤ c.nd.size := by
      have := hcOk.rich
      simp only [Node.poor, decide_eq_false_iff_not] at this
      rcases c.nd.most_cases with e | e <;> omega
    have hunf : ∀ y, editF D k op (h + 1) s1 c.sec = y → editF D k op (h + 1 + 1) s sec = y.bind fun y =>
          if y.1.poor = true then
            if 0 < undr k r then
              match r[undr k r - 1]? with
              | none => .bad
              | some a => (takeF D y.2 a.2).bind fun z => if z.1.most = y.1.most then (keepL (z.1.join y.1).parts z.2).bind fun q => .ok (.branch (r.take (undr k r - 1) ++ q.1 ++ r.drop (undr k r + 1)), q.2) else .bad
            else
              match r[undr k r + 1]? with
              | none => .bad
              | some b => (takeF D y.2 b.2).bind fun z => if z.1.most = y.1.most then (keepL (y.1.join z.1).parts z.2).bind fun q => .ok (.branch (r.take (undr k r) ++ q.1 ++ r.drop (undr k r + 2)), q.2) else .bad
          else (keepL y.1.parts y.2).bind fun q => .ok (.branch (r.take (undr k r) ++ q.1 ++ r.drop (undr k r + 1)), q.2) := fun y hy => by
      rw [editF, e1, Res.ok_bind]
      simp only
      rw [hrow, if_pos rr, hget]
      simp only
      rw [hy]
      rfl
    have hop : op ((A ++ c :: B).flatMap Kid.es) = A.flatMap Kid.es ++ op c.es ++ B.flatMap Kid.es := by
      have := ho.loc (A.flatMap Kid.es) c.es (B.flatMap Kid.es) hAk hBk
      rw [← this]; simp
    rcases edit_ok ho h (fun t => L t ∧ t ≠ sec) s1 c.sec c.nd c.es c.us ok1 hcOk.at_ hcOk.tre hcin d2 hcr hcs with e2 | ⟨nd', s2, us2, e2, ok2, t2, n2, x2, o2, z1, z2, r2⟩
    · left; rw [hunf _ e2]; rfl
    · have hU := hunf _ e2
      rw [Res.ok_bind] at hU
      simp only at hU
      rw [hU]
      clear hU hunf
      have hmost : nd'.most = c.nd.most := by
        cases h with
        | zero => rw [t2.1, hcOk.tre.1]; rfl
        | succ h => obtain ⟨ka, ea, _⟩ := t2; obtain ⟨kb, eb, _⟩ := hcOk.tre; rw [ea, eb]; rfl
      have hrich := hcOk.rich
      simp only [Node.poor, decide_eq_false_iff_not] at hrich
      have hfits := hcOk.fits
      have hmc := c.nd.most_cases
      -- the rest of the tree
      have hAin : ∀ t ∈ A.flatMap Kid.all, L t ∧ t ≠ sec := fun t ht => hin t (by simp only [List.mem_append]; exact .inl (.inl ht))
      have hBin : ∀ t ∈ B.flatMap Kid.all, L t ∧ t ≠ sec := fun t ht => hin t (by simp only [List.mem_append]; exact .inr ht)
      have hA2 : ∀ d ∈ A, KidOk (cur D s2) h d := fun d hd => (hk1 d (by simp [hd])).congr fun t ht => by
        have := List.mem_flatMap.2 ⟨d, hd, ht⟩
        exact o2 t ⟨hAin t this, d4 t this⟩
      have hB2 : ∀ d ∈ B, KidOk (cur D s2) h d := fun d hd => (hk1 d (by simp [hd])).congr fun t ht => by
        have := List.mem_flatMap.2 ⟨d, hd, ht⟩
        exact o2 t ⟨hBin t this, fun g => d6 t g this⟩
      obtain ⟨Rest, hRest⟩ : ∃ Rest : Nat → Prop, Rest = fun t => L t ∧ t ∉ sec :: (A ++ c :: B).flatMap Kid.all := ⟨_, rfl⟩
      have hRi : ∀ t, Rest t ↔ L t ∧ t ≠ sec ∧ t ∉ A.flatMap Kid.all ∧ t ∉ c.all ∧ t ∉ B.flatMap Kid.all := fun t => by
        rw [hRest]
        simp only [List.flatMap_append, List.flatMap_cons, List.mem_cons, List.mem_append, not_or]
      have hRc : ∀ t, Rest t → cur D s2 t = cur D s t := fun t ht => by
        have g := (hRi t).1 ht
        exact (o2 t ⟨⟨g.1, g.2.1⟩, g.2.2.2.1⟩).trans (o1 t g.2.1)
      have hL2 : ∀ t, ((L t ∧ t ≠ sec) ∧ t ∉ c.all ∨ t ∈ us2) ↔ Rest t ∨ t ∈ A.flatMap Kid.all ++ us2 ++ B.flatMap Kid.all := fun t => by
        rw [hRi t]
        simp only [List.mem_append]
        constructor
        · rintro (⟨⟨a1, a2⟩, a3⟩ | a)
          · by_cases gA : t ∈ A.flatMap Kid.all
            · exact .inr (.inl (.inl gA))
            · by_cases gB : t ∈ B.flatMap Kid.all
              · exact .inr (.inr gB)
              · exact .inl ⟨a1, a2, gA, a3, gB⟩
          · exact .inr (.inl (.inr a))
        · rintro (⟨a1, a2, a3, a4, a5⟩ | (a | a) | a)
          · exact .inl ⟨⟨a1, a2⟩, a4⟩
          · exact .inl ⟨hAin t a, d4 t a⟩
          · exact .inr a
          · exact .inl ⟨hBin t a, fun g => d6 t g a⟩
      have hx2 : ∀ t ∈ us2, t ∉ A.flatMap Kid.all ∧ t ∉ B.flatMap Kid.all ∧ ¬ Rest t := fun t ht => by
        have g := x2 t ht
        refine ⟨fun a => g ⟨hAin t a, d4 t a⟩, fun a => g ⟨hBin t a, fun q => d6 t q a⟩, fun a => ?_⟩
        have q := (hRi t).1 a
        exact g ⟨⟨q.1, q.2.1⟩, q.2.2.2.1⟩
      have hRA : ∀ t ∈ A.flatMap Kid.all, ¬ Rest t := fun t ht g => ((hRi t).1 g).2.2.1 ht
      have hRB : ∀ t ∈ B.flatMap Kid.all, ¬ Rest t := fun t ht g => ((hRi t).1 g).2.2.2.2 ht
      have hlen : (A ++ c :: B).length = A.length + 1 + B.length := by simp; omega
      by_cases hp : nd'.poor = true
      · rw [if_pos hp]
        simp only [Node.poor, decide_eq_true_eq] at hp
        by_cases h0 : 0 < undr k r
        · rw [if_pos h0]
          -- with the node ahead
          obtain ⟨A0, a, rfl⟩ : ∃ A0 a, A = A0 ++ [a] := by
            rcases List.eq_nil_or_concat A with e | ⟨A0, a, e⟩
            · rw [e] at hi; simp at hi; omega
            · exact ⟨A0, a, by simpa using e⟩
          have hi1 : undr k r - 1 = A0.length := by rw [← hi]; simp
          have hi2 : undr k r + 1 = A0.length + 2 := by rw [← hi]; simp
          have hg2 : r[undr k r - 1]? = some a.pr := by rw [hi1, ← hrow]; simp
          rw [hg2]
          simp only
          have ht1 : r.take (undr k r - 1) = A0.map Kid.pr := by rw [hi1, ← hrow]; simp
          have ht2 : r.drop (undr k r + 1) = B.map Kid.pr := by
            rw [hi2, ← hrow, show (A0 ++ [a] ++ c :: B).map Kid.pr = (A0.map Kid.pr ++ [a.pr, c.pr]) ++ B.map Kid.pr by simp]
            exact List.drop_left' (by simp)
          rw [ht1, ht2]
          have haOk := hA2 a (by simp)
          have haL : (L a.sec ∧ a.sec ≠ sec) ∧ a.sec ∉ c.all ∨ a.sec ∈ us2 := (hL2 a.sec).2 (.inr (by simp))
          obtain ⟨s3, e3, ok3, o3, r3⟩ := take_ok ok2 haL haOk.at_
          rw [e3, Res.ok_bind]
          simp only
          rw [if_pos (tre_most haOk.tre t2)]
          simp only [List.flatMap_append, List.flatMap_cons, List.flatMap_nil, List.append_nil] at d1 d4 d5 hx2 hRA hL2 hAin
          obtain ⟨f1, f2, f3⟩ := nodup2.1 d1
          obtain ⟨g1, g2⟩ := List.nodup_cons.1 f2
          have hne : ∀ d ∈ A0 ++ B, ∀ t ∈ d.all, t ≠ a.sec := fun d hd t ht e => by
            rcases List.mem_append.1 hd with hd | hd
            · exact f3 t (List.mem_flatMap.2 ⟨d, hd, ht⟩) (by rw [e]; exact List.mem_cons_self)
            · exact d5 t (by rw [e]; exact List.mem_append_right _ List.mem_cons_self) (List.mem_flatMap.2 ⟨d, hd, ht⟩)
          have husA : ∀ t ∈ us2, t ≠ a.sec := fun t ht e => (hx2 t ht).1 (by rw [e]; exact List.mem_append_right _ List.mem_cons_self)
          obtain ⟨tj, sj, mj⟩ := tre_join (tre_congr h haOk.tre fun t ht => o3 t fun e => g1 (e ▸ ht)) (tre_congr h t2 fun t ht => o3 t (husA t ht))
          have ham := tre_most haOk.tre t2
          have harich := haOk.rich
          simp only [Node.poor, decide_eq_false_iff_not] at harich
          have hafits := haOk.fits
          have hL3 : ∀ t, (((L t ∧ t ≠ sec) ∧ t ∉ c.all ∨ t ∈ us2) ∧ t ≠ a.sec) ↔ Rest t ∨ t ∈ A0.flatMap Kid.all ++ (a.us ++ us2) ++ B.flatMap Kid.all := fun t => by
            rw [hL2 t]
            simp only [List.mem_append, List.mem_cons]
            by_cases e : t = a.sec
            · subst e
              have hA0 : a.sec ∉ A0.flatMap Kid.all := fun g => f3 _ g List.mem_cons_self
              have hB0 : a.sec ∉ B.flatMap Kid.all := fun g => d5 _ (List.mem_append_right _ List.mem_cons_self) g
              have hu0 : a.sec ∉ us2 := fun g => husA _ g rfl
              have hr0 : ¬ Rest a.sec := hRA _ (List.mem_append_right _ List.mem_cons_self)
              simp [hA0, hB0, hu0, hr0, g1]
            · simp only [e, false_or, ne_eq, not_false_eq_true, and_true]
              constructor
              · rintro (a1 | ((a1 | a1) | a1) | a1)
                · exact .inl a1
                · exact .inr (.inl (.inl a1))
                · exact .inr (.inl (.inr (.inl a1)))
                · exact .inr (.inl (.inr (.inr a1)))
                · exact .inr (.inr a1)
              · rintro (a1 | (a1 | a1 | a1) | a1)
                · exact .inl a1
                · exact .inr (.inl (.inl (.inl a1)))
                · exact .inr (.inl (.inl (.inr a1)))
                · exact .inr (.inl (.inr a1))
                · exact .inr (.inr a1)
          have hN3 : (A0.flatMap Kid.all ++ (a.us ++ us2) ++ B.flatMap Kid.all).Nodup := by
            refine nodup3.2 ⟨f1, nodup2.2 ⟨g2, n2, fun t ht g => (hx2 t g).1 (List.mem_append_right _ (List.mem_cons_of_mem _ ht))⟩, d3, fun t ht g => ?_, fun t ht => d5 t (List.mem_append_left _ ht), fun t ht g => ?_⟩
            · rcases List.mem_append.1 g with g | g
              · exact f3 t ht (List.mem_cons_of_mem _ g)
              · exact (hx2 t g).1 (List.mem_append_left _ ht)
            · rcases List.mem_append.1 ht with ht | ht
              · exact d5 t (List.mem_append_right _ (List.mem_cons_of_mem _ ht)) g
              · exact (hx2 t ht).2.1 g
          have hR3 : ∀ t ∈ A0.flatMap Kid.all ++ (a.us ++ us2) ++ B.flatMap Kid.all, ¬ Rest t := by
            intro t ht
            simp only [List.mem_append] at ht
            rcases ht with (ht | ht | ht) | ht
            · exact hRA t (List.mem_append_left _ ht)
            · exact hRA t (List.mem_append_right _ (List.mem_cons_of_mem _ ht))
            · exact (hx2 t ht).2.2
            · exact hRB t ht
          rcases finish (Rest := Rest) (D := D) (s := s3) (h := h) (A := A0) (B := B) ok3 (um := a.us ++ us2) hL3 hN3 hR3 (fun d hd => (hA2 d (by simp [hd])).congr fun t ht => o3 t (hne d (by simp [hd]) t ht)) (fun d hd => (hB2 d hd).congr fun t ht => o3 t (hne d (by simp [hd]) t ht)) tj (by omega) (by omega) with e4 | ⟨q, s4, us4, e4, l4, t4, ok4, n4, x4, o4, r4⟩
          · left; rw [e4]; rfl
          · right
            rw [e4, Res.ok_bind]
            have l5 : 1 ≤ q.length ∧ q.length ≤ 2 := by rw [l4]; split <;> omega
            refine ⟨_, s4, us4, rfl, ?_, ?_, n4, ?_, ?_, ?_, ?_, by omega⟩
            · rw [hRest] at ok4; exact ok4
            · rw [hop]
              have : (A0 ++ [a]).flatMap Kid.es ++ op c.es ++ B.flatMap Kid.es = A0.flatMap Kid.es ++ (a.es ++ op c.es) ++ B.flatMap Kid.es := by simp
              rw [this]; exact t4
            · rw [hRest] at x4; exact x4
            · intro t ht
              have ht' : Rest t := by rw [hRest]; exact ht
              have : t ≠ a.sec := fun e => hRA t (by rw [e]; exact List.mem_append_right _ List.mem_cons_self) ht'
              exact (o4 t ht').trans ((o3 t this).trans (hRc t ht'))
            · simp only [Node.size, List.length_append, List.length_map, List.length_cons, List.length_nil]; omega
            · simp only [Node.size, List.length_append, List.length_map, List.length_cons, List.length_nil]; omega
        · rw [if_neg h0]
          -- with the node behind
          have hA0 : A = [] := by rcases A with _ | ⟨x, A⟩; · rfl
                                  · simp at hi; omega
          subst hA0
          obtain ⟨b, B0, rfl⟩ : ∃ b B0, B = b :: B0 := by
            rcases B with _ | ⟨b, B0⟩
            · simp at hks2
            · exact ⟨b, B0, rfl⟩
          have hi1 : undr k r = 0 := by rw [← hi]; rfl
          have hg2 : r[undr k r + 1]? = some b.pr := by rw [hi1, ← hrow]; simp
          rw [hg2]
          simp only
          have ht1 : r.take (undr k r) = [] := by rw [hi1]; simp
          have ht2 : r.drop (undr k r + 2) = B0.map Kid.pr := by rw [hi1, ← hrow]; simp
          rw [ht1, ht2]
          have hbOk := hB2 b (by simp)
          have hbL : (L b.sec ∧ b.sec ≠ sec) ∧ b.sec ∉ c.all ∨ b.sec ∈ us2 := (hL2 b.sec).2 (.inr (by simp))
          obtain ⟨s3, e3, ok3, o3, r3⟩ := take_ok ok2 hbL hbOk.at_
          rw [e3, Res.ok_bind]
          simp only
          rw [if_pos (tre_most hbOk.tre t2)]
          simp only [List.flatMap_cons, List.flatMap_nil, List.nil_append] at d3 d6 hx2 hRB hL2 hBin
          obtain ⟨f1, f2, f3⟩ := nodup2.1 d3
          obtain ⟨g1, g2⟩ := List.nodup_cons.1 f1
          have hne : ∀ d ∈ B0, ∀ t ∈ d.all, t ≠ b.sec := fun d hd t ht e => f3 t (by rw [e]; exact List.mem_cons_self) (List.mem_flatMap.2 ⟨d, hd, ht⟩)
          have husB : ∀ t ∈ us2, t ≠ b.sec := fun t ht e => (hx2 t ht).2.1 (by rw [e]; exact List.mem_append_left _ List.mem_cons_self)
          obtain ⟨tj, sj, mj⟩ := tre_join (tre_congr h t2 fun t ht => o3 t (husB t ht)) (tre_congr h hbOk.tre fun t ht => o3 t fun e => g1 (e ▸ ht))
          have ham := tre_most hbOk.tre t2
          have hbrich := hbOk.rich
          simp only [Node.poor, decide_eq_false_iff_not] at hbrich
          have hbfits := hbOk.fits
          have hL3 : ∀ t, (((L t ∧ t ≠ sec) ∧ t ∉ c.all ∨ t ∈ us2) ∧ t ≠ b.sec) ↔ Rest t ∨ t ∈ ([] : List (Kid V)).flatMap Kid.all ++ (us2 ++ b.us) ++ B0.flatMap Kid.all := fun t => by
            rw [hL2 t]
            simp only [List.mem_append, List.mem_cons, List.flatMap_nil, List.not_mem_nil, false_or]
            by_cases e : t = b.sec
            · subst e
              have hB0 : b.sec ∉ B0.flatMap Kid.all := fun g => f3 _ List.mem_cons_self g
              have hu0 : b.sec ∉ us2 := fun g => husB _ g rfl
              have hr0 : ¬ Rest b.sec := hRB _ (List.mem_append_left _ List.mem_cons_self)
              simp [hB0, hu0, hr0, g1]
            · simp only [e, false_or, ne_eq, not_false_eq_true, and_true]
              constructor
              · rintro (a1 | a1 | a1 | a1)
                · exact .inl a1
                · exact .inr (.inl (.inl a1))
                · exact .inr (.inl (.inr a1))
                · exact .inr (.inr a1)
              · rintro (a1 | (a1 | a1) | a1)
                · exact .inl a1
                · exact .inr (.inl a1)
                · exact .inr (.inr (.inl a1))
                · exact .inr (.inr (.inr a1))
          have hN3 : (([] : List (Kid V)).flatMap Kid.all ++ (us2 ++ b.us) ++ B0.flatMap Kid.all).Nodup := by
            simp only [List.flatMap_nil]
            refine nodup3.2 ⟨List.nodup_nil, nodup2.2 ⟨n2, g2, fun t ht g => (hx2 t ht).2.1 (List.mem_append_left _ (List.mem_cons_of_mem _ g))⟩, f2, fun t ht => (by cases ht), fun t ht => (by cases ht), fun t ht g => ?_⟩
            rcases List.mem_append.1 ht with ht | ht
            · exact (hx2 t ht).2.1 (List.mem_append_right _ g)
            · exact f3 t (List.mem_cons_of_mem _ ht) g
          have hR3 : ∀ t ∈ ([] : List (Kid V)).flatMap Kid.all ++ (us2 ++ b.us) ++ B0.flatMap Kid.all, ¬ Rest t := by
            intro t ht
            simp only [List.flatMap_nil, List.nil_append, List.mem_append] at ht
            rcases ht with (ht | ht) | ht
            · exact (hx2 t ht).2.2
            · exact hRB t (List.mem_append_left _ (List.mem_cons_of_mem _ ht))
            · exact hRB t (List.mem_append_right _ ht)
          rcases finish (Rest := Rest) (D := D) (s := s3) (h := h) (A := []) (B := B0) ok3 (um := us2 ++ b.us) hL3 hN3 hR3 (fun d hd => by cases hd) (fun d hd => (hB2 d (by simp [hd])).congr fun t ht => o3 t (hne d hd t ht)) tj (by omega) (by omega) with e4 | ⟨q, s4, us4, e4, l4, t4, ok4, n4, x4, o4, r4⟩
          · left; rw [e4]; rfl
          · right
            rw [e4, Res.ok_bind]
            have l5 : 1 ≤ q.length ∧ q.length ≤ 2 := by rw [l4]; split <;> omega
            refine ⟨_, s4, us4, rfl, ?_, ?_, n4, ?_, ?_, ?_, ?_, by omega⟩
            · rw [hRest] at ok4; exact ok4
            · rw [hop]
              have : [].flatMap Kid.es ++ op c.es ++ (b :: B0).flatMap Kid.es = [].flatMap Kid.es ++ (op c.es ++ b.es) ++ B0.flatMap Kid.es := by simp
              rw [this]; exact t4
            · rw [hRest] at x4; exact x4
            · intro t ht
              have ht' : Rest t := by rw [hRest]; exact ht
              have : t ≠ b.sec := fun e => hRB t (by rw [e]; exact List.mem_append_left _ List.mem_cons_self) ht'
              exact (o4 t ht').trans ((o3 t this).trans (hRc t ht'))
            · simp only [Node.size, List.length_append, List.length_map, List.length_cons, List.length_nil]; omega
            · simp only [Node.size, List.length_append, List.length_map, List.length_cons, List.length_nil]; omega
      · rw [if_neg hp]
        simp only [Node.poor, decide_eq_true_eq] at hp
        have hi2 : undr k r + 1 = A.length + 1 := by rw [← hi]
        have ht1 : r.take (undr k r) = A.map Kid.pr := by rw [← hi, ← hrow]; simp
        have ht2 : r.drop (undr k r + 1) = B.map Kid.pr := by
          rw [hi2, ← hrow, show (A ++ c :: B).map Kid.pr = (A.map Kid.pr ++ [c.pr]) ++ B.map Kid.pr by simp]
          exact List.drop_left' (by simp)
        rw [ht1, ht2]
        have hN3 : (A.flatMap Kid.all ++ us2 ++ B.flatMap Kid.all).Nodup := by
          exact nodup3.2 ⟨d1, n2, d3, fun t ht g => (hx2 t g).1 ht, d5, fun t ht => (hx2 t ht).2.1⟩
        have hR3 : ∀ t ∈ A.flatMap Kid.all ++ us2 ++ B.flatMap Kid.all, ¬ Rest t := by
          intro t ht
          simp only [List.mem_append] at ht
          rcases ht with (ht | ht) | ht
          · exact hRA t ht
          · exact (hx2 t ht).2.2
          · exact hRB t ht
        rcases finish (Rest := Rest) (D := D) (s := s2) (h := h) (A := A) (B := B) ok2 (um := us2) hL2 hN3 hR3 hA2 hB2 t2 (by omega) (by omega) with e4 | ⟨q, s4, us4, e4, l4, t4, ok4, n4, x4, o4, r4⟩
        · left; rw [e4]; rfl
        · right
          rw [e4, Res.ok_bind]
          have l5 : 1 ≤ q.length ∧ q.length ≤ 2 := by rw [l4]; split <;> omega
          refine ⟨_, s4, us4, rfl, ?_, ?_, n4, ?_, ?_, ?_, ?_, by omega⟩
          · rw [hRest] at ok4; exact ok4
          · rw [hop]; exact t4
          · rw [hRest] at x4; exact x4
          · intro t ht
            have ht' : Rest t := by rw [hRest]; exact ht
            exact (o4 t ht').trans (hRc t ht')
          · simp only [Node.size, List.length_append, List.length_map, List.length_cons]; omega
          · simp only [Node.size, List.length_append, List.length_map, List.length_cons]; omega
end
end Go.Proofs.YtdgbgmffpcooeaaGreat
end
