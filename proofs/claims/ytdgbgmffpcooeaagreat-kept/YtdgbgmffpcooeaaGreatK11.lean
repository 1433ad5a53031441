/- T3 -/
import Derived.Test.YtdgbgmffpcooeaaGreatK10
section
/- Plain facts on the tree: an entry is put in or taken out, and the tree stays one. -/
namespace Go.Proofs.YtdgbgmffpcooeaaGreat
section
variable {V : Type}

theorem nodup3 {a b c : List Nat} : (a ++ b ++ c).Nodup ↔ a.Nodup ∧ b.Nodup ∧ c.Nodup ∧ (∀ t ∈ a, t ∉ b) ∧ (∀ t ∈ a, t ∉ c) ∧ (∀ t ∈ b, t ∉ c) := by
  rw [List.nodup_append, List.nodup_append]
  constructor
  · rintro ⟨⟨h1, h2, h3⟩, h4, h5⟩
    exact ⟨h1, h2, h4, fun t ht hb => h3 t ht t hb rfl, fun t ht hc => h5 t (List.mem_append_left _ ht) t hc rfl, fun t ht hc => h5 t (List.mem_append_right _ ht) t hc rfl⟩
  · rintro ⟨h1, h2, h3, h4, h5, h6⟩
    refine ⟨⟨h1, h2, fun x hx y hy e => h4 x hx (e ▸ hy)⟩, h3, fun x hx y hy e => ?_⟩
    subst e
    rcases List.mem_append.1 hx with hx | hx
    · exact h5 x hx hy
    · exact h6 x hx hy
theorem nodup2 {a b : List Nat} : (a ++ b).Nodup ↔ a.Nodup ∧ b.Nodup ∧ (∀ t ∈ a, t ∉ b) := by
  rw [List.nodup_append]
  constructor
  · rintro ⟨h1, h2, h3⟩
    exact ⟨h1, h2, fun t ht hb => h3 t ht t hb rfl⟩
  · rintro ⟨h1, h2, h3⟩
    exact ⟨h1, h2, fun x hx y hy e => h3 x hx (e ▸ hy)⟩

theorem keepL_ok {n : Nat} {U : Nat → Prop} (D : Nat → Option (Node V)) {ht : Nat} : ∀ (qs : List (Kid V)) (L : Nat → Prop) (s : CS V), Ok n U L s →
    (∀ q ∈ qs, Tre (cur D s) ht q.nd q.es q.us ∧ q.nd.poor = false ∧ q.nd.size ≤ q.nd.most ∧ ∀ t ∈ q.us, L t) → (qs.flatMap Kid.us).Nodup →
    keepL (qs.map Kid.nd) s = .space ∨ ∃ (ks : List (Kid V)) (s' : CS V), keepL (qs.map Kid.nd) s = .ok (ks.map Kid.pr, s') ∧ ks.length = qs.length ∧ (∀ c ∈ ks, KidOk (cur D s') ht c) ∧ ks.flatMap Kid.es = qs.flatMap Kid.es ∧
      Ok n U (fun t => L t ∨ t ∈ ks.flatMap Kid.all) s' ∧ (ks.flatMap Kid.all).Nodup ∧ (∀ t ∈ ks.flatMap Kid.all, L t → t ∈ qs.flatMap Kid.us) ∧ (∀ t ∈ qs.flatMap Kid.us, t ∈ ks.flatMap Kid.all) ∧ (∀ t, L t → cur D s' t = cur D s t) ∧ s'.reads = s.reads
  | [], L, s, h, _, _ => .inr ⟨[], s, rfl, rfl, fun c hc => (by cases hc), rfl, h.congr fun t => by simp, by simp, fun t ht => (by simp at ht), fun t ht => (by simp at ht), fun _ _ => rfl, rfl⟩
  | q :: qs, L, s, h, hq, hn => by
    simp only [List.map_cons, keepL]
    rcases keep1_ok D h q.nd with e | ⟨sec, s1, e, hL, h1, hc1, ho1, hr1⟩
    · left; rw [e]; rfl
    · rw [e]
      simp only [Res.bind]
      simp only [List.flatMap_cons] at hn
      obtain ⟨n1, n2, n3⟩ := nodup2.1 hn
      obtain ⟨q1, q2, q3, q4⟩ := hq q List.mem_cons_self
      have hqs : ∀ t ∈ qs.flatMap Kid.us, L t := fun t ht => by
        obtain ⟨p, hp, ht⟩ := List.mem_flatMap.1 ht
        exact (hq p (List.mem_cons_of_mem _ hp)).2.2.2 t ht
      have hne : ∀ t, L t → t ≠ sec := fun t ht e => hL (e ▸ ht)
      rcases keepL_ok D qs (fun t => L t ∨ t = sec) s1 h1 (fun p hp => by
        obtain ⟨p1, p2, p3, p4⟩ := hq p (List.mem_cons_of_mem _ hp)
        exact ⟨tre_congr ht p1 fun t ht => ho1 t (hne t (p4 t ht)), p2, p3, fun t ht => .inl (p4 t ht)⟩) n2 with e2 | ⟨ks, s', e2, k0, k1, k2, k3, k4, k5, k8, k6, k7⟩
      · left; rw [e2]
      · right
        rw [e2]
        have hsize : 0 < q.nd.size := by
          have := q2
          simp only [Node.poor, decide_eq_false_iff_not] at this
          rcases q.nd.most_cases with e | e <;> omega
        refine ⟨⟨q.nd.fk, sec, q.nd, q.es, q.us⟩ :: ks, s', rfl, by simp [k0], fun c hc => ?_, by simp [k2], k3.congr fun t => ?_, ?_, fun t ht hLt => ?_, fun t ht => ?_, fun t ht => (k6 t (.inl ht)).trans (ho1 t (hne t ht)), by rw [k7, hr1]⟩
        · rcases List.mem_cons.1 hc with rfl | hc
          · exact ⟨(k6 sec (.inr rfl)).trans hc1, tre_congr ht q1 fun t ht => (k6 t (.inl (q4 t ht))).trans (ho1 t (hne t (q4 t ht))), q2, q3, tre_head q1 hsize⟩
          · exact k1 c hc
        · simp only [List.flatMap_cons, List.mem_append, List.mem_cons]
          constructor
          · rintro ((a | a) | a)
            · exact .inl a
            · exact .inr (.inl (.inl a))
            · exact .inr (.inr a)
          · rintro (a | (a | a) | a)
            · exact .inl (.inl a)
            · exact .inl (.inr a)
            · exact .inl (.inl (q4 t a))
            · exact .inr a
        · simp only [List.flatMap_cons]
          refine nodup2.2 ⟨List.nodup_cons.2 ⟨fun hm => hL (q4 _ hm), n1⟩, k4, fun t ht hm => ?_⟩
          rcases List.mem_cons.1 ht with rfl | ht
          · exact hL (hqs _ (k5 _ hm (.inr rfl)))
          · exact n3 t ht (k5 t hm (.inl (q4 t ht)))
        · simp only [List.flatMap_cons, List.mem_append, List.mem_cons] at ht ⊢
          rcases ht with (rfl | ht) | ht
          · exact absurd hLt hL
          · exact .inl ht
          · exact .inr (k5 t ht (.inl hLt))
        · simp only [List.flatMap_cons, List.mem_append, List.mem_cons] at ht ⊢
          rcases ht with ht | ht
          · exact .inl (.inr ht)
          · exact .inr (k8 t ht)

theorem keep_ok {n : Nat} {U L : Nat → Prop} (D : Nat → Option (Node V)) {s : CS V} (h : Ok n U L s) {ht : Nat} {nd : Node V} {e : List (Key × V)} {u : List Nat} (tr : Tre (cur D s) ht nd e u) (hu : ∀ t ∈ u, L t) (hn : u.Nodup) (h1 : nd.most / 2 ≤ nd.size) (h2 : nd.size ≤ 2 * nd.most) :
    keepL nd.parts s = .space ∨ ∃ (ks : List (Kid V)) (s' : CS V), keepL nd.parts s = .ok (ks.map Kid.pr, s') ∧ ks.length = (if nd.size ≤ nd.most then 1 else 2) ∧ (∀ c ∈ ks, KidOk (cur D s') ht c) ∧ ks.flatMap Kid.es = e ∧
      Ok n U (fun t => L t ∨ t ∈ ks.flatMap Kid.all) s' ∧ (ks.flatMap Kid.all).Nodup ∧ (∀ t ∈ ks.flatMap Kid.all, L t → t ∈ u) ∧ (∀ t ∈ u, t ∈ ks.flatMap Kid.all) ∧ (∀ t, L t → cur D s' t = cur D s t) ∧ s'.reads = s.reads := by
  have h0 : nd.size ≠ 0 := by rcases nd.most_cases with e | e <;> omega
  by_cases hf : nd.size ≤ nd.most
  · have hp : nd.parts = [(⟨(0, 0), 0, nd, e, u⟩ : Kid V)].map Kid.nd := by simp [Node.parts, h0, hf]
    rw [hp, if_pos hf]
    rcases keepL_ok D [(⟨(0, 0), 0, nd, e, u⟩ : Kid V)] L s h (fun q hq => by
      rw [List.mem_singleton] at hq
      subst hq
      exact ⟨tr, by simp [Node.poor]; omega, hf, hu⟩) (by simpa using hn) with g | ⟨ks, s', g1, g2, g3, g4, g5, g6, g7, g8, g9, g10⟩
    · exact .inl g
    · exact .inr ⟨ks, s', g1, g2, g3, by simpa using g4, g5, g6, by simpa using g7, by simpa using g8, g9, g10⟩
  · obtain ⟨e1, e2, u1, u2, rfl, rfl, t1, t2⟩ := tre_cut tr (nd.size / 2)
    have hp : nd.parts = [(⟨(0, 0), 0, nd.tk (nd.size / 2), e1, u1⟩ : Kid V), ⟨(0, 0), 0, nd.dp (nd.size / 2), e2, u2⟩].map Kid.nd := by simp [Node.parts, h0, hf]
    rw [hp, if_neg hf]
    have hmin : min (nd.size / 2) nd.size = nd.size / 2 := by omega
    rcases keepL_ok D [(⟨(0, 0), 0, nd.tk (nd.size / 2), e1, u1⟩ : Kid V), ⟨(0, 0), 0, nd.dp (nd.size / 2), e2, u2⟩] L s h (fun q hq => by
      simp only [List.mem_cons, List.not_mem_nil, or_false] at hq
      rcases hq with rfl | rfl
      · refine ⟨t1, ?_, ?_, fun t ht => hu t (List.mem_append_left _ ht)⟩
        · simp only [Node.poor, Node.most_tk, Node.size_tk, hmin, decide_eq_false_iff_not]
          rcases nd.most_cases with e | e <;> omega
        · simp only [Node.most_tk, Node.size_tk, hmin]
          omega
      · refine ⟨t2, ?_, ?_, fun t ht => hu t (List.mem_append_right _ ht)⟩
        · simp only [Node.poor, Node.most_dp, Node.size_dp, decide_eq_false_iff_not]
          rcases nd.most_cases with e | e <;> omega
        · simp only [Node.most_dp, Node.size_dp]
          rcases nd.most_cases with e | e <;> omega) (by simpa using hn) with g | ⟨ks, s', g1, g2, g3, g4, g5, g6, g7, g8, g9, g10⟩
    · exact .inl g
    · exact .inr ⟨ks, s', g1, g2, g3, by simpa using g4, g5, g6, by simpa using g7, by simpa using g8, g9, g10⟩

theorem kids_rising {M : Nat → Option (Node V)} {h : Nat} : ∀ (ks : List (Kid V)), (∀ c ∈ ks, KidOk M h c) → Rising (ks.flatMap Kid.es) → Rising (ks.map Kid.pr)
  | [], _, _ => Rising.nil
  | c :: ks, hk, hr => by
    rw [List.flatMap_cons] at hr
    obtain ⟨r1, r2, r3⟩ := Rising.append.1 hr
    rw [List.map_cons]
    refine Rising.cons.2 ⟨fun y hy => ?_, kids_rising ks (fun c hc => hk c (List.mem_cons_of_mem _ hc)) r2⟩
    obtain ⟨d, hd, rfl⟩ := List.mem_map.1 hy
    obtain ⟨v, t, e⟩ := (hk c List.mem_cons_self).ne
    obtain ⟨v', t', e'⟩ := (hk d (List.mem_cons_of_mem _ hd)).ne
    exact r3 (c.key, v) (by rw [e]; exact List.mem_cons_self) (d.key, v') (List.mem_flatMap.2 ⟨d, hd, by rw [e']; exact List.mem_cons_self⟩)
theorem undr_lt {k : Key} {r : List (Key × Nat)} (hr : Rising r) (hne : r ≠ []) : undr k r < r.length := by
  unfold undr
  have := lbn_le k r
  have hl : 0 < r.length := List.length_pos_iff.2 hne
  split
  · rename_i f
    obtain ⟨v, e⟩ := lbn_found hr f
    exact (List.getElem?_eq_some_iff.1 e).1
  · omega
theorem undr_split {M : Nat → Option (Node V)} {h : Nat} (k : Key) (ks : List (Kid V)) (hk : ∀ c ∈ ks, KidOk M h c) (hr : Rising (ks.flatMap Kid.es)) (hne : ks ≠ []) :
    ∃ A c B, ks = A ++ c :: B ∧ A.length = undr k (ks.map Kid.pr) ∧ (∀ x ∈ A.flatMap Kid.es, klt x.1 k) ∧ (∀ x ∈ B.flatMap Kid.es, klt k x.1) := by
  have rr := kids_rising ks hk hr
  have hlt := undr_lt (k := k) rr (by simpa using hne)
  rw [List.length_map] at hlt
  obtain ⟨i, hidx⟩ : ∃ i, undr k (ks.map Kid.pr) = i := ⟨_, rfl⟩
  rw [hidx] at hlt ⊢
  have hsp : ks = ks.take i ++ ks[i] :: ks.drop (i + 1) := by rw [List.getElem_cons_drop, List.take_append_drop]
  refine ⟨ks.take i, ks[i], ks.drop (i + 1), hsp, by simp; omega, fun x hx => ?_, fun x hx => ?_⟩
  · -- what stands ahead: this node's least key is no more than the key
    have hi0 : 0 < i := by
      rcases Nat.eq_zero_or_pos i with e | e
      · rw [e] at hx; simp at hx
      · exact e
    have hle : ¬ klt k (ks[i]).key := by
      unfold undr at hidx
      split at hidx
      · rename_i f
        obtain ⟨v, e⟩ := lbn_found rr f
        rw [hidx, List.getElem?_map, List.getElem?_eq_getElem hlt] at e
        simp only [Option.map_some, Option.some.injEq, Prod.mk.injEq] at e
        rw [e.1]; exact klt_irrefl k
      · have hm : (ks[i]).pr ∈ lo k (ks.map Kid.pr) := by
          rw [← take_lbn k rr]
          refine List.mem_iff_getElem?.2 ⟨i, ?_⟩
          rw [List.getElem?_take, if_pos (by omega), List.getElem?_map, List.getElem?_eq_getElem hlt]; rfl
        exact klt_asymm (mem_lo.1 hm).2
    obtain ⟨v, t, e⟩ := (hk _ (List.getElem_mem hlt)).ne
    rw [hsp, List.flatMap_append, List.flatMap_cons] at hr
    obtain ⟨_, _, r3⟩ := Rising.append.1 hr
    exact klt_of_lt_le (r3 x hx ((ks[i]).key, v) (List.mem_append_left _ (by rw [e]; exact List.mem_cons_self))) hle
  · obtain ⟨d, hd, hx⟩ := List.mem_flatMap.1 hx
    have hgt : klt k d.key := by
      have hm : d.pr ∈ hi k (ks.map Kid.pr) := by
        rw [← drop_lbn k rr, ← List.map_drop]
        refine List.mem_map.2 ⟨d, ?_, rfl⟩
        have : ∀ j, j ≤ i + 1 → d ∈ ks.drop j := fun j hj => by
          obtain ⟨q, hq⟩ : ∃ q, i + 1 = j + q := ⟨i + 1 - j, by omega⟩
          rw [hq, ← List.drop_drop] at hd
          exact List.mem_of_mem_drop hd
        refine this _ ?_
        unfold undr at hidx
        split at hidx <;> rename_i f
        · rw [if_pos f]; omega
        · rw [if_neg f]; omega
      exact (mem_hi.1 hm).2
    obtain ⟨v, t, e⟩ := (hk d (List.mem_of_mem_drop hd)).ne
    have hd' : Rising d.es := hr.sub (by
      obtain ⟨a, b, e⟩ := List.append_of_mem (List.mem_of_mem_drop hd)
      rw [e, List.flatMap_append, List.flatMap_cons]
      exact (List.sublist_append_left _ _).trans (List.sublist_append_right _ _))
    rw [e] at hx hd'
    rcases List.mem_cons.1 hx with rfl | hx
    · exact hgt
    · exact klt_trans hgt ((Rising.cons.1 hd').1 x hx)

/-- A branch's new row, when one of its nodes was made anew. -/
theorem finish {n : Nat} {U L Rest : Nat → Prop} {D : Nat → Option (Node V)} {s : CS V} {h : Nat} (ok : Ok n U L s) {A B : List (Kid V)} {m : Node V} {em : List (Key × V)} {um : List Nat}
    (hL : ∀ t, L t ↔ Rest t ∨ t ∈ A.flatMap Kid.all ++ um ++ B.flatMap Kid.all) (hnd : (A.flatMap Kid.all ++ um ++ B.flatMap Kid.all).Nodup) (hR : ∀ t ∈ A.flatMap Kid.all ++ um ++ B.flatMap Kid.all, ¬ Rest t)
    (hA : ∀ c ∈ A, KidOk (cur D s) h c) (hB : ∀ c ∈ B, KidOk (cur D s) h c) (tr : Tre (cur D s) h m em um) (h1 : m.most / 2 ≤ m.size) (h2 : m.size ≤ 2 * m.most) :
    keepL m.parts s = .space ∨ ∃ q s' us', keepL m.parts s = .ok (q, s') ∧ q.length = (if m.size ≤ m.most then 1 else 2) ∧ Tre (cur D s') (h + 1) (.branch (A.map Kid.pr ++ q ++ B.map Kid.pr)) (A.flatMap Kid.es ++ em ++ B.flatMap Kid.es) us' ∧
      Ok n U (fun t => Rest t ∨ t ∈ us') s' ∧ us'.Nodup ∧ (∀ t ∈ us', ¬ Rest t) ∧ (∀ t, Rest t → cur D s' t = cur D s t) ∧ s'.reads = s.reads := by
  obtain ⟨d1, d2, d3, d4, d5, d6⟩ := nodup3.1 hnd
  have hum : ∀ t ∈ um, L t := fun t ht => (hL t).2 (.inr (by simp only [List.mem_append]; exact .inl (.inr ht)))
  have hAl : ∀ t ∈ A.flatMap Kid.all, L t := fun t ht => (hL t).2 (.inr (by simp only [List.mem_append]; exact .inl (.inl ht)))
  have hBl : ∀ t ∈ B.flatMap Kid.all, L t := fun t ht => (hL t).2 (.inr (by simp only [List.mem_append]; exact .inr ht))
  rcases keep_ok D ok tr hum d2 h1 h2 with e | ⟨ks, s', e, k0, k1, k2, k3, k4, k5, k8, k6, k7⟩
  · exact .inl e
  · refine .inr ⟨_, s', (A ++ ks ++ B).flatMap Kid.all, e, by simp [k0], tre_succ.2 ⟨A ++ ks ++ B, by simp, fun c hc => ?_, by simp [k2], rfl⟩, k3.congr fun t => ?_, ?_, fun t ht hr => ?_, fun t ht => k6 t ((hL t).2 (.inl ht)), k7⟩
    · simp only [List.mem_append] at hc
      rcases hc with (hc | hc) | hc
      · exact (hA c hc).congr fun t ht => k6 t (hAl t (List.mem_flatMap.2 ⟨c, hc, ht⟩))
      · exact k1 c hc
      · exact (hB c hc).congr fun t ht => k6 t (hBl t (List.mem_flatMap.2 ⟨c, hc, ht⟩))
    · rw [hL t]
      simp only [List.flatMap_append, List.mem_append]
      constructor
      · rintro ((a | (a | a) | a) | a)
        · exact .inl a
        · exact .inr (.inl (.inl a))
        · exact .inr (.inl (.inr (k8 t a)))
        · exact .inr (.inr a)
        · exact .inr (.inl (.inr a))
      · rintro (a | (a | a) | a)
        · exact .inl (.inl a)
        · exact .inl (.inr (.inl (.inl a)))
        · exact .inr a
        · exact .inl (.inr (.inr a))
    · simp only [List.flatMap_append]
      exact nodup3.2 ⟨d1, k4, d3, fun t ht hk => d4 t ht (k5 t hk (hAl t ht)), d5, fun t ht hb => d6 t (k5 t ht (hBl t hb)) hb⟩
    · simp only [List.flatMap_append, List.mem_append] at ht
      rcases ht with (ht | ht) | ht
      · exact hR t (by simp only [List.mem_append]; exact .inl (.inl ht)) hr
      · exact hR t (by simp only [List.mem_append]; exact .inl (.inr (k5 t ht ((hL t).2 (.inl hr))))) hr
      · exact hR t (by simp only [List.mem_append]; exact .inr ht) hr
end
end Go.Proofs.YtdgbgmffpcooeaaGreat
end
