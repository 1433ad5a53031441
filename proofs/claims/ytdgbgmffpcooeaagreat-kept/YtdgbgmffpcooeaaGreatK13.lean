/- T5 T7 T8 T9 -/
import Derived.Test.YtdgbgmffpcooeaaGreatK12
import Derived.Test.YtdgbgmffpcooeaaGreatK01
section
/- Plain facts on the tree: the root, and how many sectors, steps and heights there are. -/
namespace Go.Proofs.YtdgbgmffpcooeaaGreat
section
variable {V : Type}

/-- A whole tree: its root, its entries, its sectors. -/
def WT (M : Nat → Option (Node V)) (root : Nat) (es : List (Key × V)) (us : List Nat) : Prop :=
  (root = 0 ∧ es = [] ∧ us = []) ∨ (root ≠ 0 ∧ ∃ h nd u, M root = some nd ∧ Tre M h nd es u ∧ us = root :: u ∧ nd.size ≤ nd.most ∧ 1 ≤ nd.size ∧ (h = 0 ∨ 2 ≤ nd.size))
theorem WT.congr {M M' : Nat → Option (Node V)} {root : Nat} {es : List (Key × V)} {us : List Nat} (h : WT M root es us) (e : ∀ t ∈ us, M' t = M t) : WT M' root es us := by
  rcases h with h | ⟨h0, h, nd, u, a, b, rfl, c⟩
  · exact .inl h
  · exact .inr ⟨h0, h, nd, u, (e _ List.mem_cons_self).trans a, tre_congr h b fun t ht => e t (List.mem_cons_of_mem _ ht), rfl, c⟩

theorem rich_size {nd : Node V} (h : nd.poor = false) : 5 ≤ nd.size := by
  simp only [Node.poor, decide_eq_false_iff_not] at h
  rcases nd.most_cases with e | e <;> omega

theorem plant_one {n : Nat} {U L : Nat → Prop} {D : Nat → Option (Node V)} {s : CS V} {h : Nat} {nd : Node V} {es : List (Key × V)} {us : List Nat} (f : Nat) (ok : Ok n U L s) (hL : ∀ t, L t ↔ t ∈ us) (tr : Tre (cur D s) h nd es us) (hn : us.Nodup) (h1 : nd.size ≤ nd.most) (h2 : 1 ≤ nd.size) (h3 : h = 0 ∨ 2 ≤ nd.size) :
    plantF (f + 1) s nd = .space ∨ ∃ root s' us', plantF (f + 1) s nd = .ok (root, s') ∧ Ok n U (fun t => t ∈ us') s' ∧ WT (cur D s') root es us' ∧ us'.Nodup ∧ s'.reads = s.reads := by
  have hp : nd.parts = [nd] := by simp only [Node.parts]; rw [if_neg (by omega), if_pos h1]
  have hpl : plantF (f + 1) s nd = (keepL [nd] s).bind (rowRoot (plantF f)) := by
    rw [plant_unf, hp]
    intro c hc
    subst hc
    rcases h3 with h3 | h3
    · subst h3; cases tr.1
    · simp [Node.size] at h3
  rw [hpl]
  simp only [keepL]
  rcases keep1_ok D ok nd with e | ⟨sec, s1, e, k1, k2, k3, k4, k5⟩
  · left; rw [e]; rfl
  · right
    rw [e]
    have hne : ∀ t ∈ us, t ≠ sec := fun t ht e => k1 ((hL sec).2 (e ▸ ht))
    refine ⟨sec, s1, sec :: us, rfl, k2.congr fun t => ?_, .inr ⟨?_, h, nd, us, k3, tre_congr h tr fun t ht => k4 t (hne t ht), rfl, h1, h2, h3⟩, List.nodup_cons.2 ⟨fun g => hne sec g rfl, hn⟩, k5⟩
    · rw [hL t, List.mem_cons]; exact ⟨fun g => g.elim .inr .inl, fun g => g.elim .inr .inl⟩
    · have := k2.inL sec (.inr rfl); omega

theorem plant_ok {n : Nat} {U L : Nat → Prop} {D : Nat → Option (Node V)} {s : CS V} {h : Nat} {nd : Node V} {es : List (Key × V)} {us : List Nat} (ok : Ok n U L s) (hL : ∀ t, L t ↔ t ∈ us) (tr : Tre (cur D s) h nd es us) (hn : us.Nodup) (h1 : nd.size ≤ nd.most + 1) (h2 : h = 0 ∨ 1 ≤ nd.size) :
    plantF 2 s nd = .space ∨ ∃ root s' us', plantF 2 s nd = .ok (root, s') ∧ Ok n U (fun t => t ∈ us') s' ∧ WT (cur D s') root es us' ∧ us'.Nodup ∧ s'.reads = s.reads := by
  by_cases hsz : nd.size = 0
  · -- nothing is left
    have h0 : h = 0 := by rcases h2 with h2 | h2 <;> omega
    subst h0
    obtain ⟨rfl, rfl⟩ := tr
    have he : es = [] := List.length_eq_zero_iff.1 hsz
    subst he
    right
    exact ⟨0, s, [], rfl, ok.congr fun t => by rw [hL t], .inl ⟨rfl, rfl, rfl⟩, by simp, rfl⟩
  · by_cases hone : h ≠ 0 ∧ nd.size = 1
    · obtain ⟨hh, hs⟩ := hone
      obtain ⟨h, rfl⟩ : ∃ g, h = g + 1 := ⟨h - 1, by omega⟩
      obtain ⟨ks, rfl, hk, rfl, rfl⟩ := tre_succ.1 tr
      simp only [Node.size, List.length_map] at hs
      obtain ⟨c, rfl⟩ := List.length_eq_one_iff.1 hs
      have kc := hk c (by simp)
      have hz := rich_size kc.rich
      have hin := ok.inL c.sec ((hL _).2 (by simp))
      right
      refine ⟨c.sec, s, c.all, rfl, ok.congr fun t => by rw [hL t]; simp, .inr ⟨by omega, h, c.nd, c.us, kc.at_, ?_, rfl, kc.fits, by omega, .inr (by omega)⟩, by simpa using hn, rfl⟩
      simpa using kc.tre
    · have h3 : h = 0 ∨ 2 ≤ nd.size := by
        by_cases e : h = 0
        · exact .inl e
        · right
          have : ¬ nd.size = 1 := fun g => hone ⟨e, g⟩
          omega
      by_cases hf : nd.size ≤ nd.most
      · exact plant_one 1 ok hL tr hn hf (by omega) h3
      · -- two parts, and a new root above them
        have hpl : plantF 2 s nd = (keepL nd.parts s).bind (rowRoot (plantF 1)) := plant_unf 1 s nd fun c hc => by
          subst hc
          simp [Node.size, Node.most] at hf
        have hmc := nd.most_cases
        rcases keep_ok D ok tr (fun t ht => (hL t).2 ht) hn (by omega) (by omega) with e | ⟨ks, s1, e, k0, k1, k2, k3, k4, k5, k8, k6, k7⟩
        · left; rw [hpl, e]; rfl
        · rw [if_neg hf] at k0
          have hq : plantF 2 s nd = plantF 1 s1 (.branch (ks.map Kid.pr)) := by
            rw [hpl, e, Res.ok_bind]
            match ks, k0 with
            | [a, b], _ => rfl
          rw [hq]
          have t1 : Tre (cur D s1) (h + 1) (.branch (ks.map Kid.pr)) es (ks.flatMap Kid.all) := tre_succ.2 ⟨ks, rfl, k1, k2.symm, rfl⟩
          have hL1 : ∀ t, (L t ∨ t ∈ ks.flatMap Kid.all) ↔ t ∈ ks.flatMap Kid.all := fun t => by rw [hL t]; exact ⟨fun g => g.elim (k8 t) id, .inr⟩
          rcases plant_one 0 k3 hL1 t1 k4 (by simp [Node.size, Node.most]; omega) (by simp [Node.size]; omega) (.inr (by simp [Node.size]; omega)) with g | ⟨root, s', us', g1, g2, g3, g4, g5⟩
          · exact .inl g
          · exact .inr ⟨root, s', us', g1, g2, g3, g4, by rw [g5, k7]⟩

/-- How many entries a tree of some height has, and how many sectors. -/
theorem sum_kids {a : Nat} {M : Nat → Option (Node V)} {h : Nat} : ∀ (ks : List (Kid V)), (∀ c ∈ ks, a ≤ c.es.length) → a * ks.length ≤ (ks.flatMap Kid.es).length
  | [], _ => by simp
  | c :: ks, hk => by
    have := sum_kids (a := a) (M := M) (h := h) ks fun d hd => hk d (List.mem_cons_of_mem _ hd)
    have := hk c List.mem_cons_self
    simp only [List.flatMap_cons, List.length_append, List.length_cons]
    rw [Nat.mul_add]; omega
theorem tre_many {M : Nat → Option (Node V)} : ∀ (h : Nat) {nd : Node V} {es : List (Key × V)} {us : List Nat}, Tre M h nd es us → nd.poor = false → 5 * 7 ^ h ≤ es.length
  | 0, nd, es, us, tr, hp => by
    obtain ⟨rfl, _⟩ := tr
    have := rich_size hp
    simp only [Node.size] at this
    omega
  | h + 1, nd, es, us, tr, hp => by
    obtain ⟨ks, rfl, hk, rfl, rfl⟩ := tre_succ.1 tr
    simp only [Node.poor, Node.size, Node.most, decide_eq_false_iff_not, List.length_map, Nat.not_lt] at hp
    have := sum_kids (a := 5 * 7 ^ h) (M := M) (h := h) ks fun c hc => tre_many h (hk c hc).tre (hk c hc).rich
    have h2 : 5 * 7 ^ h * 7 ≤ 5 * 7 ^ h * ks.length := Nat.mul_le_mul_left _ hp
    rw [Nat.pow_succ]
    omega
theorem tre_high {M : Nat → Option (Node V)} {h : Nat} {nd : Node V} {es : List (Key × V)} {us : List Nat} (tr : Tre M (h + 1) nd es us) (h2 : 2 ≤ nd.size) : 10 * 7 ^ h ≤ es.length := by
  obtain ⟨ks, rfl, hk, rfl, rfl⟩ := tre_succ.1 tr
  simp only [Node.size, List.length_map] at h2
  have := sum_kids (a := 5 * 7 ^ h) (M := M) (h := h) ks fun c hc => tre_many h (hk c hc).tre (hk c hc).rich
  have h2 : 5 * 7 ^ h * 2 ≤ 5 * 7 ^ h * ks.length := Nat.mul_le_mul_left _ h2
  omega
theorem kids_secs : ∀ (ks : List (Kid V)), (∀ c ∈ ks, 4 * (c.us.length + 1) + 1 ≤ c.es.length) → 4 * (ks.flatMap Kid.all).length + ks.length ≤ (ks.flatMap Kid.es).length
  | [], _ => by simp
  | c :: ks, hk => by
    have := kids_secs ks fun d hd => hk d (List.mem_cons_of_mem _ hd)
    have := hk c List.mem_cons_self
    simp only [List.flatMap_cons, List.length_append, List.length_cons]
    omega
theorem tre_secs {M : Nat → Option (Node V)} : ∀ (h : Nat) {nd : Node V} {es : List (Key × V)} {us : List Nat}, Tre M h nd es us → 4 * us.length ≤ es.length ∧ (nd.poor = false → 4 * (us.length + 1) + 1 ≤ es.length)
  | 0, nd, es, us, tr => by
    obtain ⟨rfl, rfl⟩ := tr
    refine ⟨by simp, fun hp => ?_⟩
    have := rich_size hp
    simp only [Node.size] at this
    simp only [List.length_nil]
    omega
  | h + 1, nd, es, us, tr => by
    obtain ⟨ks, rfl, hk, rfl, rfl⟩ := tre_succ.1 tr
    have := kids_secs ks fun c hc => (tre_secs h (hk c hc).tre).2 (hk c hc).rich
    simp only [Node.poor, Node.size, Node.most, decide_eq_false_iff_not, List.length_map]
    omega
theorem WT.secs {M : Nat → Option (Node V)} {root : Nat} {es : List (Key × V)} {us : List Nat} (h : WT M root es us) : 4 * us.length ≤ es.length + 4 := by
  rcases h with ⟨_, rfl, rfl⟩ | ⟨_, h, nd, u, _, tr, rfl, _⟩
  · simp
  · have := (tre_secs h tr).1
    simp; omega

/-- An edit of a whole tree. -/
noncomputable def changeF (D : Nat → Option (Node V)) (k : Key) (op : List (Key × V) → List (Key × V)) (f : Nat) (s : CS V) (root : Nat) : Res (Nat × CS V) := (editF D k op f s root).bind fun x => plantF 2 x.2 x.1
theorem change_ok {n : Nat} {U : Nat → Prop} {D : Nat → Option (Node V)} {k : Key} {op : List (Key × V) → List (Key × V)} (ho : OpOk k op) {s : CS V} {root : Nat} {es : List (Key × V)} {us : List Nat}
    (ok : Ok n U (fun t => t ∈ us) s) (wt : WT (cur D s) root es us) (hn : us.Nodup) (hr : Rising es) :
    ∃ f, (f = 1 ∨ ∃ g, f = g + 2 ∧ 10 * 7 ^ g ≤ es.length) ∧ (changeF D k op f s root = .space ∨ ∃ root' s' us', changeF D k op f s root = .ok (root', s') ∧ Ok n U (fun t => t ∈ us') s' ∧ WT (cur D s') root' (op es) us' ∧ us'.Nodup ∧ s'.reads ≤ s.reads + 2 * f) := by
  rcases wt with ⟨rfl, rfl, rfl⟩ | ⟨h0, h, nd, u, hc, tr, rfl, w1, w2, w3⟩
  · refine ⟨1, .inl rfl, ?_⟩
    have he : editF D k op 1 s 0 = .ok (.leaf (op []), s) := by
      simp only [editF, takeF, if_pos, Res.ok_bind, if_pos Rising.nil]
    rw [changeF, he, Res.ok_bind]
    have hl := ho.up [] Rising.nil
    rcases plant_ok (D := D) ok (fun t => Iff.rfl) (h := 0) (nd := .leaf (op [])) (es := op []) ⟨rfl, rfl⟩ hn (by simp [Node.size, Node.most] at hl ⊢; omega) (.inl rfl) with g | ⟨root, s', us', g1, g2, g3, g4, g5⟩
    · exact .inl g
    · exact .inr ⟨root, s', us', g1, g2, g3, g4, by omega⟩
  · refine ⟨h + 1, ?_, ?_⟩
    · cases h with
      | zero => exact .inl rfl
      | succ h => exact .inr ⟨h, rfl, tre_high tr (w3.resolve_left (by omega))⟩
    · rw [changeF]
      rcases edit_ok ho h _ s root nd es u ok hc tr (fun t ht => ht) hn hr w3 with e | ⟨nd', s', us', e, k1, k2, k3, k4, k5, k6, k7, k8⟩
      · left; rw [e]; rfl
      · rw [e, Res.ok_bind]
        have hm : nd'.most = nd.most := by
          cases h with
          | zero => rw [k2.1, tr.1]; rfl
          | succ h => obtain ⟨ka, ea, _⟩ := k2; obtain ⟨kb, eb, _⟩ := tr; rw [ea, eb]; rfl
        have w4 : h = 0 ∨ 1 ≤ nd'.size := by
          rcases w3 with w3 | w3
          · exact .inl w3
          · right; omega
        rcases plant_ok k1 (fun t => ⟨fun g => g.elim (fun a => absurd a.1 a.2) id, .inr⟩) k2 k3 (by omega) w4 with g | ⟨root', s2, us2, g1, g2, g3, g4, g5⟩
        · exact .inl g
        · exact .inr ⟨root', s2, us2, g1, g2, g3, g4, by omega⟩

/-- No room is told only where there are few sectors free. -/
theorem takeF_free {D : Nat → Option (Node V)} {s : CS V} {sec : Nat} {x : Node V × CS V} (h : takeF D s sec = .ok x) : s.free.length ≤ x.2.free.length ∧ x.2.puts = s.puts := by
  unfold takeF at h
  split at h
  · cases h; exact ⟨Nat.le_refl _, rfl⟩
  · split at h
    · cases h; exact ⟨by simp, rfl⟩
    · split at h
      · cases h; exact ⟨Nat.le_refl _, rfl⟩
      · cases h
theorem takeF_space {D : Nat → Option (Node V)} {s : CS V} {sec : Nat} : takeF D s sec ≠ .space := by
  unfold takeF
  split
  · intro h; cases h
  · split
    · intro h; cases h
    · split
      · intro h; cases h
      · intro h; cases h
theorem keepL_free : ∀ (ps : List (Node V)) (s : CS V), (keepL ps s = .space → s.free.length < ps.length) ∧ ∀ x, keepL ps s = .ok x → x.2.free.length + ps.length = s.free.length ∧ x.2.puts = s.puts + ps.length
  | [], s => ⟨fun h => (by cases h), fun x h => (by cases h; exact ⟨rfl, rfl⟩)⟩
  | p :: ps, s => by
    simp only [keepL, keep1]
    cases hg : s.free.getLast? with
    | none =>
      have : s.free = [] := List.getLast?_eq_none_iff.1 hg
      refine ⟨fun _ => (by rw [this]; simp), fun x h => (by cases h)⟩
    | some sec =>
      have hne : s.free ≠ [] := fun e => by rw [e] at hg; cases hg
      have hl := List.length_pos_iff.2 hne
      simp only [Res.ok_bind]
      obtain ⟨i1, i2⟩ := keepL_free ps { s with free := s.free.dropLast, made := upd2 s.made sec (some p), puts := s.puts + 1 }
      simp only [List.length_dropLast] at i1 i2
      cases hk : keepL ps { s with free := s.free.dropLast, made := upd2 s.made sec (some p), puts := s.puts + 1 } with
      | ok y =>
        rw [Res.ok_bind]
        have := i2 y hk
        refine ⟨fun h => (by cases h), fun x h => (by cases h; simp only [List.length_cons]; omega)⟩
      | space => exact ⟨fun _ => (by have := i1 hk; simp only [List.length_cons]; omega), fun x h => (by cases h)⟩
      | bad => exact ⟨fun h => (by cases h), fun x h => (by cases h)⟩
theorem parts_length (n : Node V) : n.parts.length ≤ 2 := by
  unfold Node.parts
  split
  · simp
  · split <;> simp
theorem editF_free {D : Nat → Option (Node V)} {k : Key} {op : List (Key × V) → List (Key × V)} : ∀ (f : Nat) (s : CS V) (sec : Nat), (editF D k op (f + 1) s sec = .space → s.free.length < 2 * f) ∧ ∀ x, editF D k op (f + 1) s sec = .ok x → s.free.length ≤ x.2.free.length + 2 * f ∧ x.2.puts ≤ s.puts + 2 * f := by
  have keep : ∀ (nd : Node V) (s : CS V) (g : List (Key × Nat) → Node V), ((keepL nd.parts s).bind (fun q => Res.ok (g q.1, q.2)) = .space → s.free.length < 2) ∧ ∀ x, (keepL nd.parts s).bind (fun q => Res.ok (g q.1, q.2)) = .ok x → s.free.length ≤ x.2.free.length + 2 ∧ x.2.puts ≤ s.puts + 2 := fun nd s g => by
    have hp := parts_length nd
    obtain ⟨i1, i2⟩ := keepL_free nd.parts s
    cases hk : keepL nd.parts s with
    | ok y =>
      have := i2 y hk
      exact ⟨fun h => (by cases h), fun x h => (by cases h; simp only; omega)⟩
    | space => exact ⟨fun _ => (by have := i1 hk; omega), fun x h => (by cases h)⟩
    | bad => exact ⟨fun h => (by cases h), fun x h => (by cases h)⟩
  intro f
  induction f with
  | zero =>
    intro s sec
    simp only [editF]
    cases ht : takeF D s sec with
    | space => exact absurd ht takeF_space
    | bad => exact ⟨fun h => (by cases h), fun x h => (by cases h)⟩
    | ok y =>
      have := takeF_free ht
      rw [Res.ok_bind]
      split
      · split
        · exact ⟨fun h => (by cases h), fun x h => (by cases h; simp only; omega)⟩
        · exact ⟨fun h => (by cases h), fun x h => (by cases h)⟩
      · split
        · split
          · exact ⟨fun h => (by cases h), fun x h => (by cases h)⟩
          · exact ⟨fun h => (by cases h), fun x h => (by cases h)⟩
        · exact ⟨fun h => (by cases h), fun x h => (by cases h)⟩
  | succ f ih =>
    intro s sec
    rw [editF]
    cases ht : takeF D s sec with
    | space => exact absurd ht takeF_space
    | bad => exact ⟨fun h => (by cases h), fun x h => (by cases h)⟩
    | ok y =>
      have h1 := takeF_free ht
      rw [Res.ok_bind]
      split
      · split
        · exact ⟨fun h => (by cases h), fun x h => (by cases h; simp only; omega)⟩
        · exact ⟨fun h => (by cases h), fun x h => (by cases h)⟩
      · split
        · split
          · exact ⟨fun h => (by cases h), fun x h => (by cases h)⟩
          · rename_i c _
            obtain ⟨i1, i2⟩ := ih y.2 c.2
            cases he : editF D k op (f + 1) y.2 c.2 with
            | space => exact ⟨fun _ => (by have := i1 he; omega), fun x h => (by cases h)⟩
            | bad => exact ⟨fun h => (by cases h), fun x h => (by cases h)⟩
            | ok z =>
              have h2 := i2 z he
              rw [Res.ok_bind]
              split
              · split
                · split
                  · exact ⟨fun h => (by cases h), fun x h => (by cases h)⟩
                  · rename_i a _
                    cases ht2 : takeF D z.2 a.2 with
                    | space => exact absurd ht2 takeF_space
                    | bad => exact ⟨fun h => (by cases h), fun x h => (by cases h)⟩
                    | ok v =>
                      have h3 := takeF_free ht2
                      rw [Res.ok_bind]
                      split
                      · obtain ⟨k1, k2⟩ := keep (v.1.join z.1) v.2 (fun q => .branch (List.take _ _ ++ q ++ List.drop _ _))
                        exact ⟨fun h => (by have := k1 h; omega), fun x h => (by have := k2 x h; omega)⟩
                      · exact ⟨fun h => (by cases h), fun x h => (by cases h)⟩
                · split
                  · exact ⟨fun h => (by cases h), fun x h => (by cases h)⟩
                  · rename_i a _
                    cases ht2 : takeF D z.2 a.2 with
                    | space => exact absurd ht2 takeF_space
                    | bad => exact ⟨fun h => (by cases h), fun x h => (by cases h)⟩
                    | ok v =>
                      have h3 := takeF_free ht2
                      rw [Res.ok_bind]
                      split
                      · obtain ⟨k1, k2⟩ := keep (z.1.join v.1) v.2 (fun q => .branch (List.take _ _ ++ q ++ List.drop _ _))
                        exact ⟨fun h => (by have := k1 h; omega), fun x h => (by have := k2 x h; omega)⟩
                      · exact ⟨fun h => (by cases h), fun x h => (by cases h)⟩
              · obtain ⟨k1, k2⟩ := keep z.1 z.2 (fun q => .branch (List.take _ _ ++ q ++ List.drop _ _))
                exact ⟨fun h => (by have := k1 h; omega), fun x h => (by have := k2 x h; omega)⟩
        · exact ⟨fun h => (by cases h), fun x h => (by cases h)⟩
theorem plantF_free : ∀ (f : Nat) (s : CS V) (nd : Node V), (plantF f s nd = .space → s.free.length < 2 * f) ∧ ∀ x, plantF f s nd = .ok x → s.free.length ≤ x.2.free.length + 2 * f ∧ x.2.puts ≤ s.puts + 2 * f
  | 0, s, nd => ⟨fun h => (by cases h), fun x h => (by cases h)⟩
  | f + 1, s, nd => by
    by_cases hc : ∃ c, nd = .branch [c]
    · obtain ⟨c, rfl⟩ := hc
      exact ⟨fun h => (by cases h), fun x h => (by cases h; simp only; omega)⟩
    · rw [plant_unf f s nd fun c e => hc ⟨c, e⟩]
      have hp := parts_length nd
      obtain ⟨i1, i2⟩ := keepL_free nd.parts s
      cases hk : keepL nd.parts s with
      | space => exact ⟨fun _ => (by have := i1 hk; omega), fun x h => (by cases h)⟩
      | bad => exact ⟨fun h => (by cases h), fun x h => (by cases h)⟩
      | ok q =>
        have h1 := i2 q hk
        rw [Res.ok_bind]
        unfold rowRoot
        split
        · exact ⟨fun h => (by cases h), fun x h => (by cases h; simp only; omega)⟩
        · exact ⟨fun h => (by cases h), fun x h => (by cases h; simp only; omega)⟩
        · obtain ⟨j1, j2⟩ := plantF_free f q.2 (.branch q.1)
          exact ⟨fun h => (by have := j1 h; omega), fun x h => (by have := j2 x h; omega)⟩
theorem changeF_free {D : Nat → Option (Node V)} {k : Key} {op : List (Key × V) → List (Key × V)} (f : Nat) (s : CS V) (root : Nat) : (changeF D k op (f + 1) s root = .space → s.free.length < 2 * f + 4) ∧ ∀ x, changeF D k op (f + 1) s root = .ok x → s.free.length ≤ x.2.free.length + 2 * f + 4 ∧ x.2.puts ≤ s.puts + 2 * f + 4 := by
  rw [changeF]
  obtain ⟨i1, i2⟩ := editF_free (D := D) (k := k) (op := op) f s root
  cases he : editF D k op (f + 1) s root with
  | space => exact ⟨fun _ => (by have := i1 he; omega), fun x h => (by cases h)⟩
  | bad => exact ⟨fun h => (by cases h), fun x h => (by cases h)⟩
  | ok y =>
    have h1 := i2 y he
    rw [Res.ok_bind]
    obtain ⟨j1, j2⟩ := plantF_free 2 y.2 y.1
    exact ⟨fun h => (by have := j1 h; omega), fun x h => (by have := j2 x h; omega)⟩
end
end Go.Proofs.YtdgbgmffpcooeaaGreat
end
section
/- Plain facts on the index: rectangles by their numbers, and the entries that they have in a tree. -/
namespace Go.Proofs.YtdgbgmffpcooeaaGreat
section
variable {V : Type}

theorem mem_ins {k : Key} {v : V} {r : List (Key × V)} {x : Key × V} : x ∈ ins k v r ↔ (x ∈ r ∧ x.1 ≠ k) ∨ x = (k, v) := by
  unfold ins
  simp only [List.mem_append, List.mem_cons, mem_lo, mem_hi]
  constructor
  · rintro (⟨a, b⟩ | a | ⟨a, b⟩)
    · exact .inl ⟨a, fun e => klt_irrefl k (e ▸ b)⟩
    · exact .inr a
    · exact .inl ⟨a, fun e => klt_irrefl k (e ▸ b)⟩
  · rintro (⟨a, b⟩ | a)
    · rcases klt_tri x.1 k with g | g | g
      · exact .inl ⟨a, g⟩
      · exact absurd g b
      · exact .inr (.inr ⟨a, g⟩)
    · exact .inr (.inl a)
theorem mem_del {k : Key} {r : List (Key × V)} {x : Key × V} : x ∈ del k r ↔ x ∈ r ∧ x.1 ≠ k := by
  unfold del
  simp only [List.mem_append, mem_lo, mem_hi]
  constructor
  · rintro (⟨a, b⟩ | ⟨a, b⟩)
    · exact ⟨a, fun e => klt_irrefl k (e ▸ b)⟩
    · exact ⟨a, fun e => klt_irrefl k (e ▸ b)⟩
  · rintro ⟨a, b⟩
    rcases klt_tri x.1 k with g | g | g
    · exact .inl ⟨a, g⟩
    · exact absurd g b
    · exact .inr ⟨a, g⟩
/-- Rows that rise and have the same members are the same. -/
theorem rising_ext : ∀ {a b : List (Key × V)}, Rising a → Rising b → (∀ x, x ∈ a ↔ x ∈ b) → a = b
  | [], [], _, _, _ => rfl
  | [], y :: b, _, _, h => by have := (h y).2 List.mem_cons_self; cases this
  | x :: a, [], _, _, h => by have := (h x).1 List.mem_cons_self; cases this
  | x :: a, y :: b, ha, hb, h => by
    obtain ⟨ha1, ha2⟩ := Rising.cons.1 ha
    obtain ⟨hb1, hb2⟩ := Rising.cons.1 hb
    have e : x = y := by
      have h1 := (h x).1 List.mem_cons_self
      have h2 := (h y).2 List.mem_cons_self
      rcases List.mem_cons.1 h1 with g1 | g1
      · exact g1
      · rcases List.mem_cons.1 h2 with g2 | g2
        · exact g2.symm
        · exact absurd (hb1 x g1) (klt_asymm (ha1 y g2))
    subst e
    rw [rising_ext ha2 hb2 fun z => ?_]
    have hz := h z
    simp only [List.mem_cons] at hz
    constructor
    · intro g
      rcases hz.1 (.inr g) with e | g2
      · subst e; exact absurd (ha1 z g) (klt_irrefl _)
      · exact g2
    · intro g
      rcases hz.2 (.inr g) with e | g2
      · subst e; exact absurd (hb1 z g) (klt_irrefl _)
      · exact g2
/-- Put in, and taken out, one after another. -/
def insAll (l : List (Key × V)) (r : List (Key × V)) : List (Key × V) := l.foldl (fun r e => ins e.1 e.2 r) r
def delAll (l : List (Key × V)) (r : List (Key × V)) : List (Key × V) := l.foldl (fun r e => del e.1 r) r
theorem rising_insAll : ∀ (l : List (Key × V)) {r : List (Key × V)}, Rising r → Rising (insAll l r)
  | [], _, h => h
  | _ :: l, _, h => rising_insAll l (rising_ins h)
theorem rising_delAll : ∀ (l : List (Key × V)) {r : List (Key × V)}, Rising r → Rising (delAll l r)
  | [], _, h => h
  | _ :: l, _, h => rising_delAll l (rising_del h)
theorem mem_delAll : ∀ (l : List (Key × V)) {r : List (Key × V)} {x : Key × V}, x ∈ delAll l r ↔ x ∈ r ∧ ∀ e ∈ l, x.1 ≠ e.1
  | [], _, _ => by simp [delAll]
  | e :: l, r, x => by
    show x ∈ delAll l (del e.1 r) ↔ _
    rw [mem_delAll l, mem_del]
    simp only [List.mem_cons, forall_eq_or_imp]
    constructor
    · rintro ⟨⟨a, b⟩, c⟩; exact ⟨a, b, c⟩
    · rintro ⟨a, b, c⟩; exact ⟨⟨a, b⟩, c⟩
theorem mem_insAll : ∀ (l : List (Key × V)) {r : List (Key × V)} {x : Key × V}, (l.Pairwise fun a b => a.1 ≠ b.1) → (x ∈ insAll l r ↔ (x ∈ r ∧ ∀ e ∈ l, x.1 ≠ e.1) ∨ x ∈ l)
  | [], _, _, _ => by simp [insAll]
  | e :: l, r, x, hp => by
    obtain ⟨h1, h2⟩ := List.pairwise_cons.1 hp
    show x ∈ insAll l (ins e.1 e.2 r) ↔ _
    rw [mem_insAll l h2, mem_ins]
    simp only [List.mem_cons, forall_eq_or_imp]
    constructor
    · rintro (⟨⟨a, b⟩ | a, c⟩ | a)
      · exact .inl ⟨a, b, c⟩
      · exact .inr (.inl a)
      · exact .inr (.inr a)
    · rintro (⟨a, b, c⟩ | a | a)
      · exact .inl ⟨.inl ⟨a, b⟩, c⟩
      · subst a; exact .inl ⟨.inr rfl, fun y hy => h1 y hy⟩
      · exact .inr a

/-- The first number of the keys by which rectangles stand under their own numbers. -/
abbrev NUM : Int := 73014444032
/-- The entries of a rectangle; pl tells the places of its cells. -/
def ents (pl : V → List Nat) (id : Int) (v : V) : List (Key × V) := ((NUM, id), v) :: (pl v).map fun p : Nat => (((p : Int), id), v)
structure PlOk (pl : V → List Nat) (v : V) : Prop where
  nd : (pl v).Nodup
  lt : ∀ p ∈ pl v, p < 73014444032
  few : (pl v).length ≤ 4
  one : 1 ≤ (pl v).length
theorem mem_ents {pl : V → List Nat} {id : Int} {v : V} {x : Key × V} : x ∈ ents pl id v ↔ x = ((NUM, id), v) ∨ ∃ p ∈ pl v, x = (((p : Int), id), v) := by
  simp only [ents, List.mem_cons, List.mem_map]
  constructor
  · rintro (a | ⟨p, h, rfl⟩)
    · exact .inl a
    · exact .inr ⟨p, h, rfl⟩
  · rintro (a | ⟨p, h, rfl⟩)
    · exact .inl a
    · exact .inr ⟨p, h, rfl⟩
theorem ents_id {pl : V → List Nat} {id : Int} {v : V} {x : Key × V} (h : x ∈ ents pl id v) : x.1.2 = id ∧ x.2 = v := by
  rcases mem_ents.1 h with rfl | ⟨p, _, rfl⟩ <;> exact ⟨rfl, rfl⟩
theorem ents_apart {pl : V → List Nat} {id : Int} {v : V} (h : PlOk pl v) : (ents pl id v).Pairwise fun a b => a.1 ≠ b.1 := by
  refine List.pairwise_cons.2 ⟨fun y hy => ?_, ?_⟩
  · obtain ⟨p, hp, rfl⟩ := List.mem_map.1 hy
    have := h.lt p hp
    simp only [ne_eq, Prod.mk.injEq, and_true, NUM]
    omega
  · rw [List.pairwise_map]
    exact h.nd.imp fun hab e => hab (by simp only [Prod.mk.injEq, and_true] at e; omega)

/-- What a table of rectangles by rising numbers has as entries of a tree. -/
structure Idx (pl : V → List Nat) (tb : List (Int × V)) (es : List (Key × V)) : Prop where
  ris : Rising es
  mem : ∀ x, x ∈ es ↔ ∃ t ∈ tb, x ∈ ents pl t.1 t.2
  up : tb.Pairwise fun a b => a.1 < b.1
  id : ∀ t ∈ tb, 0 ≤ t.1 ∧ t.1 ≤ 4611686018427387904
  pl : ∀ t ∈ tb, PlOk pl t.2

def tget (id : Int) (tb : List (Int × V)) : Option V := (tb.find? fun t => t.1 == id).map (·.2)
def tdel (id : Int) (tb : List (Int × V)) : List (Int × V) := tb.filter fun t => t.1 != id
def tput (id : Int) (v : V) (tb : List (Int × V)) : List (Int × V) := (tb.filter fun t => decide (t.1 < id)) ++ (id, v) :: tb.filter fun t => decide (id < t.1)
theorem mem_tdel {id : Int} {tb : List (Int × V)} {t : Int × V} : t ∈ tdel id tb ↔ t ∈ tb ∧ t.1 ≠ id := by simp [tdel]
theorem mem_tput {id : Int} {v : V} {tb : List (Int × V)} {t : Int × V} : t ∈ tput id v tb ↔ (t ∈ tb ∧ t.1 ≠ id) ∨ t = (id, v) := by
  simp only [tput, List.mem_append, List.mem_cons, List.mem_filter, decide_eq_true_eq]
  constructor
  · rintro (⟨a, b⟩ | a | ⟨a, b⟩)
    · exact .inl ⟨a, by omega⟩
    · exact .inr a
    · exact .inl ⟨a, by omega⟩
  · rintro (⟨a, b⟩ | a)
    · rcases Int.lt_or_gt_of_ne b with g | g
      · exact .inl ⟨a, g⟩
      · exact .inr (.inr ⟨a, g⟩)
    · exact .inr (.inl a)
theorem up_tdel {id : Int} {tb : List (Int × V)} (h : tb.Pairwise fun a b => a.1 < b.1) : (tdel id tb).Pairwise fun a b => a.1 < b.1 := h.filter _
theorem up_tput {id : Int} {v : V} {tb : List (Int × V)} (h : tb.Pairwise fun a b => a.1 < b.1) : (tput id v tb).Pairwise fun a b => a.1 < b.1 := by
  refine List.pairwise_append.2 ⟨h.filter _, List.pairwise_cons.2 ⟨fun y hy => ?_, h.filter _⟩, fun x hx y hy => ?_⟩
  · exact of_decide_eq_true (List.mem_filter.1 hy).2
  · have hx := of_decide_eq_true (List.mem_filter.1 hx).2
    rcases List.mem_cons.1 hy with rfl | hy
    · exact hx
    · exact Int.lt_trans hx (of_decide_eq_true (List.mem_filter.1 hy).2)
theorem up_uniq {tb : List (Int × V)} (h : tb.Pairwise fun a b => a.1 < b.1) {x y : Int × V} (hx : x ∈ tb) (hy : y ∈ tb) (e : x.1 = y.1) : x = y := by
  induction tb with
  | nil => cases hx
  | cons z r ih =>
    obtain ⟨h1, h2⟩ := List.pairwise_cons.1 h
    rcases List.mem_cons.1 hx with e1 | gx
    · rcases List.mem_cons.1 hy with e2 | gy
      · rw [e1, e2]
      · have := h1 y gy; rw [← e1] at this; omega
    · rcases List.mem_cons.1 hy with e2 | gy
      · have := h1 x gx; rw [← e2] at this; omega
      · exact ih h2 gx gy
theorem tget_some {id : Int} {tb : List (Int × V)} (h : tb.Pairwise fun a b => a.1 < b.1) {v : V} : tget id tb = some v ↔ (id, v) ∈ tb := by
  unfold tget
  constructor
  · intro g
    obtain ⟨t, ht, rfl⟩ := Option.map_eq_some_iff.1 g
    have h1 := List.mem_of_find?_eq_some ht
    have h2 := List.find?_some ht
    have : t.1 = id := eq_of_beq h2
    rw [← this]; exact h1
  · intro g
    cases hf : tb.find? fun t => t.1 == id with
    | none => have := List.find?_eq_none.1 hf _ g; simp at this
    | some t =>
      have h1 := List.mem_of_find?_eq_some hf
      have h2 : t.1 = id := eq_of_beq (List.find?_some (p := fun t : Int × V => t.1 == id) hf)
      have := up_uniq h h1 g h2
      rw [this]; rfl
theorem tget_none {id : Int} {tb : List (Int × V)} : tget id tb = none ↔ ∀ t ∈ tb, t.1 ≠ id := by
  unfold tget
  rw [Option.map_eq_none_iff, List.find?_eq_none]
  simp

/-- Who has an entry with this number is the one. -/
theorem Idx.of_mem {pl : V → List Nat} {tb : List (Int × V)} {es : List (Key × V)} (h : Idx pl tb es) {x : Key × V} (hx : x ∈ es) : (x.1.2, x.2) ∈ tb ∧ x ∈ ents pl x.1.2 x.2 := by
  obtain ⟨t, ht, hm⟩ := (h.mem x).1 hx
  obtain ⟨e1, e2⟩ := ents_id hm
  have : (x.1.2, x.2) = t := by rw [e1, e2]
  rw [this, e1, e2]; exact ⟨ht, hm⟩
theorem Idx.del {pl : V → List Nat} {tb : List (Int × V)} {es : List (Key × V)} (h : Idx pl tb es) {id : Int} {v : V} (hv : (id, v) ∈ tb) : Idx pl (tdel id tb) (delAll (ents pl id v) es) := by
  refine ⟨rising_delAll _ h.ris, fun x => ?_, up_tdel h.up, fun t ht => h.id t (mem_tdel.1 ht).1, fun t ht => h.pl t (mem_tdel.1 ht).1⟩
  rw [mem_delAll]
  constructor
  · rintro ⟨hx, hn⟩
    obtain ⟨t, ht, hm⟩ := (h.mem x).1 hx
    refine ⟨t, mem_tdel.2 ⟨ht, fun e => ?_⟩, hm⟩
    have := up_uniq h.up ht hv e
    subst this
    exact hn x hm rfl
  · rintro ⟨t, ht, hm⟩
    obtain ⟨ht, hne⟩ := mem_tdel.1 ht
    refine ⟨(h.mem x).2 ⟨t, ht, hm⟩, fun e he g => hne ?_⟩
    rw [← (ents_id hm).1, ← (ents_id he).1, g]
theorem Idx.put {pl : V → List Nat} {tb : List (Int × V)} {es : List (Key × V)} (h : Idx pl tb es) {id : Int} {v : V} (hn : ∀ t ∈ tb, t.1 ≠ id) (hi : 0 ≤ id ∧ id ≤ 4611686018427387904) (hp : PlOk pl v) : Idx pl (tput id v tb) (insAll (ents pl id v) es) := by
  refine ⟨rising_insAll _ h.ris, fun x => ?_, up_tput h.up, fun t ht => ?_, fun t ht => ?_⟩
  · rw [mem_insAll _ (ents_apart hp)]
    constructor
    · rintro (⟨hx, _⟩ | hx)
      · obtain ⟨t, ht, hm⟩ := (h.mem x).1 hx
        exact ⟨t, mem_tput.2 (.inl ⟨ht, hn t ht⟩), hm⟩
      · exact ⟨(id, v), mem_tput.2 (.inr rfl), hx⟩
    · rintro ⟨t, ht, hm⟩
      rcases mem_tput.1 ht with ⟨ht, hne⟩ | rfl
      · refine .inl ⟨(h.mem x).2 ⟨t, ht, hm⟩, fun e he g => hne ?_⟩
        rw [← (ents_id hm).1, ← (ents_id he).1, g]
      · exact .inr hm
  · rcases mem_tput.1 ht with ⟨ht, _⟩ | rfl
    · exact h.id t ht
    · exact hi
  · rcases mem_tput.1 ht with ⟨ht, _⟩ | rfl
    · exact h.pl t ht
    · exact hp
theorem tput_tdel {id : Int} {v : V} {tb : List (Int × V)} : tput id v (tdel id tb) = tput id v tb := by
  unfold tput tdel
  rw [List.filter_filter, List.filter_filter]
  congr 1
  · exact List.filter_congr fun t _ => by by_cases g : t.1 < id <;> simp [g]; omega
  · congr 1
    exact List.filter_congr fun t _ => by by_cases g : id < t.1 <;> simp [g]; omega
theorem Idx.empty (pl : V → List Nat) : Idx pl [] [] := ⟨Rising.nil, fun x => by simp, List.Pairwise.nil, fun t ht => (by cases ht), fun t ht => (by cases ht)⟩
end
end Go.Proofs.YtdgbgmffpcooeaaGreat
end
section
/- Plain facts on the index: what is told from a key on; how many there are; a window's search. -/
namespace Go.Proofs.YtdgbgmffpcooeaaGreat
section
variable {V : Type}

/-- The entries from a key on. -/
def frm (k : Key) (r : List (Key × V)) : List (Key × V) := r.filter fun p => decide (¬ klt p.1 k)
theorem mem_frm {k : Key} {r : List (Key × V)} {x : Key × V} : x ∈ frm k r ↔ x ∈ r ∧ ¬ klt x.1 k := by simp [frm]
theorem rising_frm {k : Key} {r : List (Key × V)} (h : Rising r) : Rising (frm k r) := h.sub List.filter_sublist
theorem frm_append (k : Key) (a b : List (Key × V)) : frm k (a ++ b) = frm k a ++ frm k b := List.filter_append ..
theorem frm_all {k : Key} {a : List (Key × V)} (h : ∀ x ∈ a, ¬ klt x.1 k) : frm k a = a := List.filter_eq_self.2 fun x hx => decide_eq_true (h x hx)
theorem frm_none {k : Key} {a : List (Key × V)} (h : ∀ x ∈ a, klt x.1 k) : frm k a = [] := List.filter_eq_nil_iff.2 fun x hx => by simp [h x hx]
theorem lo_frm (k : Key) {r : List (Key × V)} (h : Rising r) : lo k r ++ frm k r = r := by
  obtain ⟨m, e, hm⟩ := rising_split k h
  have h1 : frm k (lo k r) = [] := frm_none fun x hx => (mem_lo.1 hx).2
  have h2 : frm k (hi k r) = hi k r := frm_all fun x hx => klt_asymm (mem_hi.1 hx).2
  have h3 : frm k m = m := by
    rcases hm with ⟨_, rfl⟩ | ⟨_, v, rfl⟩
    · rfl
    · exact frm_all fun x hx => by simp at hx; subst hx; exact klt_irrefl k
  have h4 : frm k r = m ++ hi k r := by
    have : frm k (lo k r ++ m ++ hi k r) = m ++ hi k r := by rw [frm_append, frm_append, h1, h2, h3]; rfl
    rwa [← e] at this
  rw [h4, ← List.append_assoc, ← e]
theorem drop_lbn_frm (k : Key) {r : List (Key × V)} (h : Rising r) : r.drop (lbn k r) = frm k r := by
  have e := lo_frm k h
  have : (lo k r ++ frm k r).drop (lbn k r) = frm k r := List.drop_left' rfl
  rwa [e] at this
/-- Under a branch: what is told of the nodes from the one on in which a key is. -/
theorem frm_kids {M : Nat → Option (Node V)} {h : Nat} {k : Key} {ks : List (Kid V)} (hk : ∀ c ∈ ks, KidOk M h c) (hr : Rising (ks.flatMap Kid.es)) :
    ((ks.drop (undr k (ks.map Kid.pr))).flatMap fun c => frm k c.es) = frm k (ks.flatMap Kid.es) := by
  by_cases hne : ks = []
  · subst hne; simp [frm]
  obtain ⟨A, c, B, rfl, hi, hA, hB⟩ := undr_split k ks hk hr hne
  rw [← hi]
  have e1 : (A ++ c :: B).drop A.length = c :: B := List.drop_left' rfl
  rw [e1]
  have e2 : frm k ((A ++ c :: B).flatMap Kid.es) = (c :: B).flatMap fun c => frm k c.es := by
    rw [List.flatMap_append, frm_append, frm_none, List.nil_append]
    · generalize c :: B = D
      induction D with
      | nil => rfl
      | cons x D ih => rw [List.flatMap_cons, frm_append, ih, List.flatMap_cons]
    · exact fun x hx => hA x hx
  rw [e2]

/-- The entries under the numbers themselves. -/
def nums (tb : List (Int × V)) : List (Key × V) := tb.map fun t => ((NUM, t.1), t.2)
theorem rising_nums {tb : List (Int × V)} (h : tb.Pairwise fun a b => a.1 < b.1) : Rising (nums tb) := by
  unfold Rising nums
  rw [List.pairwise_map]
  exact h.imp fun hab => .inr ⟨rfl, hab⟩
theorem Idx.from_num {pl : V → List Nat} {tb : List (Int × V)} {es : List (Key × V)} (h : Idx pl tb es) (id : Int) : frm (NUM, id) es = nums (tb.filter fun t => decide (id ≤ t.1)) := by
  refine rising_ext (rising_frm h.ris) (rising_nums (h.up.filter _)) fun x => ?_
  rw [mem_frm]
  simp only [nums, List.mem_map, List.mem_filter, decide_eq_true_eq]
  constructor
  · rintro ⟨hx, hk⟩
    obtain ⟨t, ht, hm⟩ := (h.mem x).1 hx
    rcases mem_ents.1 hm with rfl | ⟨p, hp, rfl⟩
    · refine ⟨t, ⟨ht, ?_⟩, rfl⟩
      simp only [klt, true_and] at hk
      omega
    · have := (h.pl t ht).lt p hp
      simp only [klt, NUM] at hk
      omega
  · rintro ⟨t, ⟨ht, hi⟩, rfl⟩
    refine ⟨(h.mem _).2 ⟨t, ht, mem_ents.2 (.inl rfl)⟩, ?_⟩
    simp only [klt]
    omega
theorem Idx.count {pl : V → List Nat} {tb : List (Int × V)} {es : List (Key × V)} (h : Idx pl tb es) : frm (NUM, 0) es = nums tb := by
  rw [h.from_num 0, List.filter_eq_self.2 fun t ht => decide_eq_true (h.id t ht).1]
/-- The first entry from a number's key on tells whether it is there. -/
theorem Idx.find {pl : V → List Nat} {tb : List (Int × V)} {es : List (Key × V)} (h : Idx pl tb es) (id : Int) :
    (tget id tb = none ∧ (frm (NUM, id) es = [] ∨ ∃ x l, frm (NUM, id) es = x :: l ∧ x.1 ≠ (NUM, id))) ∨ ∃ v l, tget id tb = some v ∧ frm (NUM, id) es = ((NUM, id), v) :: l := by
  have hf := h.from_num id
  cases hc : tb.filter fun t => decide (id ≤ t.1) with
  | nil =>
    left
    rw [hc] at hf
    refine ⟨tget_none.2 fun t ht e => ?_, .inl hf⟩
    have := List.filter_eq_nil_iff.1 hc t ht
    simp [e] at this
  | cons t l =>
    rw [hc] at hf
    have hmem : t ∈ tb ∧ id ≤ t.1 := by
      have : t ∈ tb.filter fun t => decide (id ≤ t.1) := by rw [hc]; exact List.mem_cons_self
      simpa using this
    by_cases e : t.1 = id
    · right
      refine ⟨t.2, nums l, (tget_some h.up).2 (by rw [← e]; exact hmem.1), ?_⟩
      rw [hf, ← e]; rfl
    · left
      refine ⟨tget_none.2 fun t' ht' e' => ?_, .inr ⟨_, _, hf, fun g => e (by simpa using g)⟩⟩
      have h1 : t' ∈ tb.filter fun t => decide (id ≤ t.1) := by simp [ht', e']
      rw [hc] at h1
      have hp := h.up.filter fun t => decide (id ≤ t.1)
      rw [hc] at hp
      obtain ⟨hp1, _⟩ := List.pairwise_cons.1 hp
      rcases List.mem_cons.1 h1 with rfl | h1
      · exact e e'
      · have := hp1 t' h1; omega

section
variable (mc : Nat → Prop) (mv : V → Prop)
/-- Whose cell and rectangle meet the window was told, or stands still ahead. -/
def Todo (es : List (Key × V)) (acc : List Int) (l : List (Key × V)) : Prop := ∀ e ∈ es, ∀ p : Nat, e.1.1 = (p : Int) → p < 73014444032 → mc p → mv e.2 → e.1.2 ∈ acc ∨ e ∈ l
def Sound (tb : List (Int × V)) (acc : List Int) : Prop := ∀ x ∈ acc, ∃ v, (x, v) ∈ tb ∧ mv v
variable {mc mv}
theorem todo_start {es : List (Key × V)} {p : Nat} (acc : List Int) (h : ∀ e ∈ es, ∀ q : Nat, e.1.1 = (q : Int) → q < 73014444032 → mc q → p ≤ q) (hi : ∀ e ∈ es, 0 ≤ e.1.2) : Todo mc mv es acc (frm ((p : Int), 0) es) := fun e he q e1 e2 e3 _ => by
  right
  refine mem_frm.2 ⟨he, ?_⟩
  have h1 := h e he q e1 e2 e3
  have h2 := hi e he
  simp only [klt]
  omega
theorem todo_leap {es l : List (Key × V)} {acc : List Int} {x : Key × V} {p : Nat} (ht : Todo mc mv es acc (x :: l)) (hr : Rising (x :: l))
    (h : ∀ e ∈ x :: l, ∀ q : Nat, e.1.1 = (q : Int) → q < 73014444032 → x.1.1 ≤ (q : Int) → mc q → p ≤ q) (hi : ∀ e ∈ es, 0 ≤ e.1.2) : Todo mc mv es acc (frm ((p : Int), 0) es) := fun e he q e1 e2 e3 e4 => by
  rcases ht e he q e1 e2 e3 e4 with g | g
  · exact .inl g
  · right
    refine mem_frm.2 ⟨he, ?_⟩
    have hx : x.1.1 ≤ (q : Int) := by
      rcases List.mem_cons.1 g with rfl | g2
      · omega
      · have := (Rising.cons.1 hr).1 e g2
        simp only [klt] at this
        omega
    have h1 := h e g q e1 e2 hx e3
    have h2 := hi e he
    simp only [klt]
    omega
theorem todo_none {es l : List (Key × V)} {acc : List Int} {x : Key × V} (ht : Todo mc mv es acc (x :: l)) (hr : Rising (x :: l))
    (h : ∀ e ∈ x :: l, ∀ q : Nat, e.1.1 = (q : Int) → q < 73014444032 → x.1.1 ≤ (q : Int) → ¬ mc q) : Todo mc mv es acc [] := fun e he q e1 e2 e3 e4 => by
  rcases ht e he q e1 e2 e3 e4 with g | g
  · exact .inl g
  · exfalso
    have hx : x.1.1 ≤ (q : Int) := by
      rcases List.mem_cons.1 g with rfl | g2
      · omega
      · have := (Rising.cons.1 hr).1 e g2
        simp only [klt] at this
        omega
    exact h e g q e1 e2 hx e3
theorem todo_num {es l : List (Key × V)} {acc : List Int} {x : Key × V} (ht : Todo mc mv es acc (x :: l)) (hr : Rising (x :: l)) (hx : x.1.1 = NUM) : Todo mc mv es acc [] :=
  todo_none ht hr fun e _ q _ e2 e3 => by rw [hx] at e3; simp only [NUM] at e3; omega
theorem todo_yes {es l : List (Key × V)} {acc : List Int} {x : Key × V} (ht : Todo mc mv es acc (x :: l)) : Todo mc mv es (acc ++ [x.1.2]) l := fun e he q e1 e2 e3 e4 => by
  rcases ht e he q e1 e2 e3 e4 with g | g
  · exact .inl (List.mem_append_left _ g)
  · rcases List.mem_cons.1 g with rfl | g
    · exact .inl (by simp)
    · exact .inr g
theorem todo_no {es l : List (Key × V)} {acc : List Int} {x : Key × V} (ht : Todo mc mv es acc (x :: l)) (hx : ¬ mv x.2) : Todo mc mv es acc l := fun e he q e1 e2 e3 e4 => by
  rcases ht e he q e1 e2 e3 e4 with g | g
  · exact .inl g
  · rcases List.mem_cons.1 g with rfl | g
    · exact absurd e4 hx
    · exact .inr g
theorem Sound.nil (tb : List (Int × V)) : Sound mv tb [] := fun x hx => (by cases hx)
theorem Sound.more {pl : V → List Nat} {tb : List (Int × V)} {es : List (Key × V)} (h : Idx pl tb es) {acc : List Int} (hs : Sound mv tb acc) {x : Key × V} (hx : x ∈ es) (hm : mv x.2) : Sound mv tb (acc ++ [x.1.2]) := fun y hy => by
  rcases List.mem_append.1 hy with hy | hy
  · exact hs y hy
  · simp at hy; subst hy; exact ⟨x.2, (h.of_mem hx).1, hm⟩
/-- Where nothing stands ahead, just those were told that meet the window. -/
theorem todo_done {pl : V → List Nat} {tb : List (Int × V)} {es : List (Key × V)} (h : Idx pl tb es) {acc : List Int} (ht : Todo mc mv es acc []) (hs : Sound mv tb acc) (hc : ∀ t ∈ tb, mv t.2 → ∃ p ∈ pl t.2, mc p) (x : Int) : x ∈ acc ↔ ∃ v, (x, v) ∈ tb ∧ mv v := by
  refine ⟨hs x, ?_⟩
  rintro ⟨v, hv, hm⟩
  obtain ⟨p, hp, hmc⟩ := hc _ hv hm
  have he : (((p : Int), x), v) ∈ es := (h.mem _).2 ⟨(x, v), hv, mem_ents.2 (.inr ⟨p, hp, rfl⟩)⟩
  rcases ht _ he p rfl ((h.pl _ hv).lt p hp) hmc hm with g | g
  · exact g
  · cases g
end
end
end Go.Proofs.YtdgbgmffpcooeaaGreat
end
section
/- Plain facts on bytes: numbers, keys, nodes and heads as they are written, and read again. -/
namespace Go.Proofs.YtdgbgmffpcooeaaGreat

def byteB (n : Int) : UInt8 := UInt8.ofNat (n % 256).toNat
theorem byteB_toNat (n : Int) : ((byteB n).toNat : Int) = n % 256 := by
  have h1 := Int.emod_nonneg n (show (256 : Int) ≠ 0 by decide)
  have h2 := Int.emod_lt_of_pos n (show (0 : Int) < 256 by decide)
  have : (n % 256).toNat < 256 := by omega
  unfold byteB
  rw [UInt8.toNat_ofNat', Nat.mod_eq_of_lt (by simpa using this)]
  omega
/-- A number's bytes, the lowest one first. -/
def numB : Nat → Int → List UInt8
  | 0, _ => []
  | s + 1, n => byteB n :: numB s (n / 256)
theorem numB_length : ∀ (s : Nat) (n : Int), (numB s n).length = s
  | 0, _ => rfl
  | s + 1, n => by simp [numB, numB_length s]
/-- The number that bytes are. -/
def rdN : List UInt8 → Nat
  | [] => 0
  | b :: bs => b.toNat + 256 * rdN bs
theorem rdN_lt : ∀ bs : List UInt8, rdN bs < 256 ^ bs.length
  | [] => by simp [rdN]
  | b :: bs => by
    have := rdN_lt bs
    have hb := b.toNat_lt
    simp only [rdN, List.length_cons, Nat.pow_succ]
    omega
theorem rdN_snoc : ∀ (bs : List UInt8) (b : UInt8), rdN (bs ++ [b]) = rdN bs + b.toNat * 256 ^ bs.length
  | [], b => by simp [rdN]
  | x :: bs, b => by
    simp only [List.cons_append, rdN, rdN_snoc bs b, List.length_cons, Nat.pow_succ]
    rw [Nat.mul_add, ← Nat.add_assoc, Nat.mul_comm (256 ^ _) 256, ← Nat.mul_assoc, ← Nat.mul_assoc, Nat.mul_comm 256 b.toNat]
theorem rdN_numB : ∀ (s : Nat) (n : Int), (rdN (numB s n) : Int) = n % 256 ^ s
  | 0, n => by simp [numB, rdN]
  | s + 1, n => by
    have ih := rdN_numB s (n / 256)
    have hb := byteB_toNat n
    simp only [numB, rdN, Int.natCast_add, Int.natCast_mul, ih, hb]
    rw [Int.pow_succ, Int.mul_comm (256 ^ s) 256]
    have hp : (0 : Int) < 256 ^ s := Int.pow_pos (by decide)
    have e1 := Int.emod_add_mul_ediv n 256
    have e2 := Int.emod_add_mul_ediv (n / 256) (256 ^ s)
    have h1 := Int.emod_nonneg n (show (256 : Int) ≠ 0 by decide)
    have h2 := Int.emod_lt_of_pos n (show (0 : Int) < 256 by decide)
    have h3 := Int.emod_nonneg (n / 256) (show (256 ^ s : Int) ≠ 0 by omega)
    have h4 := Int.emod_lt_of_pos (n / 256) hp
    have key : n = (n % 256 + 256 * (n / 256 % 256 ^ s)) + (256 * 256 ^ s) * (n / 256 / 256 ^ s) := by
      rw [Int.mul_assoc, Int.add_assoc, ← Int.mul_add, e2]; omega
    have hlo : 0 ≤ n % 256 + 256 * (n / 256 % 256 ^ s) := by omega
    have hhi : n % 256 + 256 * (n / 256 % 256 ^ s) < 256 * 256 ^ s := by omega
    have : n % (256 * 256 ^ s) = n % 256 + 256 * (n / 256 % 256 ^ s) := by
      conv => lhs; rw [key]
      rw [Int.add_mul_emod_self_left]
      exact Int.emod_eq_of_lt hlo hhi
    rw [this]; rfl
/-- A number of 64 bits. -/
def I64 (n : Int) : Prop := -9223372036854775808 ≤ n ∧ n < 9223372036854775808
def w64 (n : Int) : Int := (n + 9223372036854775808) % 18446744073709551616 - 9223372036854775808
theorem w64_i64 (n : Int) : I64 (w64 n) := by unfold I64 w64; omega
theorem pow8 : (256 : Int) ^ 8 = 18446744073709551616 := by decide
theorem rd8 {n : Int} (h : I64 n) : w64 (rdN (numB 8 n)) = n := by
  rw [rdN_numB, pow8]; unfold w64; unfold I64 at h; omega
theorem rd2 {n : Nat} (h : n < 65536) : rdN (numB 2 n) = n := by
  have h1 := rdN_numB 2 n
  have : (256 : Int) ^ 2 = 65536 := by decide
  rw [this] at h1
  omega
/-- What is written of a key, of a rectangle, of a sector's number. -/
def keyB (k : Key) : List UInt8 := numB 8 k.1 ++ numB 8 k.2
def rectB (r : Box) : List UInt8 := numB 2 r.a ++ numB 2 r.b ++ numB 2 r.c ++ numB 2 r.d
def secB (s : Nat) : List UInt8 := numB 2 s
def KeyOk (k : Key) : Prop := I64 k.1 ∧ I64 k.2
def RectOk (r : Box) : Prop := r.a < 65536 ∧ r.b < 65536 ∧ r.c < 65536 ∧ r.d < 65536
def SecOk (s : Nat) : Prop := s < 65536
theorem keyB_length (k : Key) : (keyB k).length = 16 := by simp [keyB, numB_length]
theorem rectB_length (r : Box) : (rectB r).length = 8 := by simp [rectB, numB_length]
theorem secB_length (s : Nat) : (secB s).length = 2 := by simp [secB, numB_length]
/-- What is read of sixteen bytes, of eight, of two. -/
def keyR (bs : List UInt8) : Key := (w64 (rdN (bs.take 8)), w64 (rdN ((bs.drop 8).take 8)))
def rectR (bs : List UInt8) : Box := ⟨rdN (bs.take 2), rdN ((bs.drop 2).take 2), rdN ((bs.drop 4).take 2), rdN ((bs.drop 6).take 2)⟩
def sctR (bs : List UInt8) : Nat := rdN (bs.take 2)
theorem keyR_ok (bs : List UInt8) : KeyOk (keyR bs) := ⟨w64_i64 _, w64_i64 _⟩
theorem rd_take2 (bs : List UInt8) : rdN (bs.take 2) < 65536 := by
  have := rdN_lt (bs.take 2)
  have h2 : (bs.take 2).length ≤ 2 := by simp; omega
  have h3 : 256 ^ (bs.take 2).length ≤ 256 ^ 2 := Nat.pow_le_pow_right (by decide) h2
  have e : (256 : Nat) ^ 2 = 65536 := by decide
  omega
theorem rectR_ok (bs : List UInt8) : RectOk (rectR bs) := ⟨rd_take2 _, rd_take2 _, rd_take2 _, rd_take2 _⟩
theorem sctR_ok (bs : List UInt8) : SecOk (sctR bs) := rd_take2 _
theorem keyR_B {k : Key} (h : KeyOk k) (t : List UInt8) : keyR (keyB k ++ t) = k := by
  have e1 : (keyB k ++ t).take 8 = numB 8 k.1 := by rw [keyB, List.append_assoc]; exact List.take_left' (numB_length ..)
  have e2 : ((keyB k ++ t).drop 8).take 8 = numB 8 k.2 := by rw [keyB, List.append_assoc, List.drop_left' (numB_length ..)]; exact List.take_left' (numB_length ..)
  unfold keyR
  rw [e1, e2, rd8 h.1, rd8 h.2]
theorem rectR_B {r : Box} (h : RectOk r) (t : List UInt8) : rectR (rectB r ++ t) = r := by
  have e0 : rectB r ++ t = numB 2 r.a ++ (numB 2 r.b ++ (numB 2 r.c ++ (numB 2 r.d ++ t))) := by simp [rectB]
  have e1 : (rectB r ++ t).take 2 = numB 2 r.a := by rw [e0]; exact List.take_left' (numB_length ..)
  have d1 : (rectB r ++ t).drop 2 = numB 2 r.b ++ (numB 2 r.c ++ (numB 2 r.d ++ t)) := by rw [e0]; exact List.drop_left' (numB_length ..)
  have d2 : (rectB r ++ t).drop 4 = numB 2 r.c ++ (numB 2 r.d ++ t) := by rw [show 4 = 2 + 2 from rfl, ← List.drop_drop, d1]; exact List.drop_left' (numB_length ..)
  have d3 : (rectB r ++ t).drop 6 = numB 2 r.d ++ t := by rw [show 6 = 4 + 2 from rfl, ← List.drop_drop, d2]; exact List.drop_left' (numB_length ..)
  unfold rectR
  rw [e1, d1, d2, d3, List.take_left' (numB_length ..), List.take_left' (numB_length ..), List.take_left' (numB_length ..), rd2 h.1, rd2 h.2.1, rd2 h.2.2.1, rd2 h.2.2.2]
theorem sctR_B {s : Nat} (h : SecOk s) (t : List UInt8) : sctR (secB s ++ t) = s := by
  unfold sctR
  rw [show (secB s ++ t).take 2 = numB 2 s from List.take_left' (numB_length ..), rd2 h]

/-- A value's bytes: how many, how written, how read. -/
structure Codec (V : Type) where
  len : Nat
  B : V → List UInt8
  R : List UInt8 → V
  ok : V → Prop
  lenB : ∀ v, (B v).length = len
  okR : ∀ bs, ok (R bs)
  back : ∀ v, ok v → ∀ t, R (B v ++ t) = v
def rectC : Codec Box := ⟨8, rectB, rectR, RectOk, rectB_length, rectR_ok, fun _ h t => rectR_B h t⟩
def secC : Codec Nat := ⟨2, secB, sctR, SecOk, secB_length, sctR_ok, fun _ h t => sctR_B h t⟩
section
variable {V : Type} (C : Codec V)
def pairB (p : Key × V) : List UInt8 := keyB p.1 ++ C.B p.2
def pairsB (r : List (Key × V)) : List UInt8 := r.flatMap (pairB C)
def pairsR : Nat → List UInt8 → List (Key × V)
  | 0, _ => []
  | n + 1, bs => (keyR bs, C.R (bs.drop 16)) :: pairsR n (bs.drop (16 + C.len))
def PairOk (p : Key × V) : Prop := KeyOk p.1 ∧ C.ok p.2
theorem pairB_length (p : Key × V) : (pairB C p).length = 16 + C.len := by simp [pairB, keyB_length, C.lenB]
theorem pairsB_length : ∀ r : List (Key × V), (pairsB C r).length = r.length * (16 + C.len)
  | [] => by simp [pairsB]
  | p :: r => by
    have := pairsB_length r
    simp only [pairsB] at this
    simp only [pairsB, List.flatMap_cons, List.length_append, pairB_length, this, List.length_cons, Nat.add_mul, Nat.one_mul]
    omega
theorem pairsR_length : ∀ (n : Nat) (bs : List UInt8), (pairsR C n bs).length = n
  | 0, _ => rfl
  | n + 1, bs => by simp [pairsR, pairsR_length n]
theorem pairsR_ok : ∀ (n : Nat) (bs : List UInt8), ∀ p ∈ pairsR C n bs, PairOk C p
  | 0, _, p, h => by simp [pairsR] at h
  | n + 1, bs, p, h => by
    rcases List.mem_cons.1 h with rfl | h
    · exact ⟨keyR_ok _, C.okR _⟩
    · exact pairsR_ok n _ p h
theorem pairsR_B : ∀ (r : List (Key × V)) (t : List UInt8), (∀ p ∈ r, PairOk C p) → pairsR C r.length (pairsB C r ++ t) = r
  | [], _, _ => rfl
  | p :: r, t, h => by
    have hp := h p List.mem_cons_self
    have e : pairsB C (p :: r) ++ t = keyB p.1 ++ (C.B p.2 ++ (pairsB C r ++ t)) := by simp [pairsB, pairB]
    have d1 : (pairsB C (p :: r) ++ t).drop 16 = C.B p.2 ++ (pairsB C r ++ t) := by rw [e]; exact List.drop_left' (keyB_length _)
    have d2 : (pairsB C (p :: r) ++ t).drop (16 + C.len) = pairsB C r ++ t := by rw [← List.drop_drop, d1]; exact List.drop_left' (C.lenB _)
    show (keyR _, C.R _) :: pairsR C r.length _ = p :: r
    rw [d2, pairsR_B r t (fun q hq => h q (List.mem_cons_of_mem _ hq)), d1, C.back _ hp.2, e, keyR_B hp.1]
theorem pairsR_snoc : ∀ (n : Nat) (bs : List UInt8), pairsR C (n + 1) bs = pairsR C n bs ++ [(keyR (bs.drop (n * (16 + C.len))), C.R (bs.drop (n * (16 + C.len) + 16)))]
  | 0, bs => by simp [pairsR]
  | n + 1, bs => by
    have e1 : 16 + C.len + n * (16 + C.len) = (n + 1) * (16 + C.len) := by rw [Nat.add_mul, Nat.one_mul]; omega
    rw [pairsR, pairsR_snoc n, List.drop_drop, List.drop_drop, e1, show 16 + C.len + (n * (16 + C.len) + 16) = (n + 1) * (16 + C.len) + 16 by omega]
    rfl
end

/-- What is written of a node; of a head. -/
def padB (bs : List UInt8) : List UInt8 := bs ++ List.replicate (256 - bs.length) 0
def rowB {V : Type} (C : Codec V) (kind : Nat) (r : List (Key × V)) : List UInt8 := padB (numB 1 kind ++ numB 1 r.length ++ pairsB C r)
def nodeB : Node Box → List UInt8
  | .leaf r => rowB rectC 1 r
  | .branch r => rowB secC 2 r
def headB (root : Nat) : List UInt8 := padB (numB 1 0 ++ numB 2 root)
/-- Nodes that stand on a disk. -/
def Stands : Node Box → Prop
  | .leaf r => 1 ≤ r.length ∧ r.length ≤ 10 ∧ Rising r ∧ ∀ p ∈ r, PairOk rectC p
  | .branch r => 2 ≤ r.length ∧ r.length ≤ 14 ∧ Rising r ∧ ∀ p ∈ r, PairOk secC p
theorem padB_length {bs : List UInt8} (h : bs.length ≤ 256) : (padB bs).length = 256 := by simp [padB]; omega
theorem num1 (n : Nat) (h : n < 256) : numB 1 n = [UInt8.ofNat n] := by
  have : ((n : Int) % 256).toNat = n := by omega
  simp [numB, byteB, this]
theorem rowB_length {V : Type} (C : Codec V) (kind : Nat) (r : List (Key × V)) (h : 2 + r.length * (16 + C.len) ≤ 256) : (rowB C kind r).length = 256 := by
  refine padB_length ?_
  simp only [List.length_append, numB_length, pairsB_length]; omega
theorem rowB_head {V : Type} (C : Codec V) (kind : Nat) (r : List (Key × V)) (hk : kind < 256) (hr : r.length < 256) : ∃ t, rowB C kind r = UInt8.ofNat kind :: UInt8.ofNat r.length :: (pairsB C r ++ t) := by
  refine ⟨List.replicate (256 - (numB 1 kind ++ numB 1 r.length ++ pairsB C r).length) 0, ?_⟩
  unfold rowB padB
  rw [num1 _ hk, num1 _ hr]
  simp
/-- A row that was written is read again. -/
theorem rowB_read {V : Type} (C : Codec V) {kind : Nat} {r : List (Key × V)} (hk : kind < 256) (hr : r.length < 256) (h : ∀ p ∈ r, PairOk C p) : pairsR C r.length ((rowB C kind r).drop 2) = r ∧ (rowB C kind r)[0]? = some (UInt8.ofNat kind) ∧ (rowB C kind r)[1]? = some (UInt8.ofNat r.length) := by
  obtain ⟨t, e⟩ := rowB_head C kind r hk hr
  rw [e]
  exact ⟨pairsR_B C r t h, rfl, rfl⟩
theorem ofNat_inj {a b : Nat} (ha : a < 256) (hb : b < 256) (h : UInt8.ofNat a = UInt8.ofNat b) : a = b := by
  have := congrArg UInt8.toNat h
  simpa [Nat.mod_eq_of_lt ha, Nat.mod_eq_of_lt hb] using this
theorem rowB_inj {V : Type} (C : Codec V) {kind : Nat} {r r' : List (Key × V)} (hk : kind < 256) (hr : r.length < 256) (hr' : r'.length < 256) (h : ∀ p ∈ r, PairOk C p) (h' : ∀ p ∈ r', PairOk C p) (e : rowB C kind r = rowB C kind r') : r = r' := by
  obtain ⟨a1, a2, a3⟩ := rowB_read C (kind := kind) hk hr h
  obtain ⟨b1, b2, b3⟩ := rowB_read C (kind := kind) hk hr' h'
  rw [← e] at b1 b3
  have : r.length = r'.length := ofNat_inj hr hr' (Option.some.inj (a3.symm.trans b3))
  rw [← this] at b1
  exact a1.symm.trans b1
theorem nodeB_length {n : Node Box} (h : Stands n) : (nodeB n).length = 256 := by
  cases n with
  | leaf r => exact rowB_length rectC 1 r (by have := h.2.1; show 2 + r.length * 24 ≤ 256; omega)
  | branch r => exact rowB_length secC 2 r (by have := h.2.1; show 2 + r.length * 18 ≤ 256; omega)
theorem nodeB_inj {n n' : Node Box} (h : Stands n) (h' : Stands n') (e : nodeB n = nodeB n') : n = n' := by
  cases n with
  | leaf r =>
    cases n' with
    | leaf r' => rw [rowB_inj rectC (kind := 1) (by decide) (by have := h.2.1; omega) (by have := h'.2.1; omega) h.2.2.2 h'.2.2.2 e]
    | branch r' =>
      have a := (rowB_read rectC (kind := 1) (by decide) (by have := h.2.1; omega) h.2.2.2).2.1
      have b := (rowB_read secC (kind := 2) (by decide) (by have := h'.2.1; omega) h'.2.2.2).2.1
      simp only [nodeB] at e
      rw [e, b] at a; simp at a
  | branch r =>
    cases n' with
    | leaf r' =>
      have a := (rowB_read secC (kind := 2) (by decide) (by have := h.2.1; omega) h.2.2.2).2.1
      have b := (rowB_read rectC (kind := 1) (by decide) (by have := h'.2.1; omega) h'.2.2.2).2.1
      simp only [nodeB] at e
      rw [e, b] at a; simp at a
    | branch r' => rw [rowB_inj secC (kind := 2) (by decide) (by have := h.2.1; omega) (by have := h'.2.1; omega) h.2.2.2 h'.2.2.2 e]
theorem headB_length (root : Nat) : (headB root).length = 256 := padB_length (by simp only [List.length_append, numB_length]; decide)
theorem headB_root {root : Nat} (h : root < 65536) : rdN (((headB root).drop 1).take 2) = root := by
  have e : headB root = numB 1 0 ++ (numB 2 root ++ List.replicate (256 - (numB 1 0 ++ numB 2 root).length) 0) := by unfold headB padB; rw [List.append_assoc]
  rw [e, List.drop_left' (numB_length ..), List.take_left' (numB_length ..), rd2 h]
theorem headB_zero : headB 0 = List.replicate 256 0 := by
  have e : numB 1 0 ++ numB 2 ((0 : Nat) : Int) = List.replicate 3 0 := by decide
  unfold headB padB
  rw [e, List.length_replicate, List.replicate_append_replicate]
open Classical in
/-- The node that bytes are. -/
noncomputable def nodeOf (bs : List UInt8) : Option (Node Box) := if h : ∃ n, Stands n ∧ nodeB n = bs then some h.choose else none
theorem nodeOf_B {n : Node Box} (h : Stands n) : nodeOf (nodeB n) = some n := by
  have hx : ∃ m, Stands m ∧ nodeB m = nodeB n := ⟨n, h, rfl⟩
  unfold nodeOf
  rw [dif_pos hx, nodeB_inj hx.choose_spec.1 h hx.choose_spec.2]
theorem nodeOf_some {bs : List UInt8} {n : Node Box} (h : nodeOf bs = some n) : Stands n ∧ nodeB n = bs := by
  unfold nodeOf at h
  split at h
  · rename_i g; cases h; exact g.choose_spec
  · cases h
theorem nodeOf_none {bs : List UInt8} (h : ∀ n, Stands n → nodeB n ≠ bs) : nodeOf bs = none := by
  unfold nodeOf
  rw [dif_neg]
  rintro ⟨n, h1, h2⟩
  exact h n h1 h2
theorem nodeOf_leaf_yes {bs : List UInt8} {c : Nat} (hc : c ≤ 10) (h1 : 1 ≤ c) (h2 : Rising (pairsR rectC c (bs.drop 2))) (h3 : nodeB (.leaf (pairsR rectC c (bs.drop 2))) = bs) : nodeOf bs = some (.leaf (pairsR rectC c (bs.drop 2))) := by
  have hs : Stands (.leaf (pairsR rectC c (bs.drop 2))) := ⟨by rw [pairsR_length]; exact h1, by rw [pairsR_length]; exact hc, h2, pairsR_ok rectC c _⟩
  have := nodeOf_B hs
  rwa [h3] at this
theorem nodeOf_branch_yes {bs : List UInt8} {c : Nat} (hc : c ≤ 14) (h1 : 2 ≤ c) (h2 : Rising (pairsR secC c (bs.drop 2))) (h3 : nodeB (.branch (pairsR secC c (bs.drop 2))) = bs) : nodeOf bs = some (.branch (pairsR secC c (bs.drop 2))) := by
  have hs : Stands (.branch (pairsR secC c (bs.drop 2))) := ⟨by rw [pairsR_length]; exact h1, by rw [pairsR_length]; exact hc, h2, pairsR_ok secC c _⟩
  have := nodeOf_B hs
  rwa [h3] at this
/-- What a node's bytes say of it. -/
theorem nodeB_says {bs : List UInt8} {n : Node Box} (h : Stands n) (e : nodeB n = bs) :
    (∃ r, n = .leaf r ∧ bs[0]? = some 1 ∧ bs[1]? = some (UInt8.ofNat r.length) ∧ r.length ≤ 10 ∧ 1 ≤ r.length ∧ pairsR rectC r.length (bs.drop 2) = r) ∨
    (∃ r, n = .branch r ∧ bs[0]? = some 2 ∧ bs[1]? = some (UInt8.ofNat r.length) ∧ r.length ≤ 14 ∧ 2 ≤ r.length ∧ pairsR secC r.length (bs.drop 2) = r) := by
  subst e
  cases n with
  | leaf r =>
    obtain ⟨a1, a2, a3⟩ := rowB_read rectC (kind := 1) (by decide) (by have := h.2.1; omega) h.2.2.2
    exact .inl ⟨r, rfl, a2, a3, h.2.1, h.1, a1⟩
  | branch r =>
    obtain ⟨a1, a2, a3⟩ := rowB_read secC (kind := 2) (by decide) (by have := h.2.1; omega) h.2.2.2
    exact .inr ⟨r, rfl, a2, a3, h.2.1, h.1, a1⟩
end Go.Proofs.YtdgbgmffpcooeaaGreat
end
