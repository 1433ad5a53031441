/- N1S -/
import Derived.Test.YtdgbgmffpcooeaaGreatC10
section
/- What branches answer (made by genn.py from what leaves do). -/
namespace Go.Proofs.YtdgbgmffpcooeaaGreat
open Go.RowKit Go.Lib

set_option maxHeartbeats 1000000 in
theorem poorB_any (w : World) (v : Value) (r : List (Key × Nat)) (h : RowS w v r) :
    Calls Tryz.prog 272 #[.agg #[v]] w fun e w' => e = .returned (.bool (Node.branch r : Node Box).poor) ∧ Below w.heap.size w w' := by
  obtain ⟨a, c, rfl, hn, hc⟩ := h.len pkS
  have e : (Node.branch r : Node Box).poor = decide ((r.length : Int) < 7) := decide_eq_decide.2 (by simp only [Node.size, Node.most]; omega)
  rw [e]
  clear e h
  go_enter Tryz.func272, Tryz.ntmps272
  go_wp2
  go_ret
  exact ⟨ret_bool (decide_eq_decide.2 (by omega)), (Below.refl _ _).alloc (Nat.le_refl _) _⟩
open Classical in
set_option maxHeartbeats 1000000 in
theorem soundB_any (w : World) (v : Value) (r : List (Key × Nat)) (h : RowS w v r) :
    Calls Tryz.prog 273 #[.agg #[v]] w fun e w' => e = .returned (.bool (decide (1 < r.length ∧ Rising r))) ∧ Below w.heap.size w w' := by
  obtain ⟨a, c, rfl, hn, hc⟩ := h.len pkS
  have hb0 : Below w.heap.size w (w.alloc (.cells #[.slice a r.length c] 214)) := (Below.refl _ _).alloc (Nat.le_refl _) _
  have hcon := risingS_any _ _ r (h.below pkS hb0)
  by_cases h0 : 1 < r.length
  · have h0' : (1 : Int) < (r.length : Int) := by omega
    have e : decide (1 < r.length ∧ Rising r) = decide (Rising r) := by simp [h0]
    rw [e]
    generalize decide (Rising r) = f at hcon ⊢
    clear e h
    go_enter Tryz.func273, Tryz.ntmps273
    go_wp2_with (go_at_call 268; refine hcon.mono ?_; rintro e w1 ⟨rfl, hb1⟩)
    go_ret
    exact ⟨rfl, hb0.trans (hb1.mono (by simp))⟩
  · have e : decide (1 < r.length ∧ Rising r) = false := by simp [h0]
    have t0 : decide ((1 : Int) < (r.length : Int)) = false := decide_eq_false (by omega)
    have t1 : decide (1 < r.length) = false := decide_eq_false (by omega)
    rw [e]
    clear e h hcon
    go_enter Tryz.func273, Tryz.ntmps273
    go_wp2
    go_ret
    exact ⟨rfl, hb0⟩
set_option maxHeartbeats 1000000 in
theorem asB_any (w : World) (a : Option Addr) (n c : Nat) :
    Calls Tryz.prog 277 #[.slice a n c] w fun e w' => e = .returned (.iface 214 (.agg #[.slice a n c])) ∧ w' = w := by
  go_enter Tryz.func277, Tryz.ntmps277
  go_wp2
  go_ret
  exact ⟨rfl, rfl⟩
set_option maxRecDepth 100000 in
set_option maxHeartbeats 2000000 in
theorem partsB_any (w : World) (v : Value) (r : List (Key × Nat)) (h : RowS w v r) (hr : r.length ≤ 1000) :
    Calls Tryz.prog 276 #[v, .int .i64 14, .func (.func 277) #[] #[]] w fun e w' => ∃ pv, e = .returned pv ∧ PartsV w' pv (Node.branch r : Node Box).parts ∧ Below w.heap.size w w' := by
  rcases h with ⟨rfl, rfl⟩ | ⟨b, o, c, cur, rfl, h2, h3, h4, h5⟩
  · go_enter Tryz.func276, Tryz.ntmps276
    go_wp2
    go_ret
    exact ⟨_, rfl, .inl ⟨by simp [Node.parts, Node.size], rfl⟩, Below.refl _ _⟩
  · have hrow : RowS w (.slice (some ⟨b, o, none⟩) r.length c) r := .inr ⟨b, o, c, cur, rfl, h2, h3, h4, h5⟩
    unfold maxLen at h3
    have hps : ∀ n, r.length = n → (Node.branch r : Node Box).parts = if n = 0 then [] else if n ≤ 14 then [.branch r] else [.branch (r.take (n / 2)), .branch (r.drop (n / 2))] := fun n hn => by subst hn; rfl
    have h1s : RowS w (.slice (some ⟨b, o, none⟩) (r.length / 2) c) (r.take (r.length / 2)) := hrow.take pkS (by omega)
    have h2s : RowS w (.slice (some ⟨b, o + r.length / 2 * 3, none⟩) (r.length - r.length / 2) (c - r.length / 2)) (r.drop (r.length / 2)) := hrow.drop pkS (by omega)
    have hps := hps _ rfl
    obtain ⟨n, hn⟩ : ∃ n, r.length = n := ⟨_, rfl⟩
    rw [hn] at hrow h1s h2s hps hr h2 ⊢
    clear hn h4 h5
    have hb0 : ∀ o, Below w.heap.size w (w.alloc o) := fun o => (Below.refl _ _).alloc (Nat.le_refl _) _
    by_cases h0 : n = 0
    · rw [if_pos h0] at hps
      rw [hps]
      subst h0
      clear hps hrow h1s h2s
      go_enter Tryz.func276, Tryz.ntmps276
      go_wp2
      go_ret
      exact ⟨_, rfl, .inl ⟨rfl, rfl⟩, Below.refl _ _⟩
    · have t0' : ((n : Int) == 0) = false := by simp; omega
      rw [if_neg h0] at hps
      by_cases h1 : n ≤ 14
      · rw [if_pos h1] at hps
        rw [hps]
        have h1' : (n : Int) ≤ 14 := by omega
        have hrow2 := hrow.below pkS (hb0 (.cells #[.iface 214 (.agg #[.slice (some ⟨b, o, none⟩) n c])] 175))
        clear hps hrow h1s h2s
        go_enter Tryz.func276, Tryz.ntmps276
        go_wp2_with (first | (go_at_call 277; refine (asB_any _ _ _ _).mono ?_; rintro e w' ⟨rfl, rfl⟩) | (go_at_fn 277; refine (asB_any _ _ _ _).mono ?_; rintro e w' ⟨rfl, rfl⟩))
        go_ret
        exact ⟨_, rfl, .inr (.inl ⟨_, _, _, rfl, rfl, Blk.new _ 175 _, ⟨_, rfl, hrow2⟩⟩), hb0 _⟩
      · have h1' : decide ((n : Int) ≤ 14) = false := decide_eq_false (by omega)
        have h1'' : decide (n ≤ 14) = false := decide_eq_false (by omega)
        rw [if_neg h1] at hps
        rw [hps]
        obtain ⟨m, hm⟩ : ∃ m, n / 2 = m := ⟨_, rfl⟩
        rw [hm] at h1s h2s ⊢
        have q1 : ((n : Int)).tdiv 2 = (m : Int) := by rw [Int.tdiv_eq_ediv_of_nonneg (by omega)]; omega
        have q2 : ((n : Int)) / 2 = (m : Int) := by omega
        have q3 : (m : Int) ≤ (c : Int) := by omega
        have q4 : (m : Int) ≤ (n : Int) := by omega
        have hcm : ¬ c = m := by omega
        have hb1 : ∀ o, Below w.heap.size w (w.alloc o).drew := fun o => (hb0 o).drew
        have r1 := h1s.below pkS (hb1 (.cells #[.iface 214 (.agg #[.slice (some ⟨b, o, none⟩) m c]), .iface 214 (.agg #[.slice (some ⟨b, o + m * 3, none⟩) (n - m) (c - m)])] 175))
        have r2 := h2s.below pkS (hb1 (.cells #[.iface 214 (.agg #[.slice (some ⟨b, o, none⟩) m c]), .iface 214 (.agg #[.slice (some ⟨b, o + m * 3, none⟩) (n - m) (c - m)])] 175))
        clear hps hrow hm h1s h2s
        go_enter Tryz.func276, Tryz.ntmps276
        go_wp2
        go_region_held3 (fun _ => True) (trivial)
          (first
            | (go_at_call 277; refine (asB_any _ _ _ _).mono ?_; rintro e w' ⟨rfl, rfl⟩)
            | (go_at_fn 277; refine (asB_any _ _ _ _).mono ?_; rintro e w' ⟨rfl, rfl⟩))
        go_wp2
        go_ret
        exact ⟨_, rfl, .inr (.inr ⟨_, _, _, _, _, rfl, rfl, (Blk.new _ 175 _).drew, ⟨_, rfl, r1⟩, ⟨_, rfl, r2⟩⟩), hb1 _⟩
set_option maxHeartbeats 1000000 in
theorem bparts_any (w : World) (v : Value) (r : List (Key × Nat)) (h : RowS w v r) (hr : r.length ≤ 1000) :
    Calls Tryz.prog 271 #[.agg #[v]] w fun e w' => ∃ pv, e = .returned pv ∧ PartsV w' pv (Node.branch r : Node Box).parts ∧ Below w.heap.size w w' := by
  obtain ⟨a, c, rfl, hn, hc⟩ := h.len pkS
  have hb0 : Below w.heap.size w (w.alloc (.cells #[.slice a r.length c] 214)) := (Below.refl _ _).alloc (Nat.le_refl _) _
  have hcon := partsB_any _ _ r (h.below pkS hb0) hr
  clear h
  go_enter Tryz.func271, Tryz.ntmps271
  go_wp2_with (go_at_call 276; refine hcon.mono ?_; rintro e w1 ⟨pv, rfl, hp, hb1⟩)
  go_ret
  exact ⟨_, rfl, hp, hb0.trans (hb1.mono (by simp))⟩
set_option maxRecDepth 100000 in
set_option maxHeartbeats 1000000 in
theorem bjoin_any (w : World) (v u : Value) (r q : List (Key × Nat)) (h : RowS w v r) (hu : RowS w u q) (hr : r.length ≤ 1000) (hq : q.length ≤ 1000) :
    Calls Tryz.prog 270 #[.agg #[v], .iface 214 (.agg #[u])] w fun e w' => ∃ v', e = .returned (.iface 214 (.agg #[v'])) ∧ RowS w' v' (r ++ q) ∧ Below w.heap.size w w' := by
  obtain ⟨a, c, rfl, hn, hc⟩ := h.len pkS
  obtain ⟨a', c', rfl, hn', hc'⟩ := hu.len pkS
  have hb0 : Below w.heap.size w ((w.alloc (.cells #[.slice a r.length c] 214)).alloc (.cells #[.slice a' q.length c'] 214)) := ((Below.refl _ _).alloc (Nat.le_refl _) _).alloc (by simp) _
  have hcon := swapS_any _ _ r (h.below pkS hb0) r.length r.length (Nat.le_refl _) (Nat.le_refl _) _ q (Src.of_row (hu.below pkS hb0) prC_one) hr hq
  rw [List.take_length, List.drop_length, List.append_nil] at hcon
  have hta := fun x w => ta_bb x w
  clear h hu
  go_enter Tryz.func270, Tryz.ntmps270
  go_wp2_with (go_at_call 211; refine hcon.mono ?_; rintro e w1 ⟨v', rfl, hp, hb1⟩; obtain ⟨a2, c2, rfl, _, _⟩ := hp.len pkS)
  go_ret
  exact ⟨_, rfl, (by rw [List.length_append] at hp; exact hp), hb0.trans (hb1.mono (by simp; omega))⟩
set_option maxRecDepth 100000 in
set_option maxHeartbeats 1000000 in
theorem under_any (w : World) (v : Value) (r : List (Key × Nat)) (h : RowS w v r) (hr : Rising r) (hl : r.length ≤ 999) (k : Key) :
    Calls Tryz.prog 152 #[.agg #[v], keyV k] w fun e w' => e = .returned (.int .i64 (undr k r : Int)) ∧ Below w.heap.size w w' := by
  obtain ⟨a, c, rfl, hn, hc⟩ := h.len pkS
  have hb0 : Below w.heap.size w ((w.alloc (.cells #[.slice a r.length c] 214)).alloc (.cells #[.int .i64 k.1, .int .i64 k.2] 154)) := ((Below.refl _ _).alloc (Nat.le_refl _) _).alloc (by simp) _
  have hfind := findS_any _ _ r (h.below pkS hb0) hr k
  have hle := lbn_le k r
  have hu : undr k r = if fnd k r then lbn k r else lbn k r - 1 := rfl
  rw [hu]
  generalize lbn k r = i at hfind hle ⊢
  clear h hu
  cases hf : fnd k r with
  | true =>
    rw [hf] at hfind
    rw [if_pos rfl]
    go_enter Tryz.func152, Tryz.ntmps152
    go_wp2_with (go_at_call 189; refine hfind.mono ?_; rintro e w1 ⟨rfl, hb1⟩)
    go_ret
    exact ⟨rfl, hb0.trans (hb1.mono (by simp; omega))⟩
  | false =>
    rw [hf] at hfind
    rw [if_neg (by simp)]
    by_cases h0 : 0 < i
    · have h0' : (0 : Int) < (i : Int) := by omega
      have hwr : wrap64 ((i : Int) - 1) = ((i - 1 : Nat) : Int) := by unfold wrap64; omega
      go_enter Tryz.func152, Tryz.ntmps152
      go_wp2_with (go_at_call 189; refine hfind.mono ?_; rintro e w1 ⟨rfl, hb1⟩)
      go_ret
      exact ⟨ret_int (by first | rfl | exact hwr | omega), hb0.trans (hb1.mono (by simp; omega))⟩
    · obtain rfl : i = 0 := by omega
      go_enter Tryz.func152, Tryz.ntmps152
      go_wp2_with (go_at_call 189; refine hfind.mono ?_; rintro e w1 ⟨rfl, hb1⟩)
      go_ret
      exact ⟨rfl, hb0.trans (hb1.mono (by simp; omega))⟩
end Go.Proofs.YtdgbgmffpcooeaaGreat
end
