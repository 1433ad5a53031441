/- What the program's disk answers: has, fails, spend, settle, Steps, Break, Flush, Read. -/
import Derived.Test.YtdgbgmffpcooeaaPk1
namespace Go.Proofs.Ytdgbgmffpcooeaa
open Go.RowKit Go.Lib Go.Maps

def PS.brk (s : PS) : Bool := s.broken || decide (s.left = 0)
def PS.asked (s : PS) : PS := { s with broken := s.brk }
def PS.spent (s : PS) : PS := { s with left := if 0 < s.left then s.left - 1 else s.left }
def PS.settled (s : PS) : PS := { s with old := fun _ => none }

set_option maxHeartbeats 1000000 in
theorem phas_any (w : World) (base : Nat) (A : PA) (s : PS) (h : PD w base A s) (i : Int) :
    Calls Try.prog 77 #[.pointer (some ⟨A.q, 0, none⟩), .int .i64 i] w fun e w' => e = .returned (.bool (decide (0 ≤ i ∧ i < (s.n : Int)))) ∧ w' = w := by
  obtain ⟨c0, c1, c2, c3, c4⟩ := h.cells
  by_cases h1 : 0 ≤ i
  · by_cases h2 : i < (s.n : Int)
    · go_enter Try.func77, Try.ntmps77
      go_wp2
      go_ret
      exact ⟨ret_bool (by simp [h1, h2]), rfl⟩
    · have t2 : decide (i < (s.n : Int)) = false := by simp; omega
      go_enter Try.func77, Try.ntmps77
      go_wp2
      go_ret
      exact ⟨ret_bool (by simp), rfl⟩
  · have t1 : decide (0 ≤ i) = false := by simp; omega
    go_enter Try.func77, Try.ntmps77
    go_wp2
    go_ret
    exact ⟨ret_bool (by simp), rfl⟩

set_option maxHeartbeats 1000000 in
theorem pfails_any (w : World) (base : Nat) (A : PA) (s : PS) (h : PD w base A s) :
    Calls Try.prog 78 #[.pointer (some ⟨A.q, 0, none⟩)] w fun e w' => e = .returned (.bool s.brk) ∧ PD w' base A s.asked ∧ Off A.F w w' := by
  obtain ⟨c0, c1, c2, c3, c4⟩ := h.cells
  have f3 : w.frozen? ⟨A.q, 3, none⟩ = false := h.blkQ.frozen 3
  by_cases hl : s.left = 0
  · have hb : s.brk = true := by unfold PS.brk; simp [hl]
    have hR : PD (w.setCell ⟨A.q, 3, none⟩ (.bool true)) base A s.asked := h.cell 3 (.bool true) rfl rfl rfl (Int.le_refl _) (by unfold PS.asked; rw [hb]; rfl)
    rw [hl] at c2
    go_enter Try.func78, Try.ntmps78
    go_wp2
    go_ret
    exact ⟨ret_bool hb.symm, hR, (Off.refl _ _).setCell _ (.inl (.inr (.inl rfl)))⟩
  · have t1 : (s.left == 0) = false := by simp; omega
    have hb : s.brk = s.broken := by unfold PS.brk; simp [hl]
    have hs : s.asked = s := by unfold PS.asked; rw [hb]
    have HB : Hid (s.brk = s.broken) := hb
    have HS : Hid (s.asked = s) := hs
    clear hb hs
    go_enter Try.func78, Try.ntmps78
    go_wp2
    go_ret
    exact ⟨ret_bool HB.out.symm, by rw [HS.out]; exact h, Off.refl _ _⟩

set_option maxHeartbeats 1000000 in
theorem pspend_any (w : World) (base : Nat) (A : PA) (s : PS) (h : PD w base A s) (hlf : -1 ≤ s.left ∧ s.left ≤ 9223372036854775807) :
    Calls Try.prog 79 #[.pointer (some ⟨A.q, 0, none⟩)] w fun e w' => e = .returned (.tuple #[]) ∧ PD w' base A s.spent ∧ Off A.F w w' := by
  obtain ⟨c0, c1, c2, c3, c4⟩ := h.cells
  have f2 : w.frozen? ⟨A.q, 2, none⟩ = false := h.blkQ.frozen 2
  by_cases hl : 0 < s.left
  · have hs : s.spent = { s with left := s.left - 1 } := by unfold PS.spent; rw [if_pos hl]
    have hR : PD (w.setCell ⟨A.q, 2, none⟩ (.int .i64 (s.left - 1))) base A s.spent := h.cell 2 (.int .i64 (s.left - 1)) (by rw [hs]) (by rw [hs]) (by rw [hs]) (by rw [hs]; exact Int.le_refl _) (by rw [hs]; rfl)
    have HS : Hid (s.spent = { s with left := s.left - 1 }) := hs
    clear hs
    go_enter Try.func79, Try.ntmps79
    go_wp2
    refine bodyPost_end (v := .tuple #[]) (by simp [results, Try.results79]) rfl ⟨rfl, hR, (Off.refl _ _).setCell _ (.inl (.inr (.inl rfl)))⟩
  · have t1 : decide (0 < s.left) = false := by simp; omega
    have hs : s.spent = s := by unfold PS.spent; rw [if_neg hl]
    have HS : Hid (s.spent = s) := hs
    clear hs
    go_enter Try.func79, Try.ntmps79
    go_wp2
    refine bodyPost_end (v := .tuple #[]) (by simp [results, Try.results79]) rfl ⟨rfl, by rw [HS.out]; exact h, Off.refl _ _⟩

theorem MapIs.empty (n : Nat) : MapIs (.map []) (fun _ => none) n := ⟨fun i _ => (by simp [Maps.has]), fun i b _ h => (by cases h), fun k h => (by simp [Maps.has] at h), fun i b _ h => (by cases h)⟩

set_option maxHeartbeats 1000000 in
theorem psettle_any (w : World) (base : Nat) (A : PA) (s : PS) (h : PD w base A s) (hst : 0 ≤ s.steps) :
    Calls Try.prog 82 #[.pointer (some ⟨A.q, 0, none⟩)] w fun e w' => e = .returned (.tuple #[]) ∧ PD w' base { A with m := w.heap.size } s.settled ∧ Off A.F w w' := by
  obtain ⟨a1, a2, a3, a4, a5, a6⟩ := h.apart
  obtain ⟨c0, c1, c2, c3, c4⟩ := h.cells
  have hbl := h.blkQ.lt
  have f1 : w.frozen? ⟨A.q, 1, none⟩ = false := h.blkQ.frozen 1
  have hmm := @run_makeMap Try.prog
  have hR : PD ((w.setCell ⟨A.q, 1, none⟩ (.map (some w.heap.size))).alloc (.map #[] 0)) base { A with m := w.heap.size } s.settled := by
    have ho : Off (fun k => k = A.q) w ((w.setCell ⟨A.q, 1, none⟩ (.map (some w.heap.size))).alloc (.map #[] 0)) := (Off.one (i := 1) (B := A.q) w (.map (some w.heap.size))).alloc _
    obtain ⟨l1, l2, l3, l4⟩ := h.le
    refine ⟨⟨l1, l2, l3, by simp only; omega⟩, h.blkP.off ho a1, (h.blkQ.set 1 _).alloc _, h.sec.off ho a2, ⟨0, .map [], ?_, hst, MapIs.empty _⟩, h.n1, h.n2⟩
    have := World.ownsMap_made (H := Unit) (w.setCell ⟨A.q, 1, none⟩ (.map (some w.heap.size))) Try.prog 3 secR
    simpa using this
  go_enter Try.func82, Try.ntmps82
  go_wp2
  refine bodyPost_end (v := .tuple #[]) (by simp [results, Try.results82]) rfl ⟨rfl, hR, ((Off.refl _ _).setCell _ (.inl (.inr (.inl rfl)))).alloc _⟩

set_option maxHeartbeats 1000000 in
theorem psteps_any (w : World) (base : Nat) (A : PA) (s : PS) (h : PD w base A s) :
    Calls Try.prog 68 #[.pointer (some ⟨A.q, 0, none⟩)] w fun e w' => e = .returned (.int .i64 s.steps) ∧ w' = w := by
  obtain ⟨c0, c1, c2, c3, c4⟩ := h.cells
  go_enter Try.func68, Try.ntmps68
  go_wp2
  go_ret
  exact ⟨rfl, rfl⟩

def PS.break_ (s : PS) (n : Int) : Int × PS := if n < 0 then (5, s) else (0, { s with left := n })
set_option maxHeartbeats 1000000 in
theorem pbreak_any (w : World) (base : Nat) (A : PA) (s : PS) (h : PD w base A s) (n : Int) :
    Calls Try.prog 71 #[.pointer (some ⟨A.q, 0, none⟩), .int .i64 n] w fun e w' => e = .returned (.int .i64 (s.break_ n).1) ∧ PD w' base A (s.break_ n).2 ∧ Off A.F w w' := by
  obtain ⟨c0, c1, c2, c3, c4⟩ := h.cells
  have f2 : w.frozen? ⟨A.q, 2, none⟩ = false := h.blkQ.frozen 2
  by_cases h1 : n < 0
  · have e : s.break_ n = (5, s) := by unfold PS.break_; rw [if_pos h1]
    rw [e]
    go_enter Try.func71, Try.ntmps71
    go_wp2
    go_ret
    exact ⟨rfl, h, Off.refl _ _⟩
  · have e : s.break_ n = (0, { s with left := n }) := by unfold PS.break_; rw [if_neg h1]
    rw [e]
    have hR := h.cell 2 (.int .i64 n) (s' := { s with left := n }) rfl rfl rfl (Int.le_refl _) rfl
    go_enter Try.func71, Try.ntmps71
    go_wp2
    go_ret
    exact ⟨rfl, hR, (Off.refl _ _).setCell _ (.inl (.inr (.inl rfl)))⟩

def PS.flush (s : PS) : Int × PS := if s.brk then (4, s.asked) else (0, s.asked.spent.settled)
set_option maxHeartbeats 1000000 in
theorem pflush_any (w : World) (base : Nat) (A : PA) (s : PS) (h : PD w base A s) (hst : 0 ≤ s.steps) (hlf : -1 ≤ s.left ∧ s.left ≤ 9223372036854775807) :
    Calls Try.prog 70 #[.pointer (some ⟨A.q, 0, none⟩)] w fun e w' => ∃ A' : PA, e = .returned (.int .i64 s.flush.1) ∧ PD w' base A' s.flush.2 ∧ Off A.F w w' ∧ A'.p = A.p ∧ ∀ k, A'.F k → A.F k ∨ w.heap.size ≤ k := by
  have hcon := pfails_any w base A s h
  cases hb : s.brk with
  | true =>
    have e : s.flush = (4, s.asked) := by unfold PS.flush; rw [hb]; rfl
    rw [e]
    rw [hb] at hcon
    go_enter Try.func70, Try.ntmps70
    go_wp2_with (go_at_call 78; refine hcon.mono ?_; rintro e w1 ⟨rfl, hR, ho⟩)
    go_ret
    exact ⟨A, rfl, hR, ho, rfl, fun k hk => .inl hk⟩
  | false =>
    have e : s.flush = (0, s.asked.spent.settled) := by unfold PS.flush; rw [hb]; rfl
    rw [e]
    rw [hb] at hcon
    go_enter Try.func70, Try.ntmps70
    go_wp2_with (first
      | (go_at_call 78; refine hcon.mono ?_; rintro e w1 ⟨rfl, hR, ho⟩)
      | (go_at_call 79; refine (pspend_any w1 base A s.asked hR hlf).mono ?_; rintro e w2 ⟨rfl, hR2, ho2⟩)
      | (go_at_call 82; refine (psettle_any w2 base A s.asked.spent hR2 hst).mono ?_; rintro e w3 ⟨rfl, hR3, ho3⟩))
    go_ret
    refine ⟨{ A with m := w2.heap.size }, rfl, hR3, (ho.trans ho2).trans ho3, rfl, fun k hk => ?_⟩
    have := (ho.trans ho2).size
    rcases hk with rfl | rfl | rfl | rfl
    · exact .inl (.inl rfl)
    · exact .inl (.inr (.inl rfl))
    · exact .inl (.inr (.inr (.inl rfl)))
    · exact .inr this
end Go.Proofs.Ytdgbgmffpcooeaa
