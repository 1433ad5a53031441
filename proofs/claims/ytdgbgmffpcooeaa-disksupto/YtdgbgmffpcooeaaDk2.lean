/- What the document's disk answers: breaks, Read, Write, Break, Steps. -/
import Derived.Test.YtdgbgmffpcooeaaDk1
namespace Go.Proofs.Ytdgbgmffpcooeaa
open Go.RowKit

def RS.brk (s : RS) : Bool := s.broken || (s.counts && decide (s.left ≤ 0))
def RS.asked (s : RS) : RS := { s with broken := s.brk }

theorem RD.cells {W : World} {base : Nat} {A : RA} {s : RS} (h : RD W base A s) : W.cell? ⟨A.r, 0, none⟩ = some (.slice (some ⟨A.sa, 0, none⟩) s.n A.cs) ∧ W.cell? ⟨A.r, 1, none⟩ = some (.slice (some ⟨A.no, 0, none⟩) s.n A.cn) ∧ W.cell? ⟨A.r, 2, none⟩ = some (.slice (some ⟨A.di, 0, none⟩) s.n A.cd) ∧ W.cell? ⟨A.r, 3, none⟩ = some (.bool s.broken) ∧ W.cell? ⟨A.r, 4, none⟩ = some (.bool s.counts) ∧ W.cell? ⟨A.r, 5, none⟩ = some (.int .i64 s.left) ∧ W.cell? ⟨A.r, 6, none⟩ = some (.int .i64 s.steps) :=
  ⟨h.blk.cell 0, h.blk.cell 1, h.blk.cell 2, h.blk.cell 3, h.blk.cell 4, h.blk.cell 5, h.blk.cell 6⟩

set_option maxRecDepth 100000 in
set_option maxHeartbeats 1000000 in
theorem breaks_any (w : World) (base : Nat) (A : RA) (s : RS) (h : RD w base A s) :
    Calls Try.prog 66 #[.pointer (some ⟨A.r, 0, none⟩)] w fun e w' => e = .returned (.bool s.brk) ∧ RD w' base A s.asked ∧ Off A.F w w' := by
  obtain ⟨c0, c1, c2, c3, c4, c5, c6⟩ := h.cells
  have f3 : w.frozen? ⟨A.r, 3, none⟩ = false := h.blk.frozen 3
  have hlt := h.blk.lt
  cases hc : s.counts with
  | false =>
    rw [hc] at c4
    have hb : s.brk = s.broken := by unfold RS.brk; rw [hc]; simp
    have hs : s.asked = s := by unfold RS.asked; rw [hb]
    go_enter Try.func66, Try.ntmps66
    go_wp2
    go_ret
    exact ⟨ret_bool hb.symm, by rw [hs]; exact h, Off.refl _ _⟩
  | true =>
    rw [hc] at c4
    by_cases hl : s.left ≤ 0
    · have hb : s.brk = true := by unfold RS.brk; rw [hc]; simp [hl]
      have hR : RD (w.setCell ⟨A.r, 3, none⟩ (.bool true)) base A s.asked := h.cell 3 (.bool true) rfl rfl rfl rfl (by unfold RS.asked; rw [hb]; rfl)
      go_enter Try.func66, Try.ntmps66
      go_wp2
      go_ret
      exact ⟨ret_bool hb.symm, hR, (Off.refl _ _).setCell _ (.inl (.inl rfl))⟩
    · have hl' : decide (s.left ≤ 0) = false := by simp; omega
      have hb : s.brk = s.broken := by unfold RS.brk; rw [hl']; simp
      have hs : s.asked = s := by unfold RS.asked; rw [hb]
      have HB : Hid (s.brk = s.broken) := hb
      have HS : Hid (s.asked = s) := hs
      clear hb hs
      go_enter Try.func66, Try.ntmps66
      go_wp2
      go_ret
      exact ⟨ret_bool HB.out.symm, by rw [HS.out]; exact h, Off.refl _ _⟩

/-- What Read answers, and leaves. -/
def RS.read (s : RS) (i : Int) : ByteArray × Int × RS :=
  if i < 0 ∨ (s.n : Int) ≤ i then (ByteArray.empty, 3, s) else if s.brk then (ByteArray.empty, 4, s.asked) else (s.now i.toNat, 0, { s.asked with steps := s.steps + 1 })
def RS.write (s : RS) (i : Int) (b : ByteArray) : Int × RS :=
  if i < 0 ∨ (s.n : Int) ≤ i then (3, s) else if b.size ≠ 256 then (2, s) else if s.brk then (4, s.asked) else (0, { s.asked with left := s.left - 1, steps := s.steps + 1, now := upd s.now i.toNat b, dirty := upd s.dirty i.toNat true })
def RS.break_ (s : RS) (n : Int) : Int × RS := if n < 0 then (5, s) else (0, { s with counts := true, left := n })

set_option maxRecDepth 100000 in
set_option maxHeartbeats 1000000 in
theorem rread_any (w : World) (base : Nat) (A : RA) (s : RS) (h : RD w base A s) (i : Int) (hst : 0 ≤ s.steps ∧ s.steps ≤ 1073741824) :
    Calls Try.prog 46 #[.pointer (some ⟨A.r, 0, none⟩), .int .i64 i] w fun e w' => e = .returned (.tuple #[.string (s.read i).1, .int .i64 (s.read i).2.1]) ∧ RD w' base A (s.read i).2.2 ∧ Off A.F w w' := by
  obtain ⟨c0, c1, c2, c3, c4, c5, c6⟩ := h.cells
  by_cases h1 : i < 0
  · have e : s.read i = (ByteArray.empty, 3, s) := by unfold RS.read; rw [if_pos (.inl h1)]
    rw [e]
    go_enter Try.func46, Try.ntmps46
    go_wp2
    go_ret2
    exact ⟨rfl, h, Off.refl _ _⟩
  · have t1 : decide (i < 0) = false := by simp; omega
    by_cases h2 : (s.n : Int) ≤ i
    · have e : s.read i = (ByteArray.empty, 3, s) := by unfold RS.read; rw [if_pos (.inr h2)]
      rw [e]
      go_enter Try.func46, Try.ntmps46
      go_wp2
      go_ret2
      exact ⟨rfl, h, Off.refl _ _⟩
    · have t2 : decide ((s.n : Int) ≤ i) = false := by simp; omega
      obtain ⟨k, rfl⟩ : ∃ k : Nat, i = k := ⟨i.toNat, by omega⟩
      have hk : k < s.n := by omega
      have hk' : (k : Int) < (s.n : Int) := by omega
      cases hb : s.brk with
      | true =>
        have e : s.read k = (ByteArray.empty, 4, s.asked) := by unfold RS.read; rw [if_neg (by omega), hb]; rfl
        rw [e]
        have hcon := breaks_any w base A s h
        rw [hb] at hcon
        go_enter Try.func46, Try.ntmps46
        go_wp2_with (go_at_call 66; refine hcon.mono ?_; rintro e w1 ⟨rfl, hR, ho⟩)
        go_ret2
        exact ⟨rfl, hR, ho⟩
      | false =>
        have e : s.read k = (s.now k, 0, { s.asked with steps := s.steps + 1 }) := by unfold RS.read; rw [if_neg (by omega), hb]; rfl
        rw [e]
        have hcon := breaks_any w base A s h
        rw [hb] at hcon
        go_enter Try.func46, Try.ntmps46
        go_wp2_with fail
        refine hcon.mono ?_
        rintro e w1 ⟨rfl, hR, ho⟩
        have hR2 : RD (w1.setCell ⟨A.r, 6, none⟩ (.int .i64 (s.steps + 1))) base A { s.asked with steps := s.steps + 1 } := hR.cell 6 (.int .i64 (s.steps + 1)) rfl rfl rfl rfl rfl
        have hg := (hR.getNow (i := k) hk).1
        have hg2 := (hR2.getNow (i := k) hk).1
        clear c0 c1 c2 c3 c4 c5 c6 hcon
        obtain ⟨c0, c1, c2, c3, c4, c5, c6⟩ := hR.cells
        have f6 : w1.frozen? ⟨A.r, 6, none⟩ = false := hR.blk.frozen 6
        have hr := hR.blk.lt
        have hno := (own_lt hR.rowN).2
        simp only [RS.asked] at c0 c1 c2 c3 c4 c5 c6 hg hg2
        go_wp2
        go_ret2
        exact ⟨rfl, hR2, ho.setCell _ (.inl (.inl rfl))⟩

set_option maxRecDepth 100000 in
set_option maxHeartbeats 1000000 in
theorem rwrite_any (w : World) (base : Nat) (A : RA) (s : RS) (h : RD w base A s) (i : Int) (b : ByteArray) (hst : 0 ≤ s.steps ∧ s.steps ≤ 1073741824) (hlf : -1073741824 ≤ s.left ∧ s.left ≤ 9223372036854775807) :
    Calls Try.prog 51 #[.pointer (some ⟨A.r, 0, none⟩), .int .i64 i, .string b] w fun e w' => e = .returned (.int .i64 (s.write i b).1) ∧ RD w' base A (s.write i b).2 ∧ Off A.F w w' := by
  obtain ⟨c0, c1, c2, c3, c4, c5, c6⟩ := h.cells
  by_cases h1 : i < 0
  · have e : s.write i b = (3, s) := by unfold RS.write; rw [if_pos (.inl h1)]
    rw [e]
    go_enter Try.func51, Try.ntmps51
    go_wp2
    go_ret
    exact ⟨rfl, h, Off.refl _ _⟩
  · have t1 : decide (i < 0) = false := by simp; omega
    by_cases h2 : (s.n : Int) ≤ i
    · have e : s.write i b = (3, s) := by unfold RS.write; rw [if_pos (.inr h2)]
      rw [e]
      go_enter Try.func51, Try.ntmps51
      go_wp2
      go_ret
      exact ⟨rfl, h, Off.refl _ _⟩
    · have t2 : decide ((s.n : Int) ≤ i) = false := by simp; omega
      obtain ⟨k, rfl⟩ : ∃ k : Nat, i = k := ⟨i.toNat, by omega⟩
      have hk : k < s.n := by omega
      have hk' : (k : Int) < (s.n : Int) := by omega
      by_cases h3 : b.size = 256
      · have t3 : ((b.size : Int) != 256) = false := by rw [h3]; rfl
        cases hb : s.brk with
        | true =>
          have e : s.write k b = (4, s.asked) := by unfold RS.write; rw [if_neg (by omega), if_neg (by omega), hb]; rfl
          rw [e]
          have hcon := breaks_any w base A s h
          rw [hb] at hcon
          clear h3
          go_enter Try.func51, Try.ntmps51
          go_wp2_with (go_at_call 66; refine hcon.mono ?_; rintro e w1 ⟨rfl, hR, ho⟩)
          go_ret
          exact ⟨rfl, hR, ho⟩
        | false =>
          have e : s.write k b = (0, { s.asked with left := s.left - 1, steps := s.steps + 1, now := upd s.now k b, dirty := upd s.dirty k true }) := by unfold RS.write; rw [if_neg (by omega), if_neg (by omega), hb]; rfl
          rw [e]
          have hcon := breaks_any w base A s h
          rw [hb] at hcon
          clear h3
          go_enter Try.func51, Try.ntmps51
          go_wp2_with fail
          refine hcon.mono ?_
          rintro e w1 ⟨rfl, hR, ho⟩
          have hR2 := ((((hR.cell 5 (.int .i64 (s.left - 1)) (s' := { s.asked with left := s.left - 1 }) rfl rfl rfl rfl rfl).cell 6 (.int .i64 (s.steps + 1)) (s' := { s.asked with left := s.left - 1, steps := s.steps + 1 }) rfl rfl rfl rfl rfl).setNow k b).setDirty k true)
          have hg := hR.getNow (i := k) hk
          have hd := hR.getDirty (i := k) hk
          clear c0 c1 c2 c3 c4 c5 c6 hcon
          obtain ⟨c0, c1, c2, c3, c4, c5, c6⟩ := hR.cells
          have f5 : w1.frozen? ⟨A.r, 5, none⟩ = false := hR.blk.frozen 5
          have f6 : w1.frozen? ⟨A.r, 6, none⟩ = false := hR.blk.frozen 6
          obtain ⟨g1, g2⟩ := hg
          obtain ⟨d1, d2⟩ := hd
          have hnoR : A.no ≠ A.r := by
            obtain ⟨_, cs, hN⟩ := own_tagged hR.rowN (j := A.no) rfl
            exact tag_ne hR.blk hN (by decide)
          have hdiR : A.di ≠ A.r := by
            obtain ⟨_, cs, hN⟩ := own_tagged hR.rowD (j := A.di) rfl
            exact tag_ne hR.blk hN (by decide)
          have hdiN : A.di ≠ A.no := by
            obtain ⟨_, cs, hN⟩ := own_tagged hR.rowD (j := A.di) rfl
            obtain ⟨_, cs', hN'⟩ := own_tagged hR.rowN (j := A.no) rfl
            intro e; rw [e, hN'] at hN; cases hN
          simp only [RS.asked] at c0 c1 c2 c3 c4 c5 c6 g1 d1
          go_wp2
          go_ret
          exact ⟨rfl, hR2, (((ho.setCell _ (.inl (.inl rfl))).setCell _ (.inl (.inl rfl))).setCell _ (.inl (.inr (.inr (.inl rfl))))).setCell _ (.inl (.inr (.inr (.inr rfl))))⟩
      · have t3 : ((b.size : Int) != 256) = true := by simp; omega
        have e : s.write k b = (2, s) := by unfold RS.write; rw [if_neg (by omega), if_pos (by omega)]
        rw [e]
        go_enter Try.func51, Try.ntmps51
        go_wp2
        go_ret
        exact ⟨rfl, h, Off.refl _ _⟩

set_option maxRecDepth 100000 in
set_option maxHeartbeats 1000000 in
theorem rbreak_any (w : World) (base : Nat) (A : RA) (s : RS) (h : RD w base A s) (n : Int) :
    Calls Try.prog 55 #[.pointer (some ⟨A.r, 0, none⟩), .int .i64 n] w fun e w' => e = .returned (.int .i64 (s.break_ n).1) ∧ RD w' base A (s.break_ n).2 ∧ Off A.F w w' := by
  by_cases h1 : n < 0
  · have e : s.break_ n = (5, s) := by unfold RS.break_; rw [if_pos h1]
    rw [e]
    go_enter Try.func55, Try.ntmps55
    go_wp2
    go_ret
    exact ⟨rfl, h, Off.refl _ _⟩
  · have e : s.break_ n = (0, { s with counts := true, left := n }) := by unfold RS.break_; rw [if_neg h1]
    rw [e]
    obtain ⟨c0, c1, c2, c3, c4, c5, c6⟩ := h.cells
    have f4 : w.frozen? ⟨A.r, 4, none⟩ = false := h.blk.frozen 4
    have f5 : w.frozen? ⟨A.r, 5, none⟩ = false := h.blk.frozen 5
    have hR2 := (h.cell 4 (.bool true) (s' := { s with counts := true }) rfl rfl rfl rfl rfl).cell 5 (.int .i64 n) (s' := { s with counts := true, left := n }) rfl rfl rfl rfl rfl
    go_enter Try.func55, Try.ntmps55
    go_wp2
    go_ret
    exact ⟨rfl, hR2, ((Off.refl _ _).setCell _ (.inl (.inl rfl))).setCell _ (.inl (.inl rfl))⟩

set_option maxHeartbeats 1000000 in
theorem rsteps_any (w : World) (base : Nat) (A : RA) (s : RS) (h : RD w base A s) :
    Calls Try.prog 49 #[.pointer (some ⟨A.r, 0, none⟩)] w fun e w' => e = .returned (.tuple #[.int .i64 s.steps, .int .i64 0]) ∧ w' = w := by
  obtain ⟨c0, c1, c2, c3, c4, c5, c6⟩ := h.cells
  go_enter Try.func49, Try.ntmps49
  go_wp2
  go_ret2
  exact ⟨rfl, rfl⟩
end Go.Proofs.Ytdgbgmffpcooeaa
