/- What the document's disk does at Flush. -/
import Derived.Test.YtdgbgmffpcooeaaDk2
import Derived.RegionTactic
import Derived.BigRegion
namespace Go.Proofs.Ytdgbgmffpcooeaa
open Go.RowKit

/-- Behind j rounds of Flush. -/
def RS.flushed (s : RS) (j : Nat) : RS := { s with left := s.left - 1, safe := fun t => if t < j then s.now t else s.safe t, dirty := fun t => if t < j then false else s.dirty t }
def RS.flush (s : RS) : Int × RS := if s.brk then (4, s.asked) else (0, s.asked.flushed s.n)
theorem RS.flushed_zero (s : RS) : s.flushed 0 = { s with left := s.left - 1 } := by unfold RS.flushed; simp
theorem RS.flushed_succ (s : RS) (j : Nat) : s.flushed (j + 1) = { s.flushed j with safe := upd (s.flushed j).safe j (s.now j), dirty := upd (s.flushed j).dirty j false } := by
  unfold RS.flushed upd
  congr 1
  · funext t
    by_cases h : t = j
    · simp [h]
    · simp only [h, if_false]
      by_cases g : t < j
      · rw [if_pos (by omega), if_pos g]
      · rw [if_neg (by omega), if_neg g]
  · funext t
    by_cases h : t = j
    · simp [h]
    · simp only [h, if_false]
      by_cases g : t < j
      · rw [if_pos (by omega), if_pos g]
      · rw [if_neg (by omega), if_neg g]

theorem RD.apart {W : World} {base : Nat} {A : RA} {s : RS} (h : RD W base A s) : A.no ≠ A.r ∧ A.sa ≠ A.r ∧ A.di ≠ A.r ∧ A.di ≠ A.no ∧ A.di ≠ A.sa := by
  obtain ⟨_, cn, hN⟩ := own_tagged h.rowN (j := A.no) rfl
  obtain ⟨_, cs, hS⟩ := own_tagged h.rowS (j := A.sa) rfl
  obtain ⟨_, cd, hD⟩ := own_tagged h.rowD (j := A.di) rfl
  refine ⟨tag_ne h.blk hN (by decide), tag_ne h.blk hS (by decide), tag_ne h.blk hD (by decide), fun e => ?_, fun e => ?_⟩
  · rw [e, hN] at hD; cases hD
  · rw [e, hS] at hD; cases hD

set_option maxRecDepth 100000 in
set_option maxHeartbeats 2000000 in
theorem rflush_any (w : World) (base : Nat) (A : RA) (s : RS) (h : RD w base A s) (hlf : -1073741824 ≤ s.left ∧ s.left ≤ 9223372036854775807) :
    Calls Try.prog 53 #[.pointer (some ⟨A.r, 0, none⟩)] w fun e w' => e = .returned (.int .i64 s.flush.1) ∧ RD w' base A s.flush.2 ∧ Off A.F w w' := by
  have hcon := breaks_any w base A s h
  have hn2 := h.n2
  cases hb : s.brk with
  | true =>
    have e : s.flush = (4, s.asked) := by unfold RS.flush; rw [hb]; rfl
    rw [e]
    rw [hb] at hcon
    go_enter Try.func53, Try.ntmps53
    go_wp2_with (go_at_call 66; refine hcon.mono ?_; rintro e w1 ⟨rfl, hR, ho⟩)
    go_ret
    exact ⟨rfl, hR, ho⟩
  | false =>
    have e : s.flush = (0, s.asked.flushed s.n) := by unfold RS.flush; rw [hb]; rfl
    rw [e]
    rw [hb] at hcon
    clear e h
    obtain ⟨s1, hs1⟩ : ∃ s1, s.asked = s1 := ⟨_, rfl⟩
    have hl1 : s1.left = s.left := by rw [← hs1]; rfl
    have hn1 : s1.n = s.n := by rw [← hs1]; rfl
    rw [hs1] at hcon ⊢
    rw [← hl1] at hlf
    rw [← hn1] at hn2 ⊢
    clear hs1 hl1 hn1 hb s
    go_enter Try.func53, Try.ntmps53
    go_wp2_with fail
    refine hcon.mono ?_
    rintro e w1 ⟨rfl, hR, ho⟩
    clear hcon
    obtain ⟨c0, c1, c2, c3, c4, c5, c6⟩ := hR.cells
    have f5 : w1.frozen? ⟨A.r, 5, none⟩ = false := hR.blk.frozen 5
    have hR2 : RD (w1.setCell ⟨A.r, 5, none⟩ (.int .i64 (s1.left - 1))) base A (s1.flushed 0) := by
      rw [RS.flushed_zero]
      exact hR.cell 5 (.int .i64 (s1.left - 1)) (s' := { s1 with left := s1.left - 1 }) rfl rfl rfl rfl rfl
    have ho2 := ho.setCell (B := A.r) (i := 5) (.int .i64 (s1.left - 1)) (.inl (.inl rfl))
    go_wp2
    go_loopw [4] (fun x wr => ∃ j : Nat, x = .int .i64 (j : Int) ∧ j ≤ s1.n ∧ RD wr base A (s1.flushed j) ∧ Off A.F w wr) (fun x _ => s1.n - (intOf x).toNat)
    case atStart => exact ⟨0, rfl, by omega, hR2, ho2⟩
    case round =>
      obtain ⟨j, rfl, hj, hRj, hoj⟩ := hrel
      clear c0 c1 c2 c3 c4 c5 c6 f5 hR2 ho2 hR ho
      obtain ⟨c0, c1, c2, c3, c4, c5, c6⟩ := hRj.cells
      have e1 : (s1.flushed j).n = s1.n := rfl
      rw [e1] at c0 c1 c2
      by_cases hlt : j < s1.n
      · have hlt' : (j : Int) < (s1.n : Int) := by omega
        obtain ⟨n1, n2⟩ := hRj.getNow (i := j) hlt
        obtain ⟨q1, q2⟩ := hRj.getSafe (i := j) hlt
        have e2 : (s1.flushed j).now j = s1.now j := rfl
        rw [e2] at n1
        obtain ⟨a1, a2, a3, a4, a5⟩ := hRj.apart
        have hR3 := (hRj.setSafe j (s1.now j))
        have ho3 := (hoj.setCell (B := A.sa) (i := j) (.string (s1.now j)) (.inl (.inr (.inl rfl)))).drew
        have hR3' : RD (wr.setCell ⟨A.sa, j, none⟩ (.string (s1.now j))).drew base A { s1.flushed j with safe := upd (s1.flushed j).safe j (s1.now j) } := hR3.below ((Below.refl _ _).drew)
        clear hR3
        go_wp2
        go_region
        obtain ⟨W2, hW2⟩ : ∃ W2, (wr.setCell ⟨A.sa, j, none⟩ (.string (s1.now j))).drew = W2 := ⟨_, rfl⟩
        rw [hW2] at hR3' ho3 ⊢
        clear hW2 c0 c1 c2 c3 c4 c5 c6 n1 n2 q1 q2 hRj hoj
        obtain ⟨c0, c1, c2, c3, c4, c5, c6⟩ := hR3'.cells
        have e1 : ({ s1.flushed j with safe := upd (s1.flushed j).safe j (s1.now j) } : RS).n = s1.n := rfl
        rw [e1] at c0 c1 c2
        obtain ⟨d1, d2⟩ := hR3'.getDirty (i := j) hlt
        have hR4 := hR3'.setDirty j false
        have ho4 := ho3.setCell (B := A.di) (i := j) (.bool false) (.inl (.inr (.inr (.inr rfl))))
        go_wp2
        go_roundw
        case rel => exact ⟨j + 1, by go_num, by omega, by rw [RS.flushed_succ]; exact hR4, ho4⟩
        case measure => simp [intOf]; omega
      · have hlt' : decide ((j : Int) < (s1.n : Int)) = false := by simp; omega
        have hlt2 : decide (j < s1.n) = false := by simp; omega
        have hjn : j = s1.n := by omega
        rw [hjn] at hRj
        clear hjn
        go_wp2
        go_ret
        exact ⟨rfl, hRj, hoj⟩
end Go.Proofs.Ytdgbgmffpcooeaa
