/- What the program's disk answers at Read; what New makes. -/
import Derived.Test.YtdgbgmffpcooeaaPk2
namespace Go.Proofs.Ytdgbgmffpcooeaa
open Go.RowKit Go.Lib Go.Maps

theorem sec_conv {W : World} {g n : Nat} {now : Nat → ByteArray} (h : Sec W g n now) {i : Nat} (hi : i < n) : (convert 81 9 (.slice (some ⟨g, i * 256, none⟩) 256 256)).run Try.prog W = .ok (.string (now i)) W := by
  have hl : (now i).data.toList.length = 256 := by rw [length_data]; exact h.size i hi
  have := run_convert_bytes_back (P := Try.prog) W 81 9 5 ⟨g, i * 256, none⟩ 256 (now i).data.toList Try.underlying81 Try.underlying5 Try.underlying9 (fun j hj => by
    rw [Addr.add_mid]
    exact h.at_ i hi j _ (by unfold strCells; rw [List.getElem?_map, List.getElem?_eq_getElem hj]; rfl))
  rw [hl] at this
  simpa using this

def PS.read (s : PS) (i : Int) : ByteArray × Int × PS :=
  if i < 0 ∨ (s.n : Int) ≤ i then (ByteArray.empty, 3, s) else if s.brk then (ByteArray.empty, 4, s.asked) else (s.now i.toNat, 0, { s.asked with steps := s.steps + 1 })

set_option maxRecDepth 100000 in
set_option maxHeartbeats 1000000 in
theorem pread_any (w : World) (base : Nat) (A : PA) (s : PS) (h : PD w base A s) (i : Int) (hst : 0 ≤ s.steps ∧ s.steps ≤ 1073741824) :
    Calls Try.prog 64 #[.pointer (some ⟨A.q, 0, none⟩), .int .i64 i] w fun e w' => e = .returned (.tuple #[.string (s.read i).1, .int .i64 (s.read i).2.1]) ∧ PD w' base A (s.read i).2.2 ∧ Off A.F w w' := by
  have hhas := phas_any w base A s h i
  by_cases h1 : i < 0 ∨ (s.n : Int) ≤ i
  · have e : s.read i = (ByteArray.empty, 3, s) := by unfold PS.read; rw [if_pos h1]
    rw [e]
    have hd : decide (0 ≤ i ∧ i < (s.n : Int)) = false := by rw [decide_eq_false_iff_not]; omega
    rw [hd] at hhas
    clear hd h1 e
    go_enter Try.func64, Try.ntmps64
    go_wp2_with (go_at_call 77; refine hhas.mono ?_; rintro e w1 ⟨rfl, rfl⟩)
    go_ret2
    exact ⟨rfl, h, Off.refl _ _⟩
  · have hd : decide (0 ≤ i ∧ i < (s.n : Int)) = true := by rw [decide_eq_true_iff]; omega
    rw [hd] at hhas
    obtain ⟨k, rfl⟩ : ∃ k : Nat, i = k := ⟨i.toNat, by omega⟩
    have hk : k < s.n := by omega
    have hk' : (k : Int) < (s.n : Int) := by omega
    have hcon := pfails_any w base A s h
    clear hd
    cases hb : s.brk with
    | true =>
      have e : s.read k = (ByteArray.empty, 4, s.asked) := by unfold PS.read; rw [if_neg h1, hb]; rfl
      rw [e]
      rw [hb] at hcon
      clear h1 e
      go_enter Try.func64, Try.ntmps64
      go_wp2_with (first | (go_at_call 77; refine hhas.mono ?_; rintro e w1 ⟨rfl, rfl⟩) | (go_at_call 78; refine hcon.mono ?_; rintro e w1 ⟨rfl, hR, ho⟩))
      go_ret2
      exact ⟨rfl, hR, ho⟩
    | false =>
      have e : s.read k = (s.now k, 0, { s.asked with steps := s.steps + 1 }) := by unfold PS.read; rw [if_neg h1, hb]; rfl
      rw [e]
      rw [hb] at hcon
      clear h1 e
      go_enter Try.func64, Try.ntmps64
      go_wp2_with (first | (go_at_call 77; refine hhas.mono ?_; rintro e w0 ⟨rfl, rfl⟩) | (go_at_call 78; refine hcon.mono ?_; rintro e w1 ⟨rfl, hR, ho⟩; have hR2 : PD (w1.setCell ⟨A.q, 4, none⟩ (.int .i64 (s.steps + 1))) base A { s.asked with steps := s.steps + 1 } := hR.cell 4 (.int .i64 (s.steps + 1)) rfl rfl rfl (by show s.steps ≤ s.steps + 1; omega) rfl; have hcv := sec_conv hR2.sec (i := k) hk; have hgl := hR.sec.lt; have c0 : w1.cell? ⟨A.q, 0, none⟩ = some (.slice (some ⟨A.g, 0, none⟩) s.n s.n) := hR.cells.1; have c4 : w1.cell? ⟨A.q, 4, none⟩ = some (.int .i64 s.steps) := hR.cells.2.2.2.2; have f4 : w1.frozen? ⟨A.q, 4, none⟩ = false := hR.blkQ.frozen 4; simp only [PS.asked] at hcv))
      go_ret2
      exact ⟨rfl, hR2, ho.setCell _ (.inl (.inr (.inl rfl)))⟩
end Go.Proofs.Ytdgbgmffpcooeaa
