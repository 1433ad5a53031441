/- What the books' still answers. -/
import Derived.Test.YtdgbgmffpcooeaaBk4
namespace Go.Proofs.Ytdgbgmffpcooeaa
open Go.RowKit

set_option maxRecDepth 100000 in
set_option maxHeartbeats 4000000 in
theorem still_any (w : World) (base B n came : Nat) (kc yc cv cn : Value) (E : List (Value × Int)) (K : List (Nat × Nat)) (hb : Book w base B n came kc yc cv cn E K) (hEl : E.length ≤ 1073741824) :
    Calls Try.prog 13 #[.pointer (some ⟨B, 0, none⟩)] w fun e w' => e = .returned (.bool true) ∧ Below w.heap.size w w' := by
  have hBlt := hb.bk.blk.lt
  have HCELL : ∀ W', Below w.heap.size w W' → W'.cell? ⟨B, 2, none⟩ = some (.bool false) ∧ W'.cell? ⟨B, 3, none⟩ = some kc ∧ W'.cell? ⟨B, 4, none⟩ = some yc ∧ W'.cell? ⟨B, 5, none⟩ = some (.slice none 0 0) ∧ W'.cell? ⟨B, 6, none⟩ = some (.slice none 0 0) ∧ W'.cell? ⟨B, 7, none⟩ = some cv ∧ W'.cell? ⟨B, 8, none⟩ = some cn ∧ W'.cell? ⟨B, 9, none⟩ = some (.slice none 0 0) := fun W' h => by
    have hb2 := (hb.below h).bk.blk
    exact ⟨hb2.cell 2, hb2.cell 3, hb2.cell 4, hb2.cell 5, hb2.cell 6, hb2.cell 7, hb2.cell 8, hb2.cell 9⟩
  obtain ⟨b2, b3, b4, b5, b6, b7, b8, b9⟩ := HCELL w (Below.refl _ _)
  have hcon := sameC_any K kc yc base base w.drew hb.kept.drew hb.were.drew
  go_enter Try.func13, Try.ntmps13
  go_wp2
  go_region_held3 (fun W' => W'.cell? ⟨B, 3, none⟩ = some kc ∧ W'.cell? ⟨B, 4, none⟩ = some yc)
    (first
      | exact ⟨(HCELL _ ((Below.refl _ w).drew.trans hb2')).2.1, (HCELL _ ((Below.refl _ w).drew.trans hb2')).2.2.1⟩
      | go_keep)
    ((go_at_call 33; refine hcon.mono ?_; rintro e w1 ⟨rfl, hb2'⟩))
  have hB1 : Below w.heap.size w w1 := (Below.refl _ w).drew.trans hb2'
  have hs1 := hB1.size
  clear hcon b2 b3 b4 b5 b6 b7 b8 b9 hb2'
  obtain ⟨b2, b3, b4, b5, b6, b7, b8, b9⟩ := HCELL w1 hB1
  go_wp2
  go_region_held3 (fun W' => W'.cell? ⟨B, 5, none⟩ = some (.slice none 0 0) ∧ W'.cell? ⟨B, 6, none⟩ = some (.slice none 0 0))
    (first
      | exact ⟨(HCELL _ (hB1.drew.trans (hb2'.mono hs1))).2.2.2.1, (HCELL _ (hB1.drew.trans (hb2'.mono hs1))).2.2.2.2.1⟩
      | go_keep)
    ((go_at_call 35; refine (sameI_nil _).mono ?_; rintro e w2 ⟨rfl, hb2'⟩))
  have hB2 : Below w.heap.size w w2 := hB1.drew.trans (hb2'.mono hs1)
  clear b2 b3 b4 b5 b6 b7 b8 b9 hb2' hB1 hs1
  obtain ⟨b2, b3, b4, b5, b6, b7, b8, b9⟩ := HCELL w2 hB2
  have HBK : Hid (Book w base B n came kc yc cv cn E K) := hb
  obtain ⟨aC, capC, hcv, _, _, _⟩ := own_shape hb.bk.rowC
  obtain ⟨aN, capN, hcn, _, _, _⟩ := own_shape hb.bk.rowN
  subst hcv
  subst hcn
  clear hb
  go_wp2
  go_loopw [5] (fun x wr => ∃ i : Nat, x = .int .i64 (i : Int) ∧ i ≤ E.length ∧ Below w.heap.size w wr) (fun x _ => E.length - (intOf x).toNat)
  case atStart => exact ⟨0, rfl, by omega, hB2⟩
  case round =>
    obtain ⟨i, rfl, hi, hB⟩ := hrel
    clear b2 b3 b4 b5 b6 b7 b8 b9 hB2
    obtain ⟨b2, b3, b4, b5, b6, b7, b8, b9⟩ := HCELL wr hB
    have hs := hB.size
    by_cases hlt : i < E.length
    · have hlt' : (i : Int) < (E.length : Int) := by omega
      obtain ⟨gC, c1, e1, _, hgC⟩ := HBK.out.bk.rowC.form (by omega)
      obtain ⟨gN, c2, e2, _, hgN⟩ := HBK.out.bk.rowN.form (by omega)
      cases e1
      cases e2
      go_wp2
      go_loopw [6] (fun x ws => ∃ k : Nat, x = .int .i64 (k : Int) ∧ k ≤ 8 ∧ Below w.heap.size w ws) (fun x _ => 8 - (intOf x).toNat)
      case atStart => exact ⟨0, rfl, by omega, hB⟩
      case round =>
        obtain ⟨k, rfl, hk, hBs⟩ := hrel
        clear b2 b3 b4 b5 b6 b7 b8 b9 hB
        obtain ⟨b2, b3, b4, b5, b6, b7, b8, b9⟩ := HCELL wr hBs
        have hss := hBs.size
        obtain ⟨e, he⟩ : ∃ e, E[i] = e := ⟨_, rfl⟩
        have aC := (own_cell (own_below HBK.out.bk.rowC hBs) i (by omega)).1
        have aN := (own_cell (own_below HBK.out.bk.rowN hBs) i (by omega)).1
        rw [List.getElem?_map, List.getElem?_eq_getElem hlt, he] at aC aN
        have aC' : wr.cell? ⟨gC, i, none⟩ = some e.1 := aC
        have aN' : wr.cell? ⟨gN, i, none⟩ = some (.int .i64 e.2) := aN
        have hent := HBK.out.bk.ent e (by rw [← he]; exact List.getElem_mem hlt)
        have hgCw : gC < wr.heap.size := by omega
        have hgNw : gN < wr.heap.size := by omega
        clear aC aN he
        obtain ⟨ev, μ⟩ := e
        simp only at aC' aN' hent
        rcases hent with hnil | ⟨g, len, cap, cur, q1, q2, q3, q4⟩
        · simp only at hnil
          subst hnil
          go_wp2
          go_roundw
          case rel => exact ⟨i + 1, by go_num, by omega, hBs⟩
          case measure => simp [intOf]; omega
        · simp only at q1 q4
          subst q1
          have hgw : g < w.heap.size := (Array.getElem?_eq_some_iff.1 q2).1
          have hq : wr.heap[g]? = some (.cells cur 34 (0, 0)) := (hBs.block g hgw).trans q2
          have hgw2 : g < wr.heap.size := by omega
          by_cases hkl : k < len
          · have hkl' : (k : Int) < (len : Int) := by omega
            have m0 : wr.cell? ⟨g, k * 2, none⟩ = some (.int .i64 μ) := by
              rw [cell_of_row wr g (k * 2) cur 34 (0, 0) hq]; have := (q4 k hkl).1; simpa using this
            have m1 : wr.cell? ⟨g, k * 2 + 1, none⟩ = some (.int .i64 0) := by
              rw [cell_of_row wr g (k * 2 + 1) cur 34 (0, 0) hq]; have := (q4 k hkl).2; simpa using this
            clear q2 q4 hq
            go_wp2
            go_quiet (fail)
            go_wp2
            go_roundw
            case rel => exact ⟨k + 1, by go_num, by omega, below_drewN hBs _⟩
            case measure => simp [intOf]; omega
          · have hkl' : decide ((k : Int) < (len : Int)) = false := by simp; omega
            have hkl2 : decide (k < len) = false := by simp; omega
            clear q2 q4 hq
            go_wp2
            go_roundw
            case rel => exact ⟨i + 1, by go_num, by omega, hBs⟩
            case measure => simp [intOf]; omega
    · have hlt' : decide ((i : Int) < (E.length : Int)) = false := by simp; omega
      have hlt2 : decide (i < E.length) = false := by simp; omega
      go_wp2
      go_loopw [7] (fun x ws => x = .int .i64 0 ∧ ws = wr) (fun _ _ => 0)
      case atStart => exact ⟨rfl, rfl⟩
      case round =>
        obtain ⟨rfl, rfl⟩ := hrel
        go_wp2
        go_ret
        exact ⟨rfl, hB⟩
end Go.Proofs.Ytdgbgmffpcooeaa
