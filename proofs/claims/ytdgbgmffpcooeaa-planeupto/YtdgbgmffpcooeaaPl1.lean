/- The walk of Plane. -/
import Derived.Test.YtdgbgmffpcooeaaPl0
import Derived.Test.YtdgbgmffpcooeaaBk5
namespace Go.Proofs.Ytdgbgmffpcooeaa
open Go.RowKit

/-- The rectangles that came in. -/
structure RAt (w : World) (ar : Option Addr) (lr : Nat) (R : Nat → Int × Int × Int × Int) : Prop where
  at_ : ∀ i, i < lr → ∃ a, ar = some a ∧ a.block < w.heap.size ∧ w.cell? (a.add (i * 4)) = some (.int .i64 (R i).1) ∧ w.cell? ⟨(a.add (i * 4)).block, (a.add (i * 4)).off + 1, none⟩ = some (.int .i64 (R i).2.1) ∧ w.cell? ⟨(a.add (i * 4)).block, (a.add (i * 4)).off + 2, none⟩ = some (.int .i64 (R i).2.2.1) ∧ w.cell? ⟨(a.add (i * 4)).block, (a.add (i * 4)).off + 3, none⟩ = some (.int .i64 (R i).2.2.2)
/-- The codes that came in. -/
structure CAt (w : World) (ac : Option Addr) (lc : Nat) (C : Nat → Int) : Prop where
  at_ : ∀ i, i < lc → ∃ a, ac = some a ∧ a.block < w.heap.size ∧ w.cell? (a.add i) = some (.int .i64 (C i))

theorem cells_any (w : World) (base B n came : Nat) (kc yc cv cn : Value) (E : List (Value × Int)) (K : List (Nat × Nat)) (hb : Book w base B n came kc yc cv cn E K) (v : Value) (L : List (Nat × Nat)) (hv : w.ownsRow base 34 2 v L.length (flatC L)) (hL : L.length ≤ 4) (hL0 : (v = .slice none 0 0 ∧ L = []) ∨ 0 < L.length)
    (hE : ∀ e ∈ E, ∀ j, e.1.ownBlock = some j → v.ownBlock ≠ some j) (hK : ∀ j, kc.ownBlock = some j → v.ownBlock ≠ some j) (hn : n ≤ 1073741820) (hEl : E.length ≤ 1073741820) (hc : came ≤ 1073741820) :
    Calls Try.prog 12 #[.pointer (some ⟨B, 0, none⟩), v] w fun e w' => e = .returned (.tuple #[]) ∧ CellsPost w base B n came E w' := by
  rcases hL0 with h | h
  · exact cells_nil w base B n came kc yc cv cn E K hb v L hv hL h hE hK hn hEl hc
  · exact cells_nn w base B n came kc yc cv cn E K hb v L hv hL h hE hK hn hEl hc

set_option maxRecDepth 100000 in
set_option maxHeartbeats 4000000 in
theorem plane_any (x y : Int) (ar : Option Addr) (lr cr : Nat) (R : Nat → Int × Int × Int × Int) (ac : Option Addr) (lc cc : Nat) (C : Nat → Int) (w : World) (hR : RAt w ar lr R) (hC : CAt w ac lc C) (hlr : lr ≤ 1048576) (hlc : lc ≤ 1048576) :
    Calls Try.prog 3 #[.int .i64 x, .int .i64 y, .slice ar lr cr, .slice ac lc cc] w fun e w' => e = .returned (.bool true) ∧ Below w.heap.size w w' := by
  obtain ⟨mm, hone, htwo⟩ := code_both x y
  go_enter Try.func3, Try.ntmps3
  go_wp2_with fail
  refine (qcode_in 3 5 _ (by omega) (by omega)).mono ?_
  rintro e w1 ⟨rfl, rfl⟩
  rw [code35]
  go_wp2_with fail
  refine (qcover_ok ⟨1, 0, 2, 0⟩ (by unfold Box.ok; decide) _).mono ?_
  rintro e w2 ⟨g, cap, k, l, rfl, hown, hcov, hb2⟩
  obtain ⟨rfl, rfl⟩ := cover_unique (by unfold Box.ok; decide) hcov cover14
  go_wp2_with fail
  refine (qnext_ok 5 (by omega) ⟨2, 2, 3, 3⟩ (by unfold Box.ok; decide) _).mono ?_
  rintro e w3 ⟨⟨m, rfl, hm⟩, hb3⟩
  obtain rfl := next_unique hm next12
  have hown3 := own_below hown hb3
  obtain ⟨a0, a1⟩ := own_at hown3 0 (by simp)
  obtain ⟨b0, b1⟩ := own_at hown3 1 (by simp)
  have hg := (own_lt hown3).2
  have hB3 : Below w1.heap.size w1 w3 := hb2.trans (hb3.mono hb2.size)
  simp at a0 a1 b0 b1
  clear hown hcov hb2 hm hb3 hown3
  go_wp2_with fail
  refine (hone _).mono ?_
  rintro e w4 ⟨rfl, hb4⟩
  have hB4 : Below w1.heap.size w1 w4 := hB3.trans (hb4.mono hB3.size)
  clear hB3 hb4 a0 a1 b0 b1 hg hone
  go_wp2_with fail
  refine (htwo _).mono ?_
  rintro e w5 ⟨rfl, hb5⟩
  have hB5 : Below w1.heap.size w1 w5 := hB4.trans (hb5.mono hB4.size)
  have hs5 := hB5.size
  clear hB4 hb5 htwo
  have hBk : Book (w5.alloc (.cells (bkCells 0 0 (.slice none 0 0) (.slice none 0 0) (.slice none 0 0) (.slice none 0 0)) 39)) w1.heap.size w5.heap.size 0 0 (.slice none 0 0) (.slice none 0 0) (.slice none 0 0) (.slice none 0 0) [] [] :=
    ⟨⟨hs5, Blk.new w5 39 _, World.ownsRow_nil _ _ _ _, World.ownsRow_nil _ _ _ _, fun e he => by cases he⟩, by simp, World.ownsRow_nil _ _ _ _, World.ownsRow_nil _ _ _ _, fun e he => by cases he⟩
  have hB6 : Below w1.heap.size w1 (w5.alloc (.cells (bkCells 0 0 (.slice none 0 0) (.slice none 0 0) (.slice none 0 0) (.slice none 0 0)) 39)) := hB5.alloc hs5 _
  unfold bkCells at hBk hB6
  go_wp2
  obtain ⟨W0, hW0⟩ : ∃ W0, w5.alloc (.cells #[.int .i64 0, .int .i64 0, .bool false, .slice none 0 0, .slice none 0 0, .slice none 0 0, .slice none 0 0, .slice none 0 0, .slice none 0 0, .slice none 0 0, .slice none 0 0] 39) = W0 := ⟨_, rfl⟩
  rw [hW0] at hBk hB6 ⊢
  clear hW0
  go_loopw [17] (fun s wr => ∃ (i n : Nat) (kc yc cv cn : Value) (E : List (Value × Int)) (K : List (Nat × Nat)), s = .int .i64 (i : Int) ∧ i ≤ lr ∧ n ≤ 2 * i ∧ E.length ≤ 8 * i ∧ Book wr w1.heap.size w5.heap.size n i kc yc cv cn E K ∧ Below w1.heap.size w1 wr) (fun s _ => lr - (intOf s).toNat)
  case atStart => exact ⟨0, 0, _, _, _, _, [], [], rfl, by omega, by omega, by simp, hBk, hB6⟩
  case round =>
    obtain ⟨i, n, kc, yc, cv, cn, E, K, rfl, hi, hn, hE, hb, hB⟩ := hrel
    clear hBk hB6
    have hsB := hB.size
    by_cases hlt : i < lr
    · have hlt' : (i : Int) < (lr : Int) := by omega
      obtain ⟨a, ha, hab, r0, r1, r2, r3⟩ := hR.at_ i hlt
      subst ha
      have hcellR : ∀ W', Below w1.heap.size w1 W' → W'.cell? (a.add (i * 4)) = some (.int .i64 (R i).1) ∧ W'.cell? ⟨(a.add (i * 4)).block, (a.add (i * 4)).off + 1, none⟩ = some (.int .i64 (R i).2.1) ∧ W'.cell? ⟨(a.add (i * 4)).block, (a.add (i * 4)).off + 2, none⟩ = some (.int .i64 (R i).2.2.1) ∧ W'.cell? ⟨(a.add (i * 4)).block, (a.add (i * 4)).off + 3, none⟩ = some (.int .i64 (R i).2.2.2) := fun W' h => by
        have hblk : ∀ j, (a.add j).block = a.block := fun j => by unfold Addr.add; split <;> rfl
        exact ⟨(h.cell (by rw [hblk]; exact hab)).trans r0, (h.cell (p := ⟨(a.add (i * 4)).block, (a.add (i * 4)).off + 1, none⟩) (by simp only; rw [hblk]; exact hab)).trans r1, (h.cell (p := ⟨(a.add (i * 4)).block, (a.add (i * 4)).off + 2, none⟩) (by simp only; rw [hblk]; exact hab)).trans r2, (h.cell (p := ⟨(a.add (i * 4)).block, (a.add (i * 4)).off + 3, none⟩) (by simp only; rw [hblk]; exact hab)).trans r3⟩
      clear r0 r1 r2 r3
      obtain ⟨Q1, hQ1⟩ : ∃ q, (R i).1 = q := ⟨_, rfl⟩
      obtain ⟨Q2, hQ2⟩ : ∃ q, (R i).2.1 = q := ⟨_, rfl⟩
      obtain ⟨Q3, hQ3⟩ : ∃ q, (R i).2.2.1 = q := ⟨_, rfl⟩
      obtain ⟨Q4, hQ4⟩ : ∃ q, (R i).2.2.2 = q := ⟨_, rfl⟩
      rw [hQ1, hQ2, hQ3, hQ4] at hcellR
      clear hQ1 hQ2 hQ3 hQ4
      obtain ⟨L, er, hL4, hcq, hcr⟩ := cover_both Q1 Q2 Q3 Q4
      obtain ⟨r0, r1, r2, r3⟩ := hcellR wr hB
      go_wp2_with fail
      refine (hcq _).mono ?_
      rintro e w6 ⟨v, rfl, hv, hb6⟩
      have hB6 : Below w1.heap.size w1 w6 := hB.trans (hb6.mono hB.size)
      have hbk6 := hb.below hb6
      have HVF : Hid (∀ j, v.ownBlock = some j → wr.heap.size ≤ j) := fun j hj => (own_tagged hv.1 hj).1
      have HEF : Hid (∀ e ∈ E, ∀ j, e.1.ownBlock = some j → j < wr.heap.size) := fun e he j hj => by
        rcases hb.bk.ent e he with h | ⟨g, _, _, cur, e1, e2, _⟩
        · rw [h] at hj; cases hj
        · rw [e1] at hj
          simp only [Value.ownBlock, Option.some.injEq] at hj
          rw [← hj]; exact (Array.getElem?_eq_some_iff.1 e2).1
      have HKF : Hid (∀ j, kc.ownBlock = some j → j < wr.heap.size) := fun j hj => (hb.kept.lt j hj).2
      clear r0 r1 r2 r3 hb
      obtain ⟨r0, r1, r2, r3⟩ := hcellR w6 hB6
      go_wp2_with fail
      refine (hcr _).mono ?_
      rintro e w7 ⟨u, rfl, hu, hb7⟩
      have hB7 : Below w1.heap.size w1 w7 := hB6.trans (hb7.mono hB6.size)
      have hbk7 := hbk6.below hb7
      have hv7 := own_below hv.1 hb7
      have hv0 := hv.2
      have hu7 := hu.1
      obtain ⟨av, capv, hvs, _, _, _⟩ := own_shape hv7
      obtain ⟨au, capu, hus, _, _, _⟩ := own_shape hu7
      clear r0 r1 r2 r3 hB6 hbk6 hv hu hcq hcr
      subst hvs
      subst hus
      go_wp2
      go_loopw [22, 23] (fun s x ws => ∃ k : Nat, s = .bool true ∧ x = .int .i64 (k : Int) ∧ k ≤ L.length ∧ Below w7.heap.size w7 ws) (fun _ x _ => L.length - (intOf x).toNat)
      case atStart => exact ⟨0, rfl, rfl, by omega, Below.refl _ _⟩
      case round =>
        obtain ⟨k, rfl, rfl, hk, hBk⟩ := hrel
        have hsk := hBk.size
        by_cases hlt2 : k < L.length
        · have hlt2' : (k : Int) < (L.length : Int) := by omega
          obtain ⟨gv, cv1, e1, _, hgv⟩ := hv7.form (by omega)
          obtain ⟨gu, cu1, e2, _, hgu⟩ := hu7.form (by omega)
          cases e1
          cases e2
          obtain ⟨a0, a1⟩ := own_at (own_below hv7 hBk) k hlt2
          obtain ⟨b0, b1⟩ := own_at (own_below hu7 hBk) k hlt2
          obtain ⟨z, hz⟩ : ∃ z, L[k] = z := ⟨_, rfl⟩
          rw [hz] at a0 a1 b0 b1
          have hgv' : gv < wr.heap.size := by omega
          have hgu' : gu < wr.heap.size := by omega
          clear hz
          go_wp2
          go_quiet (fail)
          go_wp2
          go_roundw
          case rel => exact ⟨k + 1, by simp, by go_num, by omega, below_drewN hBk _⟩
          case measure => simp [intOf]; omega
        · have hlt2' : decide ((k : Int) < (L.length : Int)) = false := by simp; omega
          have hlt3' : decide (k < L.length) = false := by simp; omega
          have hbk8 := hbk7.below hBk
          have hv8 := own_below hv7 hBk
          have hB8 : Below w1.heap.size w1 wr := hB7.trans (hBk.mono hB7.size)
          clear hv7 hu7 hbk7 hB7 hlt2
          have hcon := cells_any wr w1.heap.size w5.heap.size n i kc yc cv cn E K hbk8 _ L (own_mono hv8 (by omega)) hL4 hv0 (fun e he j hj h => by have h1 := HVF.out j h; have h2 := HEF.out e he j hj; omega) (fun j hj h => by have h1 := HVF.out j h; have h2 := HKF.out j hj; omega) (by omega) (by omega) (by omega)
          go_wp2_with fail
          refine hcon.mono ?_
          rintro e w9 ⟨rfl, n9, kc9, yc9, cv9, cn9, E9, K9, hn9, hE9, hbk9, hb9⟩
          have hB9 : Below w1.heap.size w1 w9 := hB8.trans hb9
          clear hcon hbk8 hv8 hb9 HVF HEF HKF
          go_wp2_with fail
          refine (still_any w9 w1.heap.size w5.heap.size n9 (i + 1) kc9 yc9 cv9 cn9 E9 K9 hbk9 (by omega)).mono ?_
          rintro e w10 ⟨rfl, hb10⟩
          have hbk10 := hbk9.below hb10
          have hB10 : Below w1.heap.size w1 w10 := hB9.trans (hb10.mono hB9.size)
          clear hbk9 hB9 hb10 hB8
          go_wp2
          go_loopw [25] (fun x ws => ∃ k : Nat, x = .int .i64 (k : Int) ∧ k ≤ lc ∧ Book ws w1.heap.size w5.heap.size n9 (i + 1) kc9 yc9 cv9 cn9 E9 K9 ∧ Below w1.heap.size w1 ws) (fun x _ => lc - (intOf x).toNat)
          case atStart => exact ⟨0, rfl, by omega, hbk10, hB10⟩
          case round =>
            clear hbk10 hB10 hlt2' hlt3'
            obtain ⟨k, rfl, hk, hbk, hBw⟩ := hrel
            by_cases hlt2 : k < lc
            · have hlt2' : (k : Int) < (lc : Int) := by omega
              obtain ⟨ca, hca, hcab, hcc⟩ := hC.at_ k hlt2
              subst hca
              have hcellC : ∀ W', Below w1.heap.size w1 W' → W'.cell? (ca.add k) = some (.int .i64 (C k)) := fun W' h => by
                have hblk : (ca.add k).block = ca.block := by unfold Addr.add; split <;> rfl
                exact (h.cell (by rw [hblk]; exact hcab)).trans hcc
              obtain ⟨ck, hck⟩ : ∃ ck, C k = ck := ⟨_, rfl⟩
              rw [hck] at hcellC
              clear hck hcc
              obtain ⟨m, er, hq, hr⟩ := next_both ck Q1 Q2 Q3 Q4
              obtain ⟨r0, r1, r2, r3⟩ := hcellR wr hBw
              have c0 := hcellC wr hBw
              have hsw := hBw.size
              have keepS : ∀ W', Below wr.heap.size wr W' → W'.cell? (a.add (i * 4)) = some (.int .i64 Q1) ∧ W'.cell? ⟨(a.add (i * 4)).block, (a.add (i * 4)).off + 1, none⟩ = some (.int .i64 Q2) ∧ W'.cell? ⟨(a.add (i * 4)).block, (a.add (i * 4)).off + 2, none⟩ = some (.int .i64 Q3) ∧ W'.cell? ⟨(a.add (i * 4)).block, (a.add (i * 4)).off + 3, none⟩ = some (.int .i64 Q4) ∧ W'.cell? (ca.add k) = some (.int .i64 ck) := fun W' h => by
                have h2 := hBw.trans (h.mono hsw)
                obtain ⟨x0, x1, x2, x3⟩ := hcellR W' h2
                exact ⟨x0, x1, x2, x3, hcellC W' h2⟩
              go_wp2
              go_region_held3 (fun W' => W'.cell? (a.add (i * 4)) = some (.int .i64 Q1) ∧ W'.cell? ⟨(a.add (i * 4)).block, (a.add (i * 4)).off + 1, none⟩ = some (.int .i64 Q2) ∧ W'.cell? ⟨(a.add (i * 4)).block, (a.add (i * 4)).off + 2, none⟩ = some (.int .i64 Q3) ∧ W'.cell? ⟨(a.add (i * 4)).block, (a.add (i * 4)).off + 3, none⟩ = some (.int .i64 Q4) ∧ W'.cell? (ca.add k) = some (.int .i64 ck))
                (first
                  | exact keepS _ ((Below.refl _ wr).drew.trans hb11)
                  | go_keep)
                ((go_at_call 9; refine (hq _).mono ?_; rintro e w11 ⟨rfl, hb11⟩))
              have hb11' : Below wr.heap.size wr w11 := (Below.refl _ wr).drew.trans hb11
              have hbk11 := hbk.below hb11'
              have hB11 := hBw.trans (hb11'.mono hsw)
              clear keepS r0 r1 r2 r3 c0 hb11 hb11' hbk hq
              obtain ⟨r0, r1, r2, r3⟩ := hcellR w11 hB11
              have c0 := hcellC w11 hB11
              have hs11 := hB11.size
              have keepS : ∀ W', Below w11.heap.size w11 W' → W'.cell? (a.add (i * 4)) = some (.int .i64 Q1) ∧ W'.cell? ⟨(a.add (i * 4)).block, (a.add (i * 4)).off + 1, none⟩ = some (.int .i64 Q2) ∧ W'.cell? ⟨(a.add (i * 4)).block, (a.add (i * 4)).off + 2, none⟩ = some (.int .i64 Q3) ∧ W'.cell? ⟨(a.add (i * 4)).block, (a.add (i * 4)).off + 3, none⟩ = some (.int .i64 Q4) ∧ W'.cell? (ca.add k) = some (.int .i64 ck) := fun W' h => by
                have h2 := hB11.trans (h.mono hs11)
                obtain ⟨x0, x1, x2, x3⟩ := hcellR W' h2
                exact ⟨x0, x1, x2, x3, hcellC W' h2⟩
              go_wp2
              go_region_held3 (fun W' => W'.cell? (a.add (i * 4)) = some (.int .i64 Q1) ∧ W'.cell? ⟨(a.add (i * 4)).block, (a.add (i * 4)).off + 1, none⟩ = some (.int .i64 Q2) ∧ W'.cell? ⟨(a.add (i * 4)).block, (a.add (i * 4)).off + 2, none⟩ = some (.int .i64 Q3) ∧ W'.cell? ⟨(a.add (i * 4)).block, (a.add (i * 4)).off + 3, none⟩ = some (.int .i64 Q4) ∧ W'.cell? (ca.add k) = some (.int .i64 ck))
                (first
                  | exact keepS _ ((Below.refl _ w11).drew.trans hb12)
                  | go_keep)
                ((go_at_call 14; refine (hr _).mono ?_; rintro e w12 ⟨rfl, hb12⟩))
              have hb12' : Below w11.heap.size w11 w12 := (Below.refl _ w11).drew.trans hb12
              have hbk12 := hbk11.below hb12'
              have hB12 := hB11.trans (hb12'.mono hs11)
              clear keepS r0 r1 r2 r3 c0 hb12 hb12' hbk11 hr hB11
              go_wp2
              go_roundw
              case rel => exact ⟨k + 1, by go_num, by omega, hbk12, hB12⟩
              case measure => simp [intOf]; omega
            · have hlt2' : decide ((k : Int) < (lc : Int)) = false := by simp; omega
              have hlt3' : decide (k < lc) = false := by simp; omega
              go_wp2
              go_roundw
              case rel => exact ⟨i + 1, n9, kc9, yc9, cv9, cn9, E9, K9, by go_num, by omega, by omega, by omega, hbk, hBw⟩
              case measure => simp [intOf]; omega
    · have hlt' : decide ((i : Int) < (lr : Int)) = false := by simp; omega
      have hlt2 : decide (i < lr) = false := by simp; omega
      go_wp2
      go_ret
      exact ⟨rfl, hB⟩
end Go.Proofs.Ytdgbgmffpcooeaa
