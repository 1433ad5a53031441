/- Nv3 Nv4 Nv5 -/
import Derived.Test.YtdgbgmffpcooeaaGreatC51
section
/- A game's moves: a number is asked for. -/
namespace Go.Proofs.YtdgbgmffpcooeaaGreat
open Go.RowKit Go.Lib
set_option maxRecDepth 100000 in
set_option maxHeartbeats 4000000 in
theorem moves_get (w : World) (N : Nat → Prop) (G p X n : Nat) (σ : PS) (tb : List (Int × Box)) (h : GameX w N G p X n σ (((n - 200) / 4 : Nat) : Int) tb) (hrm : tb.length ≤ (n - 200) / 4) (K A B : Int) (wK : (Lit.int .i64 K).wf = true) (wA : (Lit.int .i64 A).wf = true) (wB : (Lit.int .i64 B).wf = true) (hk : 6 ≤ pickI K 10 ∧ pickI K 10 < 8) :
    Calls Tryz.prog 16 #[.pointer (some ⟨G, 0, none⟩), .agg #[.int .i64 K, .int .i64 A, .int .i64 B]] w (MoveP w N G p n σ (True)) := by
  obtain ⟨W0, hW0⟩ : ∃ W0, w.alloc (.cells #[.int .i64 K, .int .i64 A, .int .i64 B] 56) = W0 := ⟨_, rfl⟩
  have hb0 : Below w.heap.size w W0 := by rw [← hW0]; exact (Below.refl _ w).alloc (Nat.le_refl _) _
  have B0 : Blk W0 w.heap.size 56 #[.int .i64 K, .int .i64 A, .int .i64 B] := by rw [← hW0]; exact Blk.new w 56 _
  have HW0 : Hid (w.alloc (.cells #[.int .i64 K, .int .i64 A, .int .i64 B] 56) = W0) := hW0
  obtain ⟨sv, hG, hT, hL, hbG⟩ := h.below hb0
  have HBW : Hid (Keep N w W0) := Keep.below hb0
  have hup := hL.up
  have HUP : Hid (Ups tb ∧ 256 ≤ n ∧ n ≤ 4096 ∧ tb.length ≤ 1000000 ∧ ∀ t ∈ tb, t.2.ok ∧ 0 ≤ t.1 ∧ t.1 ≤ 4611686018427387904) := hup
  have hnum := number_any A W0 wA
  have hpk := pick_eq K 10 W0 (by omega) wK
  have q0 : W0.cell? ⟨w.heap.size, 0, none⟩ = some (.int .i64 K) := B0.cell 0
  have q1 : W0.cell? ⟨w.heap.size, 1, none⟩ = some (.int .i64 A) := B0.cell 1
  have q2 : W0.cell? ⟨w.heap.size, 2, none⟩ = some (.int .i64 B) := B0.cell 2
  obtain ⟨sa, sc, rfl, _, _, _⟩ := own_shape hT
  have qS : W0.cell? ⟨G, 2, none⟩ = some (.slice sa tb.length sc) := hG.cell 2
  have HG0 : Hid (Blk W0 G 62 (gameC p X (.slice sa tb.length sc) (((n - 200) / 4 : Nat) : Int))) := hG
  have HT0 : Hid (TabV W0 0 (.slice sa tb.length sc) tb) := hT
  have HL0 : Hid (LiveX W0 N p X n σ tb) := hL
  have HB0 : Hid (Blk W0 w.heap.size 56 #[.int .i64 K, .int .i64 A, .int .i64 B]) := B0
  have hn1 := hup.2.1
  have hn2 := hup.2.2.1
  have hlen := hup.2.2.2.1
  clear hW0 h hG hT hL B0 hb0 hup
  go_enter Tryz.func16, Tryz.ntmps16
  go_upto_region 1 with fail
  rw [HW0.out]
  clear HW0
  go_upto_region 2 with (go_at_call 43; refine hnum.mono ?_; rintro e w9 ⟨⟨id, hid, rfl⟩, rfl⟩)
  have hge := mget_any w9 0 (.slice sa tb.length sc) tb HT0.out HUP.out.1 HUP.out.2.2.2.1 (id : Int)
  have hid2 : 0 ≤ (id : Int) ∧ (id : Int) ≤ 4611686018427387904 := by omega
  go_upto_region 3 with (go_at_call 44; refine hge.mono ?_; rintro e w1 ⟨rfl, hb1⟩)
  obtain ⟨W1, hW1⟩ : ∃ W1, w1.alloc (.cells #[.int .i64 ((rectOf (tget (id : Int) tb)).a : Int), .int .i64 ((rectOf (tget (id : Int) tb)).b : Int), .int .i64 ((rectOf (tget (id : Int) tb)).c : Int), .int .i64 ((rectOf (tget (id : Int) tb)).d : Int)] 34) = W1 := ⟨_, rfl⟩
  have hbW : Below w9.heap.size w9 W1 := by rw [← hW1]; exact hb1.alloc hb1.size _
  have B6 : Blk W1 w1.heap.size 34 (boxA (rectOf (tget (id : Int) tb))) := by rw [← hW1]; exact Blk.new w1 34 _
  rw [hW1]
  have HBW1 : Hid (Keep N w W1) := HBW.out.trans (Keep.below hbW)
  have hG1 := HG0.out.below hbW HG0.out.lt
  have hT1 := own_below HT0.out hbW
  have hL1 := HL0.out.below hbW
  have hB1 := HB0.out.below hbW HB0.out.lt
  have p0 : W1.cell? ⟨w.heap.size, 0, none⟩ = some (.int .i64 K) := hB1.cell 0
  have p2 : W1.cell? ⟨w.heap.size, 2, none⟩ = some (.int .i64 B) := hB1.cell 2
  have pX : W1.cell? ⟨G, 1, none⟩ = some (.pointer (some ⟨X, 0, none⟩)) := hG1.cell 1
  have pS : W1.cell? ⟨G, 2, none⟩ = some (.slice sa tb.length sc) := hG1.cell 2
  have pR : W1.cell? ⟨G, 3, none⟩ = some (.int .i64 (((n - 200) / 4 : Nat) : Int)) := hG1.cell 3
  have pD : W1.cell? ⟨G, 0, none⟩ = some (.pointer (some ⟨p, 0, none⟩)) := hG1.cell 0
  have hpk1 := pick_eq K 10 W1 (by omega) wK
  obtain ⟨kk, hkk⟩ : ∃ kk, pickI K 10 = kk := ⟨_, rfl⟩
  rw [hkk] at hpk1 hk
  have HG1 : Hid (Blk W1 G 62 (gameC p X (.slice sa tb.length sc) (((n - 200) / 4 : Nat) : Int))) := hG1
  have HT1 : Hid (TabV W1 0 (.slice sa tb.length sc) tb) := hT1
  have HL1 : Hid (LiveX W1 N p X n σ tb) := hL1
  have HB1 : Hid (Blk W1 w.heap.size 56 #[.int .i64 K, .int .i64 A, .int .i64 B]) := hB1
  have HB6 : Hid (Blk W1 w1.heap.size 34 (boxA (rectOf (tget (id : Int) tb)))) := B6
  have GL1 := hG1.lt
  clear hW1 hbW hG1 hT1 hL1 hB1 B6 hge hnum hpk q0 q1 q2 qS HG0 HT0 HL0 HB0 hb1 hkk
  have _ := wB
  obtain ⟨hk1, hk2⟩ := hk
  have hk4 : ¬ kk < 4 := by omega
  have hk6 : ¬ kk < 6 := by omega
  have hgt := live_get HL1.out hid2
  have l6 := HB6.out.lt
  cases hg : tget (id : Int) tb with
  | none =>
    rw [hg] at hgt
    simp only [foundR, boxC, zeroBox] at hgt
    have heq := eq34 0 0 0 0 0 0 0 0
    rw [decide_eq_true rfl] at heq
    clear HB6 p2 pS pR pD
    go_wp2_with (first
      | (go_at_call 24; refine hpk1.mono ?_; rintro e w8 ⟨rfl, rfl⟩)
      | (go_at_call 37; refine hgt.mono ?_; rintro e w3 ⟨rfl, hC3, σ3, hL3, hA3⟩))
    go_ret
    have hb4 : Below w3.heap.size w3 (w3.alloc (.cells #[.int .i64 0, .int .i64 0, .int .i64 0, .int .i64 0] 34)) := (Below.refl _ w3).alloc (Nat.le_refl _) _
    have hbw3 := HBW1.out.trans hC3.keep
    exact ⟨rfl, hbw3.trans (Keep.below hb4), X, σ3, tb, GameX.below ⟨_, hC3.blk HG1.out (by unfold own5; omega), hC3.row HT1.out (by unfold own5; omega), hL3, hbG⟩ hb4, hrm, fun _ => hA3⟩
  | some v0 =>
    rw [hg] at hgt HB6
    simp only [foundR, boxC] at hgt
    simp only [rectOf, Option.getD_some] at HB6
    have heq := eq34 (v0.a : Int) (v0.b : Int) (v0.c : Int) (v0.d : Int) (v0.a : Int) (v0.b : Int) (v0.c : Int) (v0.d : Int)
    rw [decide_eq_true rfl] at heq
    clear p2 pS pR pD
    go_wp2_with (first
      | (go_at_call 24; refine hpk1.mono ?_; rintro e w8 ⟨rfl, rfl⟩)
      | (go_at_call 37; refine hgt.mono ?_; rintro e w3 ⟨rfl, hC3, σ3, hL3, hA3⟩; have k6 := hC3.blk HB6.out (by unfold own5; omega); have l63 := k6.lt; have s0 : w3.cell? ⟨w1.heap.size, 0, none⟩ = some (.int .i64 (v0.a : Int)) := k6.cell 0; have s1 : w3.cell? ⟨w1.heap.size, 1, none⟩ = some (.int .i64 (v0.b : Int)) := k6.cell 1; have s2 : w3.cell? ⟨w1.heap.size, 2, none⟩ = some (.int .i64 (v0.c : Int)) := k6.cell 2; have s3 : w3.cell? ⟨w1.heap.size, 3, none⟩ = some (.int .i64 (v0.d : Int)) := k6.cell 3))
    go_ret
    have hb4 : Below w3.heap.size w3 (w3.alloc (.cells #[.int .i64 (v0.a : Int), .int .i64 (v0.b : Int), .int .i64 (v0.c : Int), .int .i64 (v0.d : Int)] 34)) := (Below.refl _ w3).alloc (Nat.le_refl _) _
    have hbw3 := HBW1.out.trans hC3.keep
    exact ⟨rfl, hbw3.trans (Keep.below hb4), X, σ3, tb, GameX.below ⟨_, hC3.blk HG1.out (by unfold own5; omega), hC3.row HT1.out (by unfold own5; omega), hL3, hbG⟩ hb4, hrm, fun _ => hA3⟩
end Go.Proofs.YtdgbgmffpcooeaaGreat
end
section
/- A game's moves: a window. -/
namespace Go.Proofs.YtdgbgmffpcooeaaGreat
open Go.RowKit Go.Lib
set_option maxRecDepth 100000 in
set_option maxHeartbeats 4000000 in
theorem moves_win (w : World) (N : Nat → Prop) (G p X n : Nat) (σ : PS) (tb : List (Int × Box)) (h : GameX w N G p X n σ (((n - 200) / 4 : Nat) : Int) tb) (hrm : tb.length ≤ (n - 200) / 4) (K A B : Int) (wK : (Lit.int .i64 K).wf = true) (wA : (Lit.int .i64 A).wf = true) (wB : (Lit.int .i64 B).wf = true) (hk : pickI K 10 = 8) :
    Calls Tryz.prog 16 #[.pointer (some ⟨G, 0, none⟩), .agg #[.int .i64 K, .int .i64 A, .int .i64 B]] w (MoveP w N G p n σ (False)) := by
  obtain ⟨W0, hW0⟩ : ∃ W0, w.alloc (.cells #[.int .i64 K, .int .i64 A, .int .i64 B] 56) = W0 := ⟨_, rfl⟩
  have hb0 : Below w.heap.size w W0 := by rw [← hW0]; exact (Below.refl _ w).alloc (Nat.le_refl _) _
  have B0 : Blk W0 w.heap.size 56 #[.int .i64 K, .int .i64 A, .int .i64 B] := by rw [← hW0]; exact Blk.new w 56 _
  have HW0 : Hid (w.alloc (.cells #[.int .i64 K, .int .i64 A, .int .i64 B] 56) = W0) := hW0
  obtain ⟨sv, hG, hT, hL, hbG⟩ := h.below hb0
  have HBW : Hid (Keep N w W0) := Keep.below hb0
  have hup := hL.up
  have HUP : Hid (Ups tb ∧ 256 ≤ n ∧ n ≤ 4096 ∧ tb.length ≤ 1000000 ∧ ∀ t ∈ tb, t.2.ok ∧ 0 ≤ t.1 ∧ t.1 ≤ 4611686018427387904) := hup
  have hnum := number_any A W0 wA
  have hpk := pick_eq K 10 W0 (by omega) wK
  have q0 : W0.cell? ⟨w.heap.size, 0, none⟩ = some (.int .i64 K) := B0.cell 0
  have q1 : W0.cell? ⟨w.heap.size, 1, none⟩ = some (.int .i64 A) := B0.cell 1
  have q2 : W0.cell? ⟨w.heap.size, 2, none⟩ = some (.int .i64 B) := B0.cell 2
  obtain ⟨sa, sc, rfl, _, _, _⟩ := own_shape hT
  have qS : W0.cell? ⟨G, 2, none⟩ = some (.slice sa tb.length sc) := hG.cell 2
  have HG0 : Hid (Blk W0 G 62 (gameC p X (.slice sa tb.length sc) (((n - 200) / 4 : Nat) : Int))) := hG
  have HT0 : Hid (TabV W0 0 (.slice sa tb.length sc) tb) := hT
  have HL0 : Hid (LiveX W0 N p X n σ tb) := hL
  have HB0 : Hid (Blk W0 w.heap.size 56 #[.int .i64 K, .int .i64 A, .int .i64 B]) := B0
  have hn1 := hup.2.1
  have hn2 := hup.2.2.1
  have hlen := hup.2.2.2.1
  clear hW0 h hG hT hL B0 hb0 hup
  go_enter Tryz.func16, Tryz.ntmps16
  go_upto_region 1 with fail
  rw [HW0.out]
  clear HW0
  go_upto_region 2 with (go_at_call 43; refine hnum.mono ?_; rintro e w9 ⟨⟨id, hid, rfl⟩, rfl⟩)
  have hge := mget_any w9 0 (.slice sa tb.length sc) tb HT0.out HUP.out.1 HUP.out.2.2.2.1 (id : Int)
  have hid2 : 0 ≤ (id : Int) ∧ (id : Int) ≤ 4611686018427387904 := by omega
  go_upto_region 3 with (go_at_call 44; refine hge.mono ?_; rintro e w1 ⟨rfl, hb1⟩)
  obtain ⟨W1, hW1⟩ : ∃ W1, w1.alloc (.cells #[.int .i64 ((rectOf (tget (id : Int) tb)).a : Int), .int .i64 ((rectOf (tget (id : Int) tb)).b : Int), .int .i64 ((rectOf (tget (id : Int) tb)).c : Int), .int .i64 ((rectOf (tget (id : Int) tb)).d : Int)] 34) = W1 := ⟨_, rfl⟩
  have hbW : Below w9.heap.size w9 W1 := by rw [← hW1]; exact hb1.alloc hb1.size _
  have B6 : Blk W1 w1.heap.size 34 (boxA (rectOf (tget (id : Int) tb))) := by rw [← hW1]; exact Blk.new w1 34 _
  rw [hW1]
  have HBW1 : Hid (Keep N w W1) := HBW.out.trans (Keep.below hbW)
  have hG1 := HG0.out.below hbW HG0.out.lt
  have hT1 := own_below HT0.out hbW
  have hL1 := HL0.out.below hbW
  have hB1 := HB0.out.below hbW HB0.out.lt
  have p0 : W1.cell? ⟨w.heap.size, 0, none⟩ = some (.int .i64 K) := hB1.cell 0
  have p2 : W1.cell? ⟨w.heap.size, 2, none⟩ = some (.int .i64 B) := hB1.cell 2
  have pX : W1.cell? ⟨G, 1, none⟩ = some (.pointer (some ⟨X, 0, none⟩)) := hG1.cell 1
  have pS : W1.cell? ⟨G, 2, none⟩ = some (.slice sa tb.length sc) := hG1.cell 2
  have pR : W1.cell? ⟨G, 3, none⟩ = some (.int .i64 (((n - 200) / 4 : Nat) : Int)) := hG1.cell 3
  have pD : W1.cell? ⟨G, 0, none⟩ = some (.pointer (some ⟨p, 0, none⟩)) := hG1.cell 0
  have hpk1 := pick_eq K 10 W1 (by omega) wK
  obtain ⟨kk, hkk⟩ : ∃ kk, pickI K 10 = kk := ⟨_, rfl⟩
  rw [hkk] at hpk1 hk
  have HG1 : Hid (Blk W1 G 62 (gameC p X (.slice sa tb.length sc) (((n - 200) / 4 : Nat) : Int))) := hG1
  have HT1 : Hid (TabV W1 0 (.slice sa tb.length sc) tb) := hT1
  have HL1 : Hid (LiveX W1 N p X n σ tb) := hL1
  have HB1 : Hid (Blk W1 w.heap.size 56 #[.int .i64 K, .int .i64 A, .int .i64 B]) := hB1
  have HB6 : Hid (Blk W1 w1.heap.size 34 (boxA (rectOf (tget (id : Int) tb)))) := B6
  have GL1 := hG1.lt
  clear hW1 hbW hG1 hT1 hL1 hB1 B6 hge hnum hpk q0 q1 q2 qS HG0 HT0 HL0 HB0 hb1 hkk
  subst hk
  have hrc := rect_any W1 B wB
  go_wp2_with (first
    | (go_at_call 24; refine hpk1.mono ?_; rintro e w8 ⟨rfl, rfl⟩)
    | (go_at_call 26; refine hrc.mono ?_; rintro e w2 ⟨⟨v, hv, rfl⟩, hb2⟩; have hgw := gwin_any w2 N G p X n σ _ tb (GameX.below ⟨_, HG1.out, HT1.out, HL1.out, hbG⟩ hb2) v hv)
    | (go_at_call 46; refine hgw.mono ?_; rintro e w3 ⟨rfl, hC3, σ3, hG3⟩))
  go_ret
  exact ⟨rfl, (HBW1.out.trans (Keep.below hb2)).trans hC3.keep, X, σ3, tb, hG3, hrm, fun h => h.elim⟩
end Go.Proofs.YtdgbgmffpcooeaaGreat
end
section
/- A game's moves: opened anew. -/
namespace Go.Proofs.YtdgbgmffpcooeaaGreat
open Go.RowKit Go.Lib
set_option maxRecDepth 100000 in
set_option maxHeartbeats 4000000 in
theorem moves_open (w : World) (N : Nat → Prop) (G p X n : Nat) (σ : PS) (tb : List (Int × Box)) (h : GameX w N G p X n σ (((n - 200) / 4 : Nat) : Int) tb) (hrm : tb.length ≤ (n - 200) / 4) (K A B : Int) (wK : (Lit.int .i64 K).wf = true) (wA : (Lit.int .i64 A).wf = true) (wB : (Lit.int .i64 B).wf = true) (hk : pickI K 10 = 9) :
    Calls Tryz.prog 16 #[.pointer (some ⟨G, 0, none⟩), .agg #[.int .i64 K, .int .i64 A, .int .i64 B]] w (MoveP w N G p n σ (False)) := by
  obtain ⟨W0, hW0⟩ : ∃ W0, w.alloc (.cells #[.int .i64 K, .int .i64 A, .int .i64 B] 56) = W0 := ⟨_, rfl⟩
  have hb0 : Below w.heap.size w W0 := by rw [← hW0]; exact (Below.refl _ w).alloc (Nat.le_refl _) _
  have B0 : Blk W0 w.heap.size 56 #[.int .i64 K, .int .i64 A, .int .i64 B] := by rw [← hW0]; exact Blk.new w 56 _
  have HW0 : Hid (w.alloc (.cells #[.int .i64 K, .int .i64 A, .int .i64 B] 56) = W0) := hW0
  obtain ⟨sv, hG, hT, hL, hbG⟩ := h.below hb0
  have HBW : Hid (Keep N w W0) := Keep.below hb0
  have hup := hL.up
  have HUP : Hid (Ups tb ∧ 256 ≤ n ∧ n ≤ 4096 ∧ tb.length ≤ 1000000 ∧ ∀ t ∈ tb, t.2.ok ∧ 0 ≤ t.1 ∧ t.1 ≤ 4611686018427387904) := hup
  have hnum := number_any A W0 wA
  have hpk := pick_eq K 10 W0 (by omega) wK
  have q0 : W0.cell? ⟨w.heap.size, 0, none⟩ = some (.int .i64 K) := B0.cell 0
  have q1 : W0.cell? ⟨w.heap.size, 1, none⟩ = some (.int .i64 A) := B0.cell 1
  have q2 : W0.cell? ⟨w.heap.size, 2, none⟩ = some (.int .i64 B) := B0.cell 2
  obtain ⟨sa, sc, rfl, _, _, _⟩ := own_shape hT
  have qS : W0.cell? ⟨G, 2, none⟩ = some (.slice sa tb.length sc) := hG.cell 2
  have HG0 : Hid (Blk W0 G 62 (gameC p X (.slice sa tb.length sc) (((n - 200) / 4 : Nat) : Int))) := hG
  have HT0 : Hid (TabV W0 0 (.slice sa tb.length sc) tb) := hT
  have HL0 : Hid (LiveX W0 N p X n σ tb) := hL
  have HB0 : Hid (Blk W0 w.heap.size 56 #[.int .i64 K, .int .i64 A, .int .i64 B]) := B0
  have hn1 := hup.2.1
  have hn2 := hup.2.2.1
  have hlen := hup.2.2.2.1
  clear hW0 h hG hT hL B0 hb0 hup
  go_enter Tryz.func16, Tryz.ntmps16
  go_upto_region 1 with fail
  rw [HW0.out]
  clear HW0
  go_upto_region 2 with (go_at_call 43; refine hnum.mono ?_; rintro e w9 ⟨⟨id, hid, rfl⟩, rfl⟩)
  have hge := mget_any w9 0 (.slice sa tb.length sc) tb HT0.out HUP.out.1 HUP.out.2.2.2.1 (id : Int)
  have hid2 : 0 ≤ (id : Int) ∧ (id : Int) ≤ 4611686018427387904 := by omega
  go_upto_region 3 with (go_at_call 44; refine hge.mono ?_; rintro e w1 ⟨rfl, hb1⟩)
  obtain ⟨W1, hW1⟩ : ∃ W1, w1.alloc (.cells #[.int .i64 ((rectOf (tget (id : Int) tb)).a : Int), .int .i64 ((rectOf (tget (id : Int) tb)).b : Int), .int .i64 ((rectOf (tget (id : Int) tb)).c : Int), .int .i64 ((rectOf (tget (id : Int) tb)).d : Int)] 34) = W1 := ⟨_, rfl⟩
  have hbW : Below w9.heap.size w9 W1 := by rw [← hW1]; exact hb1.alloc hb1.size _
  have B6 : Blk W1 w1.heap.size 34 (boxA (rectOf (tget (id : Int) tb))) := by rw [← hW1]; exact Blk.new w1 34 _
  rw [hW1]
  have HBW1 : Hid (Keep N w W1) := HBW.out.trans (Keep.below hbW)
  have hG1 := HG0.out.below hbW HG0.out.lt
  have hT1 := own_below HT0.out hbW
  have hL1 := HL0.out.below hbW
  have hB1 := HB0.out.below hbW HB0.out.lt
  have p0 : W1.cell? ⟨w.heap.size, 0, none⟩ = some (.int .i64 K) := hB1.cell 0
  have p2 : W1.cell? ⟨w.heap.size, 2, none⟩ = some (.int .i64 B) := hB1.cell 2
  have pX : W1.cell? ⟨G, 1, none⟩ = some (.pointer (some ⟨X, 0, none⟩)) := hG1.cell 1
  have pS : W1.cell? ⟨G, 2, none⟩ = some (.slice sa tb.length sc) := hG1.cell 2
  have pR : W1.cell? ⟨G, 3, none⟩ = some (.int .i64 (((n - 200) / 4 : Nat) : Int)) := hG1.cell 3
  have pD : W1.cell? ⟨G, 0, none⟩ = some (.pointer (some ⟨p, 0, none⟩)) := hG1.cell 0
  have hpk1 := pick_eq K 10 W1 (by omega) wK
  obtain ⟨kk, hkk⟩ : ∃ kk, pickI K 10 = kk := ⟨_, rfl⟩
  rw [hkk] at hpk1 hk
  have HG1 : Hid (Blk W1 G 62 (gameC p X (.slice sa tb.length sc) (((n - 200) / 4 : Nat) : Int))) := hG1
  have HT1 : Hid (TabV W1 0 (.slice sa tb.length sc) tb) := hT1
  have HL1 : Hid (LiveX W1 N p X n σ tb) := hL1
  have HB1 : Hid (Blk W1 w.heap.size 56 #[.int .i64 K, .int .i64 A, .int .i64 B]) := hB1
  have HB6 : Hid (Blk W1 w1.heap.size 34 (boxA (rectOf (tget (id : Int) tb)))) := B6
  have GL1 := hG1.lt
  clear hW1 hbW hG1 hT1 hL1 hB1 B6 hge hnum hpk q0 q1 q2 qS HG0 HT0 HL0 HB0 hb1 hkk
  subst hk
  have _ := wB
  have hop := live_open HL1.out
  go_wp2_with (first
    | (go_at_call 24; refine hpk1.mono ?_; rintro e w8 ⟨rfl, rfl⟩)
    | (go_at_call 21; refine hop.mono ?_; rintro e w3 ⟨X', rfl, hC3, σ3, hL3⟩; have g3 := hC3.blk HG1.out (by unfold own5; omega); have c1 : w3.cell? ⟨G, 1, none⟩ = some (.pointer (some ⟨X, 0, none⟩)) := g3.cell 1; have f1 : w3.frozen? ⟨G, 1, none⟩ = false := g3.frozen 1))
  go_ret
  have o2 : Off (fun k => k = G) w3 (w3.setCell ⟨G, 1, none⟩ (.pointer (some ⟨X', 0, none⟩))) := Off.one w3 _
  have t3 := hC3.row HT1.out (by unfold own5; omega)
  have hbw3 := HBW1.out.trans hC3.keep
  exact ⟨rfl, hbw3.trans (Keep.off o2 (fun k h => h ▸ hbG)), X', σ3, tb, ⟨_, g3.set 1 _, own_offv t3 o2 (fun g hg e => own_ne t3 g3 (by decide) g hg e), hL3.off g3 (by unfold own5; omega) (by decide) (by decide) o2, hbG⟩, hrm, fun h => h.elim⟩
end Go.Proofs.YtdgbgmffpcooeaaGreat
end
