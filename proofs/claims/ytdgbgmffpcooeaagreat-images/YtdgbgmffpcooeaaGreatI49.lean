/- Nv2 Nv3 Nv4 -/
import Derived.Test.YtdgbgmffpcooeaaGreatI48
namespace Go.Proofs.YtdgbgmffpcooeaaGreat
open Go.RowKit Go.Lib
section
set_option maxRecDepth 100000 in
set_option maxHeartbeats 4000000 in
theorem moves_del (w : World) (N : Nat → Prop) (G p X n : Nat) (σ : PS) (tb : List (Int × Box)) (h : GameX w N G p X n σ (((n - 200) / 4 : Nat) : Int) tb) (hrm : tb.length ≤ (n - 200) / 4) (K A B : Int) (wK : (Lit.int .i64 K).wf = true) (wA : (Lit.int .i64 A).wf = true) (wB : (Lit.int .i64 B).wf = true) (hk : 4 ≤ pickI K 10 ∧ pickI K 10 < 6) :
    Calls Tryz.prog 16 #[.pointer (some ⟨G, 0, none⟩), .agg #[.int .i64 K, .int .i64 A, .int .i64 B]] w (MoveP w N G p n σ (True)) := by
  obtain ⟨W0, hW0⟩ : ∃ W0, w.alloc (.cells #[.int .i64 K, .int .i64 A, .int .i64 B] 56) = W0 := ⟨_, rfl⟩
  have hb0 : Below w.heap.size w W0 := by rw [← hW0]; exact (Below.refl _ w).alloc (Nat.le_refl _) _
  have B0 : Blk W0 w.heap.size 56 #[.int .i64 K, .int .i64 A, .int .i64 B] := by rw [← hW0]; exact Blk.new w 56 _
  have HW0 : Hid (w.alloc (.cells #[.int .i64 K, .int .i64 A, .int .i64 B] 56) = W0) := hW0
  obtain ⟨sv, hG, hT, hL, hbG⟩ := h.below hb0
  have HBW : Hid (Keep N w W0) := Keep.below hb0
  have hup := hL.up
  have HUP : Hid (Ups tb ∧ 256 ≤ n ∧ n ≤ 4096 ∧ tb.length ≤ 1000000 ∧ ∀ t ∈ tb, t.2.ok ∧ 0 ≤ t.1 ∧ t.1 ≤ 4611686018427387904) := hup
  have hnum := number_any A W0 wA
  have hpk := pick_eq K 10 W0 (by omega) wK
  have q0 : W0.cell? ⟨w.heap.size, 0, none⟩ = some (.int .i64 K) := B0.cell 0
  have q1 : W0.cell? ⟨w.heap.size, 1, none⟩ = some (.int .i64 A) := B0.cell 1
  have q2 : W0.cell? ⟨w.heap.size, 2, none⟩ = some (.int .i64 B) := B0.cell 2
  obtain ⟨sa, sc, rfl, _, _, _⟩ := own_shape hT
  have qS : W0.cell? ⟨G, 2, none⟩ = some (.slice sa tb.length sc) := hG.cell 2
  have HG0 : Hid (Blk W0 G 62 (gameC p X (.slice sa tb.length sc) (((n - 200) / 4 : Nat) : Int))) := hG
  have HT0 : Hid (TabV W0 0 (.slice sa tb.length sc) tb) := hT
  have HL0 : Hid (LiveX W0 N p X n σ tb) := hL
  have HB0 : Hid (Blk W0 w.heap.size 56 #[.int .i64 K, .int .i64 A, .int .i64 B]) := B0
  have hn1 := hup.2.1
  have hn2 := hup.2.2.1
  have hlen := hup.2.2.2.1
  clear hW0 h hG hT hL B0 hb0 hup
  go_enter Tryz.func16, Tryz.ntmps16
  go_upto_region 1 with fail
  rw [HW0.out]
  clear HW0
  go_upto_region 2 with (go_at_call 43; refine hnum.mono ?_; rintro e w9 ⟨⟨id, hid, rfl⟩, rfl⟩)
  have hge := mget_any w9 0 (.slice sa tb.length sc) tb HT0.out HUP.out.1 HUP.out.2.2.2.1 (id : Int)
  have hid2 : 0 ≤ (id : Int) ∧ (id : Int) ≤ 4611686018427387904 := by omega
  go_upto_region 3 with (go_at_call 44; refine hge.mono ?_; rintro e w1 ⟨rfl, hb1⟩)
  obtain ⟨W1, hW1⟩ : ∃ W1, w1.alloc (.cells #[.int .i64 ((rectOf (tget (id : Int) tb)).a : Int), .int .i64 ((rectOf (tget (id : Int) tb)).b : Int), .int .i64 ((rectOf (tget (id : Int) tb)).c : Int), .int .i64 ((rectOf (tget (id : Int) tb)).d : Int)] 34) = W1 := ⟨_, rfl⟩
  have hbW : Below w9.heap.size w9 W1 := by rw [← hW1]; exact hb1.alloc hb1.size _
  have B6 : Blk W1 w1.heap.size 34 (boxA (rectOf (tget (id : Int) tb))) := by rw [← hW1]; exact Blk.new w1 34 _
  rw [hW1]
  have HBW1 : Hid (Keep N w W1) := HBW.out.trans (Keep.below hbW)
  have hG1 := HG0.out.below hbW HG0.out.lt
  have hT1 := own_below HT0.out hbW
  have hL1 := HL0.out.below hbW
  have hB1 := HB0.out.below hbW HB0.out.lt
  have p0 : W1.cell? ⟨w.heap.size, 0, none⟩ = some (.int .i64 K) := hB1.cell 0
  have p2 : W1.cell? ⟨w.heap.size, 2, none⟩ = some (.int .i64 B) := hB1.cell 2
  have pX : W1.cell? ⟨G, 1, none⟩ = some (.pointer (some ⟨X, 0, none⟩)) := hG1.cell 1
  have pS : W1.cell? ⟨G, 2, none⟩ = some (.slice sa tb.length sc) := hG1.cell 2
  have pR : W1.cell? ⟨G, 3, none⟩ = some (.int .i64 (((n - 200) / 4 : Nat) : Int)) := hG1.cell 3
  have pD : W1.cell? ⟨G, 0, none⟩ = some (.pointer (some ⟨p, 0, none⟩)) := hG1.cell 0
  have hpk1 := pick_eq K 10 W1 (by omega) wK
  obtain ⟨kk, hkk⟩ : ∃ kk, pickI K 10 = kk := ⟨_, rfl⟩
  rw [hkk] at hpk1 hk
  have HG1 : Hid (Blk W1 G 62 (gameC p X (.slice sa tb.length sc) (((n - 200) / 4 : Nat) : Int))) := hG1
  have HT1 : Hid (TabV W1 0 (.slice sa tb.length sc) tb) := hT1
  have HL1 : Hid (LiveX W1 N p X n σ tb) := hL1
  have HB1 : Hid (Blk W1 w.heap.size 56 #[.int .i64 K, .int .i64 A, .int .i64 B]) := hB1
  have HB6 : Hid (Blk W1 w1.heap.size 34 (boxA (rectOf (tget (id : Int) tb)))) := B6
  have GL1 := hG1.lt
  clear hW1 hbW hG1 hT1 hL1 hB1 B6 hge hnum hpk q0 q1 q2 qS HG0 HT0 HL0 HB0 hb1 hkk
  have _ := wB
  obtain ⟨hk1, hk2⟩ := hk
  have hk4 : ¬ kk < 4 := by omega
  have hdl := live_del HL1.out hid2 hrm
  cases hg : tget (id : Int) tb with
  | none =>
    rw [hg] at hdl
    simp only [Option.isSome_none, Bool.false_eq_true, false_and, true_and, false_or] at hdl
    clear p2 pS pR pD HB6
    go_wp2_with (first
      | (go_at_call 24; refine hpk1.mono ?_; rintro e w8 ⟨rfl, rfl⟩)
      | (go_at_call 35; refine hdl.mono ?_; rintro e w3 ⟨hC3, rfl, σ3, hL3, hA3⟩))
    go_ret
    exact ⟨rfl, HBW1.out.trans hC3.keep, X, σ3, tb, ⟨_, hC3.blk HG1.out (by unfold own5; omega), hC3.row HT1.out (by unfold own5; omega), hL3, hbG⟩, hrm, fun _ => hA3⟩
  | some v0 =>
    rw [hg] at hdl
    simp only [Option.isSome_some, Bool.true_eq_false, false_and, true_and, or_false] at hdl
    clear p2 pR pD HB6
    go_wp2_with (first
      | (go_at_call 24; refine hpk1.mono ?_; rintro e w8 ⟨rfl, rfl⟩)
      | (go_at_call 35; refine hdl.mono ?_; rintro e w3 ⟨hC3, rfl, σ3, hL3, hA3⟩; have g3 := hC3.blk HG1.out (by unfold own5; omega); have t3 := hC3.row HT1.out (by unfold own5; omega); have c2 : w3.cell? ⟨G, 2, none⟩ = some (.slice sa tb.length sc) := g3.cell 2; have hmd := mdel_any w3 0 (.slice sa tb.length sc) tb t3 HUP.out.2.2.2.1 (id : Int); have g3l := g3.lt)
      | (go_at_call 45; refine hmd.mono ?_; rintro e w4 ⟨ov, rfl, hT4, hb4⟩; obtain ⟨oa, oc, rfl, _, _, _⟩ := own_shape hT4; have g4 := g3.below hb4 g3l; have d2 : w4.cell? ⟨G, 2, none⟩ = some (.slice sa tb.length sc) := g4.cell 2; have f2 : w4.frozen? ⟨G, 2, none⟩ = false := g4.frozen 2))
    go_ret
    have o2 : Off (fun k => k = G) w4 (w4.setCell ⟨G, 2, none⟩ (.slice oa (tdel (id : Int) tb).length oc)) := Off.one w4 _
    have hl := tdel_len (id := (id : Int)) (tb := tb)
    have hbw3 := HBW1.out.trans hC3.keep
    have hbw4 := hbw3.trans (Keep.below hb4)
    exact ⟨rfl, hbw4.trans (Keep.off o2 (fun k h => h ▸ hbG)), X, σ3, tdel (id : Int) tb, ⟨_, g4.set 2 _, own_offv (own_mono hT4 (Nat.zero_le _)) o2 (fun g hg e => own_ne hT4 g4 (by decide) g hg e), (hL3.below hb4).off g4 (by unfold own5; omega) (by decide) (by decide) o2, hbG⟩, by omega, fun _ => hA3⟩
end
end Go.Proofs.YtdgbgmffpcooeaaGreat
namespace Go.Proofs.YtdgbgmffpcooeaaGreat
section
open Go.RowKit Go.Lib
end
section
open Go.RowKit Go.Lib
end
end Go.Proofs.YtdgbgmffpcooeaaGreat
