/- Nv0 Nv1 Nv2 -/
import Derived.Test.YtdgbgmffpcooeaaGreatC50
section
/- A game's moves: what they leave. -/
namespace Go.Proofs.YtdgbgmffpcooeaaGreat
open Go.RowKit Go.Lib
def pickI (c m : Int) : Int := (if c < 0 then -(c + 1) else c) % m
theorem pickI_lt (c m : Int) (h : 0 < m) : 0 ≤ pickI c m ∧ pickI c m < m := ⟨Int.emod_nonneg _ (by omega), Int.emod_lt_of_pos _ h⟩
theorem pickI_neg (c m : Int) (h : (Lit.int .i64 c).wf = true) (hc : c < 0) : (wrap64 (-wrap64 (c + 1))).tmod m = pickI c m := by
  have hb := bounds_i64 h
  have e1 : wrap64 (c + 1) = c + 1 := by unfold wrap64; omega
  have e2 : wrap64 (-(c + 1)) = -(c + 1) := by unfold wrap64; omega
  rw [e1, e2, Int.tmod_eq_emod_of_nonneg (by omega), pickI, if_pos hc]
set_option maxHeartbeats 400000 in
theorem pick_eq (c m : Int) (w : World) (hm : 0 < m) (h : (Lit.int .i64 c).wf = true) :
    Calls Tryz.prog 24 #[.int .i64 c, .int .i64 m] w fun e w' => e = .returned (.int .i64 (pickI c m)) ∧ w' = w := by
  by_cases hc : c < 0
  · have H : Hid ((wrap64 (-wrap64 (c + 1))).tmod m = pickI c m) := pickI_neg c m h hc
    go_enter Tryz.func24, Tryz.ntmps24
    go_wp2
    go_ret
    exact ⟨ret_int H.out, rfl⟩
  · have H : Hid (c % m = pickI c m) := by show c % m = _; unfold pickI; rw [if_neg hc]
    go_enter Tryz.func24, Tryz.ntmps24
    go_wp2
    go_ret
    exact ⟨ret_int H.out, rfl⟩
/-- What a move answers and leaves. -/
def MoveP (w : World) (N : Nat → Prop) (G p n : Nat) (σ : PS) (cheap : Prop) (e : Ending) (w' : World) : Prop :=
  e = .returned (.bool true) ∧ Keep N w w' ∧ ∃ X' σ' tb', GameX w' N G p X' n σ' (((n - 200) / 4 : Nat) : Int) tb' ∧ tb'.length ≤ (n - 200) / 4 ∧ (cheap → Adds σ σ' 400)
end Go.Proofs.YtdgbgmffpcooeaaGreat
end
section
/- A game's moves: a rectangle is put in. -/
namespace Go.Proofs.YtdgbgmffpcooeaaGreat
open Go.RowKit Go.Lib
set_option maxRecDepth 100000 in
set_option maxHeartbeats 4000000 in
theorem moves_put (w : World) (N : Nat → Prop) (G p X n : Nat) (σ : PS) (tb : List (Int × Box)) (h : GameX w N G p X n σ (((n - 200) / 4 : Nat) : Int) tb) (hrm : tb.length ≤ (n - 200) / 4) (K A B : Int) (wK : (Lit.int .i64 K).wf = true) (wA : (Lit.int .i64 A).wf = true) (wB : (Lit.int .i64 B).wf = true) (hk : 0 ≤ pickI K 10 ∧ pickI K 10 < 4) :
    Calls Tryz.prog 16 #[.pointer (some ⟨G, 0, none⟩), .agg #[.int .i64 K, .int .i64 A, .int .i64 B]] w (MoveP w N G p n σ (True)) := by
  obtain ⟨W0, hW0⟩ : ∃ W0, w.alloc (.cells #[.int .i64 K, .int .i64 A, .int .i64 B] 56) = W0 := ⟨_, rfl⟩
  have hb0 : Below w.heap.size w W0 := by rw [← hW0]; exact (Below.refl _ w).alloc (Nat.le_refl _) _
  have B0 : Blk W0 w.heap.size 56 #[.int .i64 K, .int .i64 A, .int .i64 B] := by rw [← hW0]; exact Blk.new w 56 _
  have HW0 : Hid (w.alloc (.cells #[.int .i64 K, .int .i64 A, .int .i64 B] 56) = W0) := hW0
  obtain ⟨sv, hG, hT, hL, hbG⟩ := h.below hb0
  have HBW : Hid (Keep N w W0) := Keep.below hb0
  have hup := hL.up
  have HUP : Hid (Ups tb ∧ 256 ≤ n ∧ n ≤ 4096 ∧ tb.length ≤ 1000000 ∧ ∀ t ∈ tb, t.2.ok ∧ 0 ≤ t.1 ∧ t.1 ≤ 4611686018427387904) := hup
  have hnum := number_any A W0 wA
  have hpk := pick_eq K 10 W0 (by omega) wK
  have q0 : W0.cell? ⟨w.heap.size, 0, none⟩ = some (.int .i64 K) := B0.cell 0
  have q1 : W0.cell? ⟨w.heap.size, 1, none⟩ = some (.int .i64 A) := B0.cell 1
  have q2 : W0.cell? ⟨w.heap.size, 2, none⟩ = some (.int .i64 B) := B0.cell 2
  obtain ⟨sa, sc, rfl, _, _, _⟩ := own_shape hT
  have qS : W0.cell? ⟨G, 2, none⟩ = some (.slice sa tb.length sc) := hG.cell 2
  have HG0 : Hid (Blk W0 G 62 (gameC p X (.slice sa tb.length sc) (((n - 200) / 4 : Nat) : Int))) := hG
  have HT0 : Hid (TabV W0 0 (.slice sa tb.length sc) tb) := hT
  have HL0 : Hid (LiveX W0 N p X n σ tb) := hL
  have HB0 : Hid (Blk W0 w.heap.size 56 #[.int .i64 K, .int .i64 A, .int .i64 B]) := B0
  have hn1 := hup.2.1
  have hn2 := hup.2.2.1
  have hlen := hup.2.2.2.1
  clear hW0 h hG hT hL B0 hb0 hup
  go_enter Tryz.func16, Tryz.ntmps16
  go_upto_region 1 with fail
  rw [HW0.out]
  clear HW0
  go_upto_region 2 with (go_at_call 43; refine hnum.mono ?_; rintro e w9 ⟨⟨id, hid, rfl⟩, rfl⟩)
  have hge := mget_any w9 0 (.slice sa tb.length sc) tb HT0.out HUP.out.1 HUP.out.2.2.2.1 (id : Int)
  have hid2 : 0 ≤ (id : Int) ∧ (id : Int) ≤ 4611686018427387904 := by omega
  go_upto_region 3 with (go_at_call 44; refine hge.mono ?_; rintro e w1 ⟨rfl, hb1⟩)
  obtain ⟨W1, hW1⟩ : ∃ W1, w1.alloc (.cells #[.int .i64 ((rectOf (tget (id : Int) tb)).a : Int), .int .i64 ((rectOf (tget (id : Int) tb)).b : Int), .int .i64 ((rectOf (tget (id : Int) tb)).c : Int), .int .i64 ((rectOf (tget (id : Int) tb)).d : Int)] 34) = W1 := ⟨_, rfl⟩
  have hbW : Below w9.heap.size w9 W1 := by rw [← hW1]; exact hb1.alloc hb1.size _
  have B6 : Blk W1 w1.heap.size 34 (boxA (rectOf (tget (id : Int) tb))) := by rw [← hW1]; exact Blk.new w1 34 _
  rw [hW1]
  have HBW1 : Hid (Keep N w W1) := HBW.out.trans (Keep.below hbW)
  have hG1 := HG0.out.below hbW HG0.out.lt
  have hT1 := own_below HT0.out hbW
  have hL1 := HL0.out.below hbW
  have hB1 := HB0.out.below hbW HB0.out.lt
  have p0 : W1.cell? ⟨w.heap.size, 0, none⟩ = some (.int .i64 K) := hB1.cell 0
  have p2 : W1.cell? ⟨w.heap.size, 2, none⟩ = some (.int .i64 B) := hB1.cell 2
  have pX : W1.cell? ⟨G, 1, none⟩ = some (.pointer (some ⟨X, 0, none⟩)) := hG1.cell 1
  have pS : W1.cell? ⟨G, 2, none⟩ = some (.slice sa tb.length sc) := hG1.cell 2
  have pR : W1.cell? ⟨G, 3, none⟩ = some (.int .i64 (((n - 200) / 4 : Nat) : Int)) := hG1.cell 3
  have pD : W1.cell? ⟨G, 0, none⟩ = some (.pointer (some ⟨p, 0, none⟩)) := hG1.cell 0
  have hpk1 := pick_eq K 10 W1 (by omega) wK
  obtain ⟨kk, hkk⟩ : ∃ kk, pickI K 10 = kk := ⟨_, rfl⟩
  rw [hkk] at hpk1 hk
  have HG1 : Hid (Blk W1 G 62 (gameC p X (.slice sa tb.length sc) (((n - 200) / 4 : Nat) : Int))) := hG1
  have HT1 : Hid (TabV W1 0 (.slice sa tb.length sc) tb) := hT1
  have HL1 : Hid (LiveX W1 N p X n σ tb) := hL1
  have HB1 : Hid (Blk W1 w.heap.size 56 #[.int .i64 K, .int .i64 A, .int .i64 B]) := hB1
  have HB6 : Hid (Blk W1 w1.heap.size 34 (boxA (rectOf (tget (id : Int) tb)))) := B6
  have GL1 := hG1.lt
  clear hW1 hbW hG1 hT1 hL1 hB1 B6 hge hnum hpk q0 q1 q2 qS HG0 HT0 HL0 HB0 hb1 hkk
  obtain ⟨hk1, hk2⟩ := hk
  have hrc := rect_any W1 B wB
  go_upto_region 6 with (first
    | (go_at_call 24; refine hpk1.mono ?_; rintro e w8 ⟨rfl, rfl⟩)
    | (go_at_call 26; refine hrc.mono ?_; rintro e w2 ⟨⟨v, hv, rfl⟩, hb2⟩))
  obtain ⟨W3, hW3⟩ : ∃ W3, w2.alloc (.cells #[.int .i64 (v.a : Int), .int .i64 (v.b : Int), .int .i64 (v.c : Int), .int .i64 (v.d : Int)] 34) = W3 := ⟨_, rfl⟩
  have hb3 : Below w2.heap.size w2 W3 := by rw [← hW3]; exact (Below.refl _ w2).alloc (Nat.le_refl _) _
  have B9 : Blk W3 w2.heap.size 34 (boxC v) := by rw [← hW3]; exact Blk.new w2 34 _
  have hG3 : GameX W3 N G p X n σ (((n - 200) / 4 : Nat) : Int) tb := (GameX.below ⟨_, HG1.out, HT1.out, HL1.out, hbG⟩ hb2).below hb3
  have g3 := (HG1.out.below hb2 HG1.out.lt).below hb3 (HG1.out.below hb2 HG1.out.lt).lt
  rw [hW3]
  have rS : W3.cell? ⟨G, 2, none⟩ = some (.slice sa tb.length sc) := g3.cell 2
  have rR : W3.cell? ⟨G, 3, none⟩ = some (.int .i64 (((n - 200) / 4 : Nat) : Int)) := g3.cell 3
  have s0 : W3.cell? ⟨w2.heap.size, 0, none⟩ = some (.int .i64 (v.a : Int)) := B9.cell 0
  have s1 : W3.cell? ⟨w2.heap.size, 1, none⟩ = some (.int .i64 (v.b : Int)) := B9.cell 1
  have s2 : W3.cell? ⟨w2.heap.size, 2, none⟩ = some (.int .i64 (v.c : Int)) := B9.cell 2
  have s3 : W3.cell? ⟨w2.heap.size, 3, none⟩ = some (.int .i64 (v.d : Int)) := B9.cell 3
  obtain ⟨rm, hrme⟩ : ∃ rm, (n - 200) / 4 = rm := ⟨_, rfl⟩
  have hrm0 : 0 < rm := by omega
  have hrm0' : (0 : Int) < (rm : Int) := by omega
  have HG3 : Hid (GameX W3 N G p X n σ (((n - 200) / 4 : Nat) : Int) tb) := hG3
  have HRM : Hid ((n - 200) / 4 = rm) := hrme
  have HBW3 : Hid (Keep N w W3) := (HBW1.out.trans (Keep.below hb2)).trans (Keep.below hb3)
  rw [hrme] at rR hrm
  clear hW3 hb3 B9 g3 hG3 hrc hrme p0 p2 pX pS pR pD HB6
  cases hg : tget (id : Int) tb with
  | none =>
    have HG : Hid (tget (id : Int) tb = none) := hg
    by_cases hfull : rm ≤ tb.length
    · have hf1 : (rm : Int) ≤ (tb.length : Int) := by omega
      go_quiet (fail)
      obtain ⟨W5, hW5⟩ : ∃ W5, W3.drewN nq = W5 := ⟨_, rfl⟩
      have hb5 : Below W3.heap.size W3 W5 := by rw [← hW5]; exact below_drewN W3 nq _
      have r5 : W5.cell? ⟨G, 3, none⟩ = some (.int .i64 (rm : Int)) := by rw [← hW5]; exact rR
      rw [hW5]
      clear hW5
      go_wp2
      go_ret
      exact ⟨rfl, HBW3.out.trans (Keep.below hb5), X, σ, tb, HG3.out.below hb5, by rw [HRM.out]; exact hrm, fun _ => (Adds.refl σ).mono (by omega)⟩
    · have hf1 : ¬ (rm : Int) ≤ (tb.length : Int) := by omega
      have hl2 : (tput (id : Int) v tb).length ≤ (n - 200) / 4 := by rw [tput_len_new hg, HRM.out]; omega
      go_quiet (fail)
      obtain ⟨W5, hW5⟩ : ∃ W5, W3.drewN nq = W5 := ⟨_, rfl⟩
      have hb5 : Below W3.heap.size W3 W5 := by rw [← hW5]; exact below_drewN W3 nq _
      have u0 : W5.cell? ⟨w2.heap.size, 0, none⟩ = some (.int .i64 (v.a : Int)) := by rw [← hW5]; exact s0
      have u1 : W5.cell? ⟨w2.heap.size, 1, none⟩ = some (.int .i64 (v.b : Int)) := by rw [← hW5]; exact s1
      have u2 : W5.cell? ⟨w2.heap.size, 2, none⟩ = some (.int .i64 (v.c : Int)) := by rw [← hW5]; exact s2
      have u3 : W5.cell? ⟨w2.heap.size, 3, none⟩ = some (.int .i64 (v.d : Int)) := by rw [← hW5]; exact s3
      have r5 : W5.cell? ⟨G, 3, none⟩ = some (.int .i64 (rm : Int)) := by rw [← hW5]; exact rR
      have hgp := gput_any W5 N G p X n σ _ tb (HG3.out.below hb5) (id : Int) hid2 v hv (by rw [HRM.out]; exact hrm) hl2
      rw [hW5]
      clear hW5 s0 s1 s2 s3 rR rS
      go_wp2_with (go_at_call 25; refine hgp.mono ?_; rintro e w6 ⟨rfl, hs6, σ6, hG6, hA6⟩)
      go_ret
      exact ⟨rfl, (HBW3.out.trans (Keep.below hb5)).trans hs6, X, σ6, _, hG6, hl2, fun _ => hA6⟩
  | some v0 =>
    have hl2 : (tput (id : Int) v tb).length ≤ (n - 200) / 4 := by rw [tput_len HUP.out.1 hg, HRM.out]; exact hrm
    by_cases hfull : rm ≤ tb.length
    · have hf1 : (rm : Int) ≤ (tb.length : Int) := by omega
      go_quiet (fail)
      obtain ⟨W5, hW5⟩ : ∃ W5, W3.drewN nq = W5 := ⟨_, rfl⟩
      have hb5 : Below W3.heap.size W3 W5 := by rw [← hW5]; exact below_drewN W3 nq _
      have u0 : W5.cell? ⟨w2.heap.size, 0, none⟩ = some (.int .i64 (v.a : Int)) := by rw [← hW5]; exact s0
      have u1 : W5.cell? ⟨w2.heap.size, 1, none⟩ = some (.int .i64 (v.b : Int)) := by rw [← hW5]; exact s1
      have u2 : W5.cell? ⟨w2.heap.size, 2, none⟩ = some (.int .i64 (v.c : Int)) := by rw [← hW5]; exact s2
      have u3 : W5.cell? ⟨w2.heap.size, 3, none⟩ = some (.int .i64 (v.d : Int)) := by rw [← hW5]; exact s3
      have r5 : W5.cell? ⟨G, 3, none⟩ = some (.int .i64 (rm : Int)) := by rw [← hW5]; exact rR
      have hgp := gput_any W5 N G p X n σ _ tb (HG3.out.below hb5) (id : Int) hid2 v hv (by rw [HRM.out]; exact hrm) hl2
      rw [hW5]
      clear hW5 s0 s1 s2 s3 rR rS
      go_wp2_with (go_at_call 25; refine hgp.mono ?_; rintro e w6 ⟨rfl, hs6, σ6, hG6, hA6⟩)
      go_ret
      exact ⟨rfl, (HBW3.out.trans (Keep.below hb5)).trans hs6, X, σ6, _, hG6, hl2, fun _ => hA6⟩
    · have hf1 : ¬ (rm : Int) ≤ (tb.length : Int) := by omega
      go_quiet (fail)
      obtain ⟨W5, hW5⟩ : ∃ W5, W3.drewN nq = W5 := ⟨_, rfl⟩
      have hb5 : Below W3.heap.size W3 W5 := by rw [← hW5]; exact below_drewN W3 nq _
      have u0 : W5.cell? ⟨w2.heap.size, 0, none⟩ = some (.int .i64 (v.a : Int)) := by rw [← hW5]; exact s0
      have u1 : W5.cell? ⟨w2.heap.size, 1, none⟩ = some (.int .i64 (v.b : Int)) := by rw [← hW5]; exact s1
      have u2 : W5.cell? ⟨w2.heap.size, 2, none⟩ = some (.int .i64 (v.c : Int)) := by rw [← hW5]; exact s2
      have u3 : W5.cell? ⟨w2.heap.size, 3, none⟩ = some (.int .i64 (v.d : Int)) := by rw [← hW5]; exact s3
      have r5 : W5.cell? ⟨G, 3, none⟩ = some (.int .i64 (rm : Int)) := by rw [← hW5]; exact rR
      have hgp := gput_any W5 N G p X n σ _ tb (HG3.out.below hb5) (id : Int) hid2 v hv (by rw [HRM.out]; exact hrm) hl2
      rw [hW5]
      clear hW5 s0 s1 s2 s3 rR rS
      go_wp2_with (go_at_call 25; refine hgp.mono ?_; rintro e w6 ⟨rfl, hs6, σ6, hG6, hA6⟩)
      go_ret
      exact ⟨rfl, (HBW3.out.trans (Keep.below hb5)).trans hs6, X, σ6, _, hG6, hl2, fun _ => hA6⟩
end Go.Proofs.YtdgbgmffpcooeaaGreat
end
section
/- A game's moves: a rectangle is taken out. -/
namespace Go.Proofs.YtdgbgmffpcooeaaGreat
open Go.RowKit Go.Lib
set_option maxRecDepth 100000 in
set_option maxHeartbeats 4000000 in
theorem moves_del (w : World) (N : Nat → Prop) (G p X n : Nat) (σ : PS) (tb : List (Int × Box)) (h : GameX w N G p X n σ (((n - 200) / 4 : Nat) : Int) tb) (hrm : tb.length ≤ (n - 200) / 4) (K A B : Int) (wK : (Lit.int .i64 K).wf = true) (wA : (Lit.int .i64 A).wf = true) (wB : (Lit.int .i64 B).wf = true) (hk : 4 ≤ pickI K 10 ∧ pickI K 10 < 6) :
    Calls Tryz.prog 16 #[.pointer (some ⟨G, 0, none⟩), .agg #[.int .i64 K, .int .i64 A, .int .i64 B]] w (MoveP w N G p n σ (True)) := by
  obtain ⟨W0, hW0⟩ : ∃ W0, w.alloc (.cells #[.int .i64 K, .int .i64 A, .int .i64 B] 56) = W0 := ⟨_, rfl⟩
  have hb0 : Below w.heap.size w W0 := by rw [← hW0]; exact (Below.refl _ w).alloc (Nat.le_refl _) _
  have B0 : Blk W0 w.heap.size 56 #[.int .i64 K, .int .i64 A, .int .i64 B] := by rw [← hW0]; exact Blk.new w 56 _
  have HW0 : Hid (w.alloc (.cells #[.int .i64 K, .int .i64 A, .int .i64 B] 56) = W0) := hW0
  obtain ⟨sv, hG, hT, hL, hbG⟩ := h.below hb0
  have HBW : Hid (Keep N w W0) := Keep.below hb0
  have hup := hL.up
  have HUP : Hid (Ups tb ∧ 256 ≤ n ∧ n ≤ 4096 ∧ tb.length ≤ 1000000 ∧ ∀ t ∈ tb, t.2.ok ∧ 0 ≤ t.1 ∧ t.1 ≤ 4611686018427387904) := hup
  have hnum := number_any A W0 wA
  have hpk := pick_eq K 10 W0 (by omega) wK
  have q0 : W0.cell? ⟨w.heap.size, 0, none⟩ = some (.int .i64 K) := B0.cell 0
  have q1 : W0.cell? ⟨w.heap.size, 1, none⟩ = some (.int .i64 A) := B0.cell 1
  have q2 : W0.cell? ⟨w.heap.size, 2, none⟩ = some (.int .i64 B) := B0.cell 2
  obtain ⟨sa, sc, rfl, _, _, _⟩ := own_shape hT
  have qS : W0.cell? ⟨G, 2, none⟩ = some (.slice sa tb.length sc) := hG.cell 2
  have HG0 : Hid (Blk W0 G 62 (gameC p X (.slice sa tb.length sc) (((n - 200) / 4 : Nat) : Int))) := hG
  have HT0 : Hid (TabV W0 0 (.slice sa tb.length sc) tb) := hT
  have HL0 : Hid (LiveX W0 N p X n σ tb) := hL
  have HB0 : Hid (Blk W0 w.heap.size 56 #[.int .i64 K, .int .i64 A, .int .i64 B]) := B0
  have hn1 := hup.2.1
  have hn2 := hup.2.2.1
  have hlen := hup.2.2.2.1
  clear hW0 h hG hT hL B0 hb0 hup
  go_enter Tryz.func16, Tryz.ntmps16
  go_upto_region 1 with fail
  rw [HW0.out]
  clear HW0
  go_upto_region 2 with (go_at_call 43; refine hnum.mono ?_; rintro e w9 ⟨⟨id, hid, rfl⟩, rfl⟩)
  have hge := mget_any w9 0 (.slice sa tb.length sc) tb HT0.out HUP.out.1 HUP.out.2.2.2.1 (id : Int)
  have hid2 : 0 ≤ (id : Int) ∧ (id : Int) ≤ 4611686018427387904 := by omega
  go_upto_region 3 with (go_at_call 44; refine hge.mono ?_; rintro e w1 ⟨rfl, hb1⟩)
  obtain ⟨W1, hW1⟩ : ∃ W1, w1.alloc (.cells #[.int .i64 ((rectOf (tget (id : Int) tb)).a : Int), .int .i64 ((rectOf (tget (id : Int) tb)).b : Int), .int .i64 ((rectOf (tget (id : Int) tb)).c : Int), .int .i64 ((rectOf (tget (id : Int) tb)).d : Int)] 34) = W1 := ⟨_, rfl⟩
  have hbW : Below w9.heap.size w9 W1 := by rw [← hW1]; exact hb1.alloc hb1.size _
  have B6 : Blk W1 w1.heap.size 34 (boxA (rectOf (tget (id : Int) tb))) := by rw [← hW1]; exact Blk.new w1 34 _
  rw [hW1]
  have HBW1 : Hid (Keep N w W1) := HBW.out.trans (Keep.below hbW)
  have hG1 := HG0.out.below hbW HG0.out.lt
  have hT1 := own_below HT0.out hbW
  have hL1 := HL0.out.below hbW
  have hB1 := HB0.out.below hbW HB0.out.lt
  have p0 : W1.cell? ⟨w.heap.size, 0, none⟩ = some (.int .i64 K) := hB1.cell 0
  have p2 : W1.cell? ⟨w.heap.size, 2, none⟩ = some (.int .i64 B) := hB1.cell 2
  have pX : W1.cell? ⟨G, 1, none⟩ = some (.pointer (some ⟨X, 0, none⟩)) := hG1.cell 1
  have pS : W1.cell? ⟨G, 2, none⟩ = some (.slice sa tb.length sc) := hG1.cell 2
  have pR : W1.cell? ⟨G, 3, none⟩ = some (.int .i64 (((n - 200) / 4 : Nat) : Int)) := hG1.cell 3
  have pD : W1.cell? ⟨G, 0, none⟩ = some (.pointer (some ⟨p, 0, none⟩)) := hG1.cell 0
  have hpk1 := pick_eq K 10 W1 (by omega) wK
  obtain ⟨kk, hkk⟩ : ∃ kk, pickI K 10 = kk := ⟨_, rfl⟩
  rw [hkk] at hpk1 hk
  have HG1 : Hid (Blk W1 G 62 (gameC p X (.slice sa tb.length sc) (((n - 200) / 4 : Nat) : Int))) := hG1
  have HT1 : Hid (TabV W1 0 (.slice sa tb.length sc) tb) := hT1
  have HL1 : Hid (LiveX W1 N p X n σ tb) := hL1
  have HB1 : Hid (Blk W1 w.heap.size 56 #[.int .i64 K, .int .i64 A, .int .i64 B]) := hB1
  have HB6 : Hid (Blk W1 w1.heap.size 34 (boxA (rectOf (tget (id : Int) tb)))) := B6
  have GL1 := hG1.lt
  clear hW1 hbW hG1 hT1 hL1 hB1 B6 hge hnum hpk q0 q1 q2 qS HG0 HT0 HL0 HB0 hb1 hkk
  have _ := wB
  obtain ⟨hk1, hk2⟩ := hk
  have hk4 : ¬ kk < 4 := by omega
  have hdl := live_del HL1.out hid2 hrm
  cases hg : tget (id : Int) tb with
  | none =>
    rw [hg] at hdl
    simp only [Option.isSome_none, Bool.false_eq_true, false_and, true_and, false_or] at hdl
    clear p2 pS pR pD HB6
    go_wp2_with (first
      | (go_at_call 24; refine hpk1.mono ?_; rintro e w8 ⟨rfl, rfl⟩)
      | (go_at_call 35; refine hdl.mono ?_; rintro e w3 ⟨hC3, rfl, σ3, hL3, hA3⟩))
    go_ret
    exact ⟨rfl, HBW1.out.trans hC3.keep, X, σ3, tb, ⟨_, hC3.blk HG1.out (by unfold own5; omega), hC3.row HT1.out (by unfold own5; omega), hL3, hbG⟩, hrm, fun _ => hA3⟩
  | some v0 =>
    rw [hg] at hdl
    simp only [Option.isSome_some, Bool.true_eq_false, false_and, true_and, or_false] at hdl
    clear p2 pR pD HB6
    go_wp2_with (first
      | (go_at_call 24; refine hpk1.mono ?_; rintro e w8 ⟨rfl, rfl⟩)
      | (go_at_call 35; refine hdl.mono ?_; rintro e w3 ⟨hC3, rfl, σ3, hL3, hA3⟩; have g3 := hC3.blk HG1.out (by unfold own5; omega); have t3 := hC3.row HT1.out (by unfold own5; omega); have c2 : w3.cell? ⟨G, 2, none⟩ = some (.slice sa tb.length sc) := g3.cell 2; have hmd := mdel_any w3 0 (.slice sa tb.length sc) tb t3 HUP.out.2.2.2.1 (id : Int); have g3l := g3.lt)
      | (go_at_call 45; refine hmd.mono ?_; rintro e w4 ⟨ov, rfl, hT4, hb4⟩; obtain ⟨oa, oc, rfl, _, _, _⟩ := own_shape hT4; have g4 := g3.below hb4 g3l; have d2 : w4.cell? ⟨G, 2, none⟩ = some (.slice sa tb.length sc) := g4.cell 2; have f2 : w4.frozen? ⟨G, 2, none⟩ = false := g4.frozen 2))
    go_ret
    have o2 : Off (fun k => k = G) w4 (w4.setCell ⟨G, 2, none⟩ (.slice oa (tdel (id : Int) tb).length oc)) := Off.one w4 _
    have hl := tdel_len (id := (id : Int)) (tb := tb)
    have hbw3 := HBW1.out.trans hC3.keep
    have hbw4 := hbw3.trans (Keep.below hb4)
    exact ⟨rfl, hbw4.trans (Keep.off o2 (fun k h => h ▸ hbG)), X, σ3, tdel (id : Int) tb, ⟨_, g4.set 2 _, own_offv (own_mono hT4 (Nat.zero_le _)) o2 (fun g hg e => own_ne hT4 g4 (by decide) g hg e), (hL3.below hb4).off g4 (by unfold own5; omega) (by decide) (by decide) o2, hbG⟩, by omega, fun _ => hA3⟩
end Go.Proofs.YtdgbgmffpcooeaaGreat
end
