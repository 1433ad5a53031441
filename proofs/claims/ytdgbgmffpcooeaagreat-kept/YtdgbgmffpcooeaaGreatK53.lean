/- Kq3 No2 -/
import Derived.Test.YtdgbgmffpcooeaaGreatK52
section
/- Copies of what is safe: what is put into one is not in the other. -/
namespace Go.Proofs.YtdgbgmffpcooeaaGreat
open Go.RowKit Go.Lib
set_option maxRecDepth 100000 in
set_option maxHeartbeats 4000000 in
theorem copies_any (w : World) (N : Nat → Prop) (G p X n : Nat) (σ : PS) (sv : Value) (tb : List (Int × Box)) (hGw : Blk w G 62 (gameC p X sv (((n - 200) / 4 : Nat) : Int))) (hLw : LiveX w N p X n σ tb) (mv : Value) (hm : TabV w 0 mv tb) (hrm : tb.length ≤ (n - 200) / 4) :
    Calls Tryz.prog 22 #[.pointer (some ⟨G, 0, none⟩), .agg #[mv]] w fun e w' => e = .returned (.bool true) ∧ Below w.heap.size w w' := by
  obtain ⟨ma, mc, rfl, _, _, _⟩ := own_shape hm
  obtain ⟨W0, hW0⟩ : ∃ W0, w.alloc (.cells #[.slice ma tb.length mc] 60) = W0 := ⟨_, rfl⟩
  have hb0 : Below w.heap.size w W0 := by rw [← hW0]; exact (Below.refl _ w).alloc (Nat.le_refl _) _
  have B0 : Blk W0 w.heap.size 60 #[.slice ma tb.length mc] := by rw [← hW0]; exact Blk.new w 60 _
  have HW0 : Hid (w.alloc (.cells #[.slice ma tb.length mc] 60) = W0) := hW0
  have hG : Blk W0 G 62 (gameC p X sv (((n - 200) / 4 : Nat) : Int)) := (hb0.block G hGw.lt).trans hGw
  have hL := hLw.below hb0
  have hup := hL.up
  have hn1 := hup.2.1
  have HU : Hid (Ups tb) := hup.1
  have hM0 := own_below hm hb0
  have him := live_image hL
  have cD : W0.cell? ⟨G, 0, none⟩ = some (.pointer (some ⟨p, 0, none⟩)) := hG.cell 0
  have HG0 : Hid (Blk W0 G 62 (gameC p X sv (((n - 200) / 4 : Nat) : Int))) := hG
  have HS0 : Hid (Blk W0 w.heap.size 60 #[.slice ma tb.length mc]) := B0
  have HM0 : Hid (TabV W0 0 (.slice ma tb.length mc) tb) := hM0
  have HBW0 : Hid (Below w.heap.size w W0) := hb0
  clear hW0 hb0 hGw hLw hG hL hm hM0 B0 hup
  go_enter Tryz.func22, Tryz.ntmps22
  go_upto_region 1 with fail
  rw [HW0.out]
  go_upto_region 2 with (go_at_call 18; refine him.mono ?_; rintro e w1 ⟨img, rfl, hb1, hI⟩)
  have HG : Hid (Blk w1 G 62 (gameC p X sv (((n - 200) / 4 : Nat) : Int))) := HG0.out.below hb1 HG0.out.lt
  have HS : Hid (Blk w1 w.heap.size 60 #[.slice ma tb.length mc]) := HS0.out.below hb1 HS0.out.lt
  have HM : Hid (TabV w1 0 (.slice ma tb.length mc) tb) := own_below HM0.out hb1
  have HW : Hid (Below w.heap.size w w1) := HBW0.out.trans (hb1.mono HBW0.out.size)
  have hl1 := s_load hI w1
  clear him cD HG0 HS0 HM0 HBW0 hb1 HW0
  go_upto_region 3 with (go_at_call 19; refine hl1.mono ?_; rintro e w2 ⟨pa, Fa, rfl, hDa, hFa, hb2⟩)
  have hl2 := s_load hI w2
  clear hl1
  go_upto_region 6 with (go_at_call 19; refine hl2.mono ?_; rintro e w3 ⟨pb, Fb, rfl, hDb, hFb2, hb3⟩)
  have hs2 := hb2.size
  have hs3 := hb3.size
  have hFa2 := hDa.2.1
  have hFb3 := hDb.2.1
  have hFb : ∀ k, Fb k → w1.heap.size ≤ k := fun k hk => by have := hFb2 k hk; omega
  have hop := s_open (hDa.below hb3)
  have HDb3 : Hid (DiskS w3 Fb pb n tb) := hDb
  have HB3 : Hid (Below w1.heap.size w1 w3) := hb2.trans (hb3.mono hs2)
  clear hl2 hDa hDb hb2 hb3 hI
  go_upto_region 9 with (go_at_call 21; refine hop.mono ?_; rintro e w4 ⟨Xa, σa, Fa', rfl, o4, hL4, hF4⟩)
  have HB4 : Hid (Below w1.heap.size w1 w4) := HB3.out.trans (o4.below (by omega) (fun k hk => hFa k hk))
  have HDb4 : Hid (DiskS w4 Fb pb n tb) := HDb3.out.keep o4 (fun k h1 h2 => by have := hFb2 k h1; have := hFa2 k h2; omega)
  have HL4 : Hid (LiveS w4 Fa' pa Xa n σa tb) := hL4
  have g4 := HG.out.below HB4.out HG.out.lt
  have s4 := HS.out.below HB4.out HS.out.lt
  obtain ⟨rm, hrme⟩ : ∃ rm, (n - 200) / 4 = rm := ⟨_, rfl⟩
  have HRM : Hid ((n - 200) / 4 = rm) := hrme
  have HGr : Hid (Blk w1 G 62 (gameC p X sv (rm : Int))) := by show Blk _ _ _ _; rw [← hrme]; exact HG.out
  rw [hrme] at g4 hrm
  clear HG
  have HG : Hid (Blk w1 G 62 (gameC p X sv (rm : Int))) := HGr.out
  have r4 : w4.cell? ⟨G, 3, none⟩ = some (.int .i64 (rm : Int)) := g4.cell 3
  have m4 : w4.cell? ⟨w.heap.size, 0, none⟩ = some (.slice ma tb.length mc) := s4.cell 0
  clear hrme HGr hop o4 hL4 g4 s4 HDb3 HB3
  by_cases hfull : tb.length < rm
  · have hf1 : (tb.length : Int) < (rm : Int) := by omega
    go_quiet (fail)
    obtain ⟨W5, hW5⟩ : ∃ W5, w4.drewN nq = W5 := ⟨_, rfl⟩
    have hb5 : Below w4.heap.size w4 W5 := by rw [← hW5]; exact below_drewN w4 nq _
    rw [hW5]
    have hl2 : (tput 500000 ⟨7, 7, 7, 7⟩ tb).length ≤ (n - 200) / 4 := by
      rw [HRM.out]
      cases hg : tget (500000 : Int) tb with
      | none => rw [tput_len_new hg]; omega
      | some v0 => rw [tput_len HU.out hg]; omega
    have hpt := s_put (HL4.out.below hb5) (id := 500000) (by omega) (v := ⟨7, 7, 7, 7⟩) ⟨by simp, by simp, by simp, by simp⟩ (by rw [HRM.out]; exact hrm) hl2
    simp only [boxC] at hpt
    have HB5 : Hid (Below w1.heap.size w1 W5) := HB4.out.trans (hb5.mono HB4.out.size)
    have HDb5 : Hid (DiskS W5 Fb pb n tb) := HDb4.out.below hb5
    have hs5 := HB5.out.size
    clear hW5 hb5 r4 m4 hl2
    go_upto_region 13 with (go_at_call 10; refine hpt.mono ?_; rintro e w6 ⟨rfl, o6⟩)
    have HB : Hid (Below w1.heap.size w1 w6) := HB5.out.trans (o6.below hs5 (fun k hk => by have := hF4 k hk; rcases this with h | h; exact hFa k h; omega))
    have HDb : Hid (DiskS w6 Fb pb n tb) := HDb5.out.keep o6 (fun k h1 h2 => by have h8 := hFb2 k h1; have h9 := hFb3 k h1; have := hF4 k h2; rcases this with h | h; have := hFa2 k h; omega; omega)
    clear hpt HB5 HDb5 o6
    · skip
      have hop2 := s_open HDb.out
      go_upto_region 16 with (go_at_call 21; refine hop2.mono ?_; rintro e w7 ⟨X7, σ7, Fb', rfl, o7, hL7, hF7⟩)
      have hB7 : Below w1.heap.size w1 w7 := HB.out.trans (o7.below (by have := HB.out.size; omega) (fun k hk => by have := hFb k hk; omega))
      have g7 := HG.out.below hB7 HG.out.lt
      have s7 := HS.out.below hB7 HS.out.lt
      have cR : w7.cell? ⟨G, 3, none⟩ = some (.int .i64 (rm : Int)) := g7.cell 3
      obtain ⟨W8, hW8⟩ : ∃ W8, w7.alloc (.cells #[.pointer (some ⟨pb, 0, none⟩), .pointer (some ⟨X7, 0, none⟩), .slice none 0 0, .int .i64 (rm : Int)] 62) = W8 := ⟨_, rfl⟩
      have hb8 : Below w7.heap.size w7 W8 := by rw [← hW8]; exact (Below.refl _ w7).alloc (Nat.le_refl _) _
      have G8 : Blk W8 w7.heap.size 62 (gameC pb X7 (.slice none 0 0) (rm : Int)) := by rw [← hW8]; exact Blk.new w7 62 _
      have HW8 : Hid (w7.alloc (.cells #[.pointer (some ⟨pb, 0, none⟩), .pointer (some ⟨X7, 0, none⟩), .slice none 0 0, .int .i64 (rm : Int)] 62) = W8) := hW8
      have hs7 := hB7.size
      have HB8 : Hid (Below w1.heap.size w1 W8) := hB7.trans (hb8.mono (by omega))
      have hal := s_alike (hL7.below hb8) G8 (.slice ma tb.length mc) (own_below HM.out HB8.out)
      have s8 := HS.out.below HB8.out HS.out.lt
      have cM : W8.cell? ⟨w.heap.size, 0, none⟩ = some (.slice ma tb.length mc) := s8.cell 0
      clear hop2 hW8 hb8 G8 o7 hL7 g7 s7 s8 hB7
      go_upto_region 17 with fail
      rw [HW8.out]
      go_wp2_with (go_at_call 17; refine hal.mono ?_; rintro e w9 ⟨rfl, o9, _⟩)
      go_ret
      have hB9 : Below w1.heap.size w1 w9 := HB8.out.trans (o9.below (by have := HB8.out.size; omega) (fun k hk => by have := hF7 k hk; have := HB.out.size; rcases hF7 k hk with h | h; exact hFb k h; omega))
      exact ⟨rfl, HW.out.trans (hB9.mono (by have := HW.out.size; omega))⟩
  · have hf1 : ¬ (tb.length : Int) < (rm : Int) := by omega
    go_quiet (fail)
    obtain ⟨W5, hW5⟩ : ∃ W5, w4.drewN nq = W5 := ⟨_, rfl⟩
    have hb5 : Below w4.heap.size w4 W5 := by rw [← hW5]; exact below_drewN w4 nq _
    rw [hW5]
    have HB : Hid (Below w1.heap.size w1 W5) := HB4.out.trans (hb5.mono HB4.out.size)
    have HDb : Hid (DiskS W5 Fb pb n tb) := HDb4.out.below hb5
    clear hW5 hb5 r4 m4
    · skip
      have hop2 := s_open HDb.out
      go_upto_region 16 with (go_at_call 21; refine hop2.mono ?_; rintro e w7 ⟨X7, σ7, Fb', rfl, o7, hL7, hF7⟩)
      have hB7 : Below w1.heap.size w1 w7 := HB.out.trans (o7.below (by have := HB.out.size; omega) (fun k hk => by have := hFb k hk; omega))
      have g7 := HG.out.below hB7 HG.out.lt
      have s7 := HS.out.below hB7 HS.out.lt
      have cR : w7.cell? ⟨G, 3, none⟩ = some (.int .i64 (rm : Int)) := g7.cell 3
      obtain ⟨W8, hW8⟩ : ∃ W8, w7.alloc (.cells #[.pointer (some ⟨pb, 0, none⟩), .pointer (some ⟨X7, 0, none⟩), .slice none 0 0, .int .i64 (rm : Int)] 62) = W8 := ⟨_, rfl⟩
      have hb8 : Below w7.heap.size w7 W8 := by rw [← hW8]; exact (Below.refl _ w7).alloc (Nat.le_refl _) _
      have G8 : Blk W8 w7.heap.size 62 (gameC pb X7 (.slice none 0 0) (rm : Int)) := by rw [← hW8]; exact Blk.new w7 62 _
      have HW8 : Hid (w7.alloc (.cells #[.pointer (some ⟨pb, 0, none⟩), .pointer (some ⟨X7, 0, none⟩), .slice none 0 0, .int .i64 (rm : Int)] 62) = W8) := hW8
      have hs7 := hB7.size
      have HB8 : Hid (Below w1.heap.size w1 W8) := hB7.trans (hb8.mono (by omega))
      have hal := s_alike (hL7.below hb8) G8 (.slice ma tb.length mc) (own_below HM.out HB8.out)
      have s8 := HS.out.below HB8.out HS.out.lt
      have cM : W8.cell? ⟨w.heap.size, 0, none⟩ = some (.slice ma tb.length mc) := s8.cell 0
      clear hop2 hW8 hb8 G8 o7 hL7 g7 s7 s8 hB7
      go_upto_region 17 with fail
      rw [HW8.out]
      go_wp2_with (go_at_call 17; refine hal.mono ?_; rintro e w9 ⟨rfl, o9, _⟩)
      go_ret
      have hB9 : Below w1.heap.size w1 w9 := HB8.out.trans (o9.below (by have := HB8.out.size; omega) (fun k hk => by have := hF7 k hk; have := HB.out.size; rcases hF7 k hk with h | h; exact hFb k h; omega))
      exact ⟨rfl, HW.out.trans (hB9.mono (by have := HW.out.size; omega))⟩
end Go.Proofs.YtdgbgmffpcooeaaGreat
end
section
/- Told: the walk. -/
namespace Go.Proofs.YtdgbgmffpcooeaaGreat
open Go.RowKit Go.Lib
structure MvR where
  k : Int
  a : Int
  b : Int
/-- Where the moves of a script lie. -/
structure MAt (w : World) (so : Option Addr) (ls : Nat) (O : Nat → MvR) : Prop where
  at_ : ∀ i, i < ls → ∃ a, so = some a ∧ a.block < w.heap.size ∧ w.cell? (a.add (i * 3)) = some (.int .i64 (O i).k) ∧ w.cell? ⟨(a.add (i * 3)).block, (a.add (i * 3)).off + 1, none⟩ = some (.int .i64 (O i).a) ∧ w.cell? ⟨(a.add (i * 3)).block, (a.add (i * 3)).off + 2, none⟩ = some (.int .i64 (O i).b)
  wf : ∀ i, i < ls → (Lit.int .i64 (O i).k).wf = true ∧ (Lit.int .i64 (O i).a).wf = true ∧ (Lit.int .i64 (O i).b).wf = true
theorem moves_any (w : World) (N : Nat → Prop) (G p X n : Nat) (σ : PS) (tb : List (Int × Box)) (h : GameX w N G p X n σ (((n - 200) / 4 : Nat) : Int) tb) (hrm : tb.length ≤ (n - 200) / 4) (K A B : Int) (wK : (Lit.int .i64 K).wf = true) (wA : (Lit.int .i64 A).wf = true) (wB : (Lit.int .i64 B).wf = true) :
    Calls Tryz.prog 16 #[.pointer (some ⟨G, 0, none⟩), .agg #[.int .i64 K, .int .i64 A, .int .i64 B]] w (MoveP w N G p n σ (pickI K 10 < 8)) := by
  have hp := pickI_lt K 10 (by omega)
  have weak : ∀ (c : Prop) e w', (pickI K 10 < 8 → c) → MoveP w N G p n σ c e w' → MoveP w N G p n σ (pickI K 10 < 8) e w' := fun c e w' hc ⟨h1, h2, X', σ', tb', h3, h4, h5⟩ => ⟨h1, h2, X', σ', tb', h3, h4, fun h => h5 (hc h)⟩
  by_cases h4 : pickI K 10 < 4
  · exact (moves_put w N G p X n σ tb h hrm K A B wK wA wB ⟨hp.1, h4⟩).mono (fun e w' => weak True e w' (fun _ => trivial))
  · by_cases h6 : pickI K 10 < 6
    · exact (moves_del w N G p X n σ tb h hrm K A B wK wA wB ⟨by omega, h6⟩).mono (fun e w' => weak True e w' (fun _ => trivial))
    · by_cases h8 : pickI K 10 < 8
      · exact (moves_get w N G p X n σ tb h hrm K A B wK wA wB ⟨by omega, h8⟩).mono (fun e w' => weak True e w' (fun _ => trivial))
      · by_cases h9 : pickI K 10 = 8
        · exact (moves_win w N G p X n σ tb h hrm K A B wK wA wB h9).mono (fun e w' => weak False e w' (fun h => by omega))
        · exact (moves_open w N G p X n σ tb h hrm K A B wK wA wB (by omega)).mono (fun e w' => weak False e w' (fun h => by omega))
end Go.Proofs.YtdgbgmffpcooeaaGreat
end
