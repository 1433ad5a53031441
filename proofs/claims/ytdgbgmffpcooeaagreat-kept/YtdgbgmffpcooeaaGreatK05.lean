/- W3 -/
import Derived.Test.YtdgbgmffpcooeaaGreatK04
section
/- What common answers. -/
namespace Go.Proofs.YtdgbgmffpcooeaaGreat
open Go.RowKit

theorem bcell {W w1 : World} (hb : Below W.heap.size W w1) : (∀ b o, b < W.heap.size → w1.cell? ⟨b, o, none⟩ = W.cell? ⟨b, o, none⟩) ∧ (∀ b o, b < W.heap.size → w1.frozen? ⟨b, o, none⟩ = W.frozen? ⟨b, o, none⟩) :=
  ⟨fun b o h => hb.cell (p := ⟨b, o, none⟩) h, fun b o h => hb.frozen (p := ⟨b, o, none⟩) h⟩


set_option maxHeartbeats 400000 in
theorem common_yes (a1 b1 c1 d1 a2 b2 c2 d2 m1 m2 m3 m4 : Int) (w : World) (hm1 : (if a1 < a2 then a2 else a1) = m1) (hm2 : (if b1 < b2 then b2 else b1) = m2) (hm3 : (if c2 < c1 then c2 else c1) = m3) (hm4 : (if d2 < d1 then d2 else d1) = m4) (hR : rightB m1 m2 m3 m4 = true) :
    Calls Tryz.prog 123 #[.agg #[.int .i64 a1, .int .i64 b1, .int .i64 c1, .int .i64 d1], .agg #[.int .i64 a2, .int .i64 b2, .int .i64 c2, .int .i64 d2]] w fun e w' =>
      e = .returned (.tuple #[.agg #[.int .i64 m1, .int .i64 m2, .int .i64 m3, .int .i64 m4], .bool true]) ∧ Below w.heap.size w w' := by
  go_enter Tryz.func123, Tryz.ntmps123
  go_wp2_with fail
  clear hm1 hm2 hm3 hm4
  refine (right_any _ _ _ _ _).mono ?_
  rintro e w1 ⟨rfl, hb⟩
  obtain ⟨hc, hf⟩ := bcell hb
  have hz : w.heap.size + 1 + 1 + 1 < w1.heap.size := by have := hb.size; simp at this; omega
  have h0 : Below w.heap.size w w1 := (((((Below.refl _ _).alloc (Nat.le_refl _) _).alloc (by simp) _).alloc (by simp; omega) _).alloc (by simp; omega) _).trans (hb.mono (by simp; omega))
  go_wp2
  exact bodyPost_ret (v := .tuple #[.agg #[.int .i64 m1, .int .i64 m2, .int .i64 m3, .int .i64 m4], .bool true]) (by simp [results, Tryz.results123, go_sem, hc]) rfl
    ⟨rfl, (((h0.setCell (p := ⟨w.heap.size + 1 + 1, 0, none⟩) (by simp; omega) _).setCell (p := ⟨w.heap.size + 1 + 1, 1, none⟩) (by simp; omega) _).setCell (p := ⟨w.heap.size + 1 + 1, 2, none⟩) (by simp; omega) _).setCell (p := ⟨w.heap.size + 1 + 1, 3, none⟩) (by simp; omega) _⟩

set_option maxHeartbeats 400000 in
theorem common_no (a1 b1 c1 d1 a2 b2 c2 d2 m1 m2 m3 m4 : Int) (w : World) (hm1 : (if a1 < a2 then a2 else a1) = m1) (hm2 : (if b1 < b2 then b2 else b1) = m2) (hm3 : (if c2 < c1 then c2 else c1) = m3) (hm4 : (if d2 < d1 then d2 else d1) = m4) (hR : rightB m1 m2 m3 m4 = false) :
    Calls Tryz.prog 123 #[.agg #[.int .i64 a1, .int .i64 b1, .int .i64 c1, .int .i64 d1], .agg #[.int .i64 a2, .int .i64 b2, .int .i64 c2, .int .i64 d2]] w fun e w' =>
      e = .returned (.tuple #[.agg #[.int .i64 0, .int .i64 0, .int .i64 0, .int .i64 0], .bool false]) ∧ Below w.heap.size w w' := by
  go_enter Tryz.func123, Tryz.ntmps123
  go_wp2_with fail
  clear hm1 hm2 hm3 hm4
  refine (right_any _ _ _ _ _).mono ?_
  rintro e w1 ⟨rfl, hb⟩
  obtain ⟨hc, hf⟩ := bcell hb
  have hz : w.heap.size + 1 + 1 + 1 < w1.heap.size := by have := hb.size; simp at this; omega
  have h0 : Below w.heap.size w w1 := (((((Below.refl _ _).alloc (Nat.le_refl _) _).alloc (by simp) _).alloc (by simp; omega) _).alloc (by simp; omega) _).trans (hb.mono (by simp; omega))
  go_wp2
  exact bodyPost_ret (v := .tuple #[.agg #[.int .i64 0, .int .i64 0, .int .i64 0, .int .i64 0], .bool false]) (by simp [results, Tryz.results123, go_sem, hc]) rfl
    ⟨rfl, (((h0.setCell (p := ⟨w.heap.size + 1 + 1, 0, none⟩) (by simp; omega) _).setCell (p := ⟨w.heap.size + 1 + 1, 1, none⟩) (by simp; omega) _).setCell (p := ⟨w.heap.size + 1 + 1, 2, none⟩) (by simp; omega) _).setCell (p := ⟨w.heap.size + 1 + 1, 3, none⟩) (by simp; omega) _⟩


theorem rightB_box {r : Box} (h : r.ok) : rightB r.a r.b r.c r.d = true := by
  obtain ⟨h1, h2, h3, h4⟩ := h
  unfold rightB; rw [decide_eq_true_iff]; omega
theorem rightB_box_not {r : Box} (h : ¬ r.ok) : rightB r.a r.b r.c r.d = false := by
  unfold rightB; rw [decide_eq_false_iff_not]; intro g; exact h ⟨by omega, by omega, by omega, by omega⟩
theorem both_max (x y : Nat) : (if (x : Int) < y then (y : Int) else x) = ((max x y : Nat) : Int) := by split <;> omega
theorem both_min (x y : Nat) : (if (y : Int) < x then (y : Int) else x) = ((min x y : Nat) : Int) := by split <;> omega

theorem common_box_yes (s r : Box) (w : World) (h : (both s r).ok) :
    Calls Tryz.prog 123 #[.agg #[.int .i64 s.a, .int .i64 s.b, .int .i64 s.c, .int .i64 s.d], .agg #[.int .i64 r.a, .int .i64 r.b, .int .i64 r.c, .int .i64 r.d]] w fun e w' =>
      e = .returned (.tuple #[.agg #[.int .i64 (both s r).a, .int .i64 (both s r).b, .int .i64 (both s r).c, .int .i64 (both s r).d], .bool true]) ∧ Below w.heap.size w w' :=
  common_yes _ _ _ _ _ _ _ _ _ _ _ _ w (both_max _ _) (both_max _ _) (both_min _ _) (both_min _ _) (rightB_box h)
theorem common_box_no (s r : Box) (w : World) (h : ¬ (both s r).ok) :
    Calls Tryz.prog 123 #[.agg #[.int .i64 s.a, .int .i64 s.b, .int .i64 s.c, .int .i64 s.d], .agg #[.int .i64 r.a, .int .i64 r.b, .int .i64 r.c, .int .i64 r.d]] w fun e w' =>
      e = .returned (.tuple #[.agg #[.int .i64 0, .int .i64 0, .int .i64 0, .int .i64 0], .bool false]) ∧ Below w.heap.size w w' :=
  common_no _ _ _ _ _ _ _ _ _ _ _ _ w (both_max _ _) (both_max _ _) (both_min _ _) (both_min _ _) (rightB_box_not h)
end Go.Proofs.YtdgbgmffpcooeaaGreat
end
