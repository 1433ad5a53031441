/- Walks1 -/
import Derived.Test.YtdgbgmffpcooeaaGreatProg
import Derived.WalkKit
import Derived.WalkSpells
import Derived.WalkLawsBesides
import Derived.Deep.QuietTactic
import Derived.BigQuiet
import Derived.Test.YtdgbgmffpcooeaaGreatK02
section
/- What the small functions of the plane answer: pick, OnGrid, Right, Code, point, square, common. -/
namespace Go.Proofs.YtdgbgmffpcooeaaGreat
open Go.RowKit

abbrev N64 (n : Nat) : Value := .int .i64 (n : Int)

theorem ret_int {k : IntKind} {a b : Int} (h : a = b) : Ending.returned (.int k a) = .returned (.int k b) := by rw [h]
theorem ret_bool {a b : Bool} (h : a = b) : Ending.returned (.bool a) = .returned (.bool b) := by rw [h]
theorem ret_int2 {k l : IntKind} {a b c d : Int} (h : a = b) (g : c = d) : Ending.returned (.tuple #[.int k a, .int l c]) = .returned (.tuple #[.int k b, .int l d]) := by rw [h, g]

set_option maxHeartbeats 400000 in
theorem pick_any (c : Int) (n : Nat) (w : World) (hn : 0 < n) (h : (Lit.int .i64 c).wf = true) :
    Calls Tryz.prog 24 #[.int .i64 c, .int .i64 n] w fun e w' => (∃ r : Nat, r < n ∧ e = .returned (.int .i64 r)) ∧ w' = w := by
  have hn' : (0 : Int) < n := by omega
  by_cases hc : c < 0
  · obtain ⟨r, hr, e⟩ := pick_neg c n hn h hc
    have H : Hid ((wrap64 (-wrap64 (c + 1))).tmod (n : Int) = r) := e
    clear e
    go_enter Tryz.func24, Tryz.ntmps24
    go_wp2
    go_ret
    exact ⟨⟨r, hr, ret_int H.out⟩, rfl⟩
  · obtain ⟨r, hr, e⟩ := pick_pos c n hn
    have H : Hid (c % (n : Int) = r) := e
    clear e
    go_enter Tryz.func24, Tryz.ntmps24
    go_wp2
    go_ret
    exact ⟨⟨r, hr, ret_int H.out⟩, rfl⟩

def onB (x y : Int) : Bool := decide (0 ≤ x ∧ x < 65536 ∧ 0 ≤ y ∧ y < 65536)
set_option maxHeartbeats 400000 in
theorem ongrid_any (x y : Int) (w : World) :
    Calls Tryz.prog 79 #[.int .i64 x, .int .i64 y] w fun e w' => e = .returned (.bool (onB x y)) ∧ w' = w := by
  go_enter Tryz.func79, Tryz.ntmps79
  go_wp2
  all_goals
    go_ret
    refine ⟨ret_bool ?_, rfl⟩
    unfold onB
    first | (rw [decide_eq_decide]; omega) | (symm; rw [decide_eq_false_iff_not]; omega)

set_option maxHeartbeats 400000 in
theorem code_any (x y : Nat) (w : World) (hx : x < 65536) (hy : y < 65536) :
    Calls Tryz.prog 139 #[.int .i64 x, .int .i64 y] w fun e w' => e = .returned (.int .i64 (code x y)) ∧ w' = w := by
  go_enter Tryz.func139, Tryz.ntmps139
  go_wp2
  go_loop [5, 7] (fun c i => ∃ k : Nat, k ≤ 16 ∧ i = .int .i64 k ∧ ∃ n : Nat, Hid (n = cod k x y) ∧ c = .int .i64 n) (fun _ i => 16 - (intOf i).toNat)
  case atStart => exact ⟨0, by omega, rfl, 0, rfl, rfl⟩
  case round =>
    obtain ⟨k, hk, rfl, n, hn, rfl⟩ := hrel
    by_cases hlt : k < 16
    · go_wp2
      refine ⟨⟨k + 1, by omega, by go_num, _, rfl, by rw [code_round n x y k hlt hn.out hx hy]⟩, ?_⟩
      simp [intOf]; omega
    · obtain rfl : k = 16 := by omega
      go_wp2
      go_ret
      exact ⟨ret_int (by rw [hn.out, code]), rfl⟩

set_option maxHeartbeats 400000 in
theorem point_any (c : Nat) (w : World) (hc : c < 4294967296) :
    Calls Tryz.prog 124 #[.int .i64 c] w fun e w' => e = .returned (.tuple #[.int .i64 (dex 16 c), .int .i64 (dey 16 c)]) ∧ w' = w := by
  go_enter Tryz.func124, Tryz.ntmps124
  go_wp2
  go_loop [4, 5, 7] (fun x y i => ∃ k : Nat, k ≤ 16 ∧ i = .int .i64 k ∧ (∃ n : Nat, Hid (n = dex k c) ∧ x = .int .i64 n) ∧ (∃ n : Nat, Hid (n = dey k c) ∧ y = .int .i64 n)) (fun _ _ i => 16 - (intOf i).toNat)
  case atStart => exact ⟨0, by omega, rfl, ⟨0, rfl, rfl⟩, ⟨0, rfl, rfl⟩⟩
  case round =>
    obtain ⟨k, hk, rfl, ⟨n, hn, rfl⟩, ⟨m, hm, rfl⟩⟩ := hrel
    by_cases hlt : k < 16
    · go_wp2
      refine ⟨⟨k + 1, by omega, by go_num, ⟨_, rfl, by rw [dex_round n c k hlt hn.out hc]⟩, ⟨_, rfl, by rw [dey_round m c k hlt hm.out hc]⟩⟩, ?_⟩
      simp [intOf]; omega
    · obtain rfl : k = 16 := by omega
      go_wp2
      go_ret2
      exact ⟨ret_int2 (by rw [hn.out]) (by rw [hm.out]), rfl⟩
end Go.Proofs.YtdgbgmffpcooeaaGreat
end
