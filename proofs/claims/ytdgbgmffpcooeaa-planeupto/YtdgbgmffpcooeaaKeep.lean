/- What the small functions of quartokeep answer: right, meet, square. -/
import Derived.Test.YtdgbgmffpcooeaaNext
import Derived.RegionTactic
import Derived.ChangeAlike
import Derived.BigRegion
namespace Go.Proofs.Ytdgbgmffpcooeaa
open Go.RowKit

theorem Blk.set {W : World} {B : Nat} {t : TypeId} {vs : Array Value} (h : Blk W B t vs) (i : Nat) (v : Value) : Blk (W.setCell ⟨B, i, none⟩ v) B t (vs.setIfInBounds i v) := by
  obtain ⟨hlt, hk⟩ := Array.getElem?_eq_some_iff.1 h
  show (W.heap.modify B _)[B]? = _
  rw [Array.getElem?_eq_getElem (by rw [Array.size_modify]; exact hlt), Array.getElem_modify_self, hk]
  rfl
theorem Blk.other {W : World} {B B' : Nat} {t : TypeId} {vs : Array Value} (h : Blk W B t vs) (hne : B ≠ B') (i : Nat) (v : Value) : Blk (W.setCell ⟨B', i, none⟩ v) B t vs := by
  show (W.setCell ⟨B', i, none⟩ v).heap[B]? = _
  rw [Below.heap_setCell W ⟨B', i, none⟩ v B hne]; exact h
theorem Blk.drew {W : World} {B : Nat} {t : TypeId} {vs : Array Value} (h : Blk W B t vs) : Blk W.drew B t vs := h

set_option maxHeartbeats 1000000 in
theorem kright_any (a b c d : Int) (w : World) :
    Calls Try.prog 15 #[.agg #[.int .i64 a, .int .i64 b, .int .i64 c, .int .i64 d]] w fun e w' => e = .returned (.bool (rightB a b c d)) ∧ Below w.heap.size w w' := by
  go_enter Try.func15, Try.ntmps15
  go_wp2
  all_goals
    go_ret
    refine ⟨ret_bool ?_, (Below.refl _ _).alloc (Nat.le_refl _) _⟩
    unfold rightB
    first | (rw [decide_eq_decide]; omega) | (symm; rw [decide_eq_false_iff_not]; omega)

def meetB (r s : Box) : Bool := decide (r.a ≤ s.c ∧ s.a ≤ r.c ∧ r.b ≤ s.d ∧ s.b ≤ r.d)
set_option maxHeartbeats 1000000 in
theorem meet_any (r s : Box) (w : World) :
    Calls Try.prog 17 #[.agg #[.int .i64 (r.a : Int), .int .i64 (r.b : Int), .int .i64 (r.c : Int), .int .i64 (r.d : Int)], .agg #[.int .i64 (s.a : Int), .int .i64 (s.b : Int), .int .i64 (s.c : Int), .int .i64 (s.d : Int)]] w fun e w' => e = .returned (.bool (meetB r s)) ∧ Below w.heap.size w w' := by
  by_cases h1 : r.a ≤ s.c <;> by_cases h2 : s.a ≤ r.c <;> by_cases h3 : r.b ≤ s.d <;> by_cases h4 : s.b ≤ r.d
  all_goals
    go_enter Try.func17, Try.ntmps17
    go_wp2
    go_ret
    refine ⟨ret_bool ?_, ((Below.refl _ _).alloc (Nat.le_refl _) _).alloc (by simp) _⟩
    unfold meetB
    first | (symm; rw [decide_eq_true_iff]; omega) | (symm; rw [decide_eq_false_iff_not]; omega) | (rw [decide_eq_decide]; omega)

theorem bit_tmod (c j n : Nat) (hn : n < 16) : wrap64 (((c : Int) / 2 ^ j).tmod 2 * 2 ^ n) = ((c / 2 ^ j % 2 * 2 ^ n : Nat) : Int) := by
  rw [pow_cast j, div_cast, Int.tmod_eq_emod_of_nonneg (Int.natCast_nonneg _), show ((c / 2 ^ j : Nat) : Int) % 2 = ((c / 2 ^ j % 2 : Nat) : Int) by omega, pow_cast n, ← Int.natCast_mul]
  have hp : 2 ^ n ≤ 2 ^ 15 := Nat.pow_le_pow_right (by decide) (by omega)
  have : c / 2 ^ j % 2 * 2 ^ n ≤ 1 * 2 ^ n := Nat.mul_le_mul_right _ (by omega)
  exact wrap64_nat _ (by omega)
theorem ksq_x (c n : Nat) (hn : n < 16) : wrap64 ((dex n c : Int) + wrap64 (((c : Int) / 2 ^ (2 * n)).tmod 2 * 2 ^ n)) = (dex (n + 1) c : Int) := by
  have hl := dex_lt n c
  have hp : 2 ^ n ≤ 2 ^ 15 := Nat.pow_le_pow_right (by decide) (by omega)
  have e4 : 4 ^ n = 2 ^ (2 * n) := by rw [show 4 = 2 ^ 2 from rfl, ← Nat.pow_mul]
  have : c / 2 ^ (2 * n) % 2 * 2 ^ n ≤ 1 * 2 ^ n := Nat.mul_le_mul_right _ (by omega)
  rw [bit_tmod c _ n hn, ← Int.natCast_add, dex_top, e4]
  exact wrap64_nat _ (by omega)
theorem ksq_y (c n : Nat) (hn : n < 16) : wrap64 ((dey n c : Int) + wrap64 (((c : Int) / 2 ^ (2 * n + 1)).tmod 2 * 2 ^ n)) = (dey (n + 1) c : Int) := by
  have hl := dey_lt n c
  have hp : 2 ^ n ≤ 2 ^ 15 := Nat.pow_le_pow_right (by decide) (by omega)
  have e4 : 4 ^ n * 2 = 2 ^ (2 * n + 1) := by rw [Nat.pow_succ, show 4 = 2 ^ 2 from rfl, ← Nat.pow_mul]
  have : c / 2 ^ (2 * n + 1) % 2 * 2 ^ n ≤ 1 * 2 ^ n := Nat.mul_le_mul_right _ (by omega)
  rw [bit_tmod c _ n hn, ← Int.natCast_add, dey_top, e4]
  exact wrap64_nat _ (by omega)
theorem ksq_end (x k : Nat) (hx : x + (2 ^ k - 1) < 65536) : wrap64 (wrap64 ((x : Int) + wrap64 (2 ^ k)) - 1) = ((x + (2 ^ k - 1) : Nat) : Int) := by
  have h0 := Nat.two_pow_pos k
  rw [pow_cast, wrap64_nat _ (by omega), ← Int.natCast_add, wrap64_nat _ (by omega)]
  unfold wrap64; omega

set_option maxRecDepth 100000 in
set_option maxHeartbeats 1000000 in
theorem ksquare_any (p k : Nat) (w : World) (hk : k ≤ 16) (hp : (p + 1) * 4 ^ k ≤ 4294967296) (c : Nat) (hc : c = p * 4 ^ k) :
    Calls Try.prog 18 #[.agg #[.int .i64 (c : Int), .int .i64 (k : Int)]] w fun e w' => e = .returned (.agg #[.int .i64 (sqr p k).a, .int .i64 (sqr p k).b, .int .i64 (sqr p k).c, .int .i64 (sqr p k).d]) ∧ Below w.heap.size w w' := by
  have hc' : c < 4294967296 := by
    have q := Nat.pow_pos (n := k) (show 0 < 4 by decide)
    rw [Nat.add_mul] at hp; omega
  clear hp
  have HC : Hid (c = p * 4 ^ k) := hc
  clear hc
  go_enter Try.func18, Try.ntmps18
  go_wp2
  go_loopw [4] (fun i wr => ∃ n : Nat, i = .int .i64 (n : Int) ∧ n ≤ 16 ∧ Blk wr w.heap.size 34 #[.int .i64 (c : Int), .int .i64 (k : Int)] ∧ Blk wr (w.heap.size + 1) 30 #[.int .i64 0, .int .i64 0, .int .i64 0, .int .i64 0] ∧ (∃ X Y : Nat, Hid (X = dex n c) ∧ Hid (Y = dey n c) ∧ Blk wr (w.heap.size + 1 + 1) 30 #[.int .i64 (X : Int), .int .i64 (Y : Int), .int .i64 0, .int .i64 0]) ∧ Below w.heap.size w wr) (fun i _ => 16 - (intOf i).toNat)
  case atStart =>
    have b0 := ((Blk.new w 34 #[.int .i64 (c : Int), .int .i64 (k : Int)]).alloc (.cells #[.int .i64 0, .int .i64 0, .int .i64 0, .int .i64 0] 30)).alloc (.cells #[.int .i64 0, .int .i64 0, .int .i64 0, .int .i64 0] 30)
    have b1 := (Blk.new (w.alloc (.cells #[.int .i64 (c : Int), .int .i64 (k : Int)] 34)) 30 #[.int .i64 0, .int .i64 0, .int .i64 0, .int .i64 0]).alloc (.cells #[.int .i64 0, .int .i64 0, .int .i64 0, .int .i64 0] 30)
    have b2 := Blk.new ((w.alloc (.cells #[.int .i64 (c : Int), .int .i64 (k : Int)] 34)).alloc (.cells #[.int .i64 0, .int .i64 0, .int .i64 0, .int .i64 0] 30)) 30 #[.int .i64 0, .int .i64 0, .int .i64 0, .int .i64 0]
    simp only [World.size_alloc] at b1 b2
    exact ⟨0, rfl, by omega, b0, b1, ⟨0, 0, rfl, rfl, b2⟩, (((Below.refl _ w).alloc (Nat.le_refl _) _).alloc (by simp) _).alloc (by simp; omega) _⟩
  case round =>
    obtain ⟨n, rfl, hn, b0, b1, ⟨X, Y, hX, hY, b2⟩, hB⟩ := hrel
    have c0 : wr.cell? ⟨w.heap.size, 0, none⟩ = some (.int .i64 (c : Int)) := b0.cell 0
    have c1 : wr.cell? ⟨w.heap.size, 1, none⟩ = some (.int .i64 (k : Int)) := b0.cell 1
    have d0 : wr.cell? ⟨w.heap.size + 1 + 1, 0, none⟩ = some (.int .i64 (X : Int)) := b2.cell 0
    have d1 : wr.cell? ⟨w.heap.size + 1 + 1, 1, none⟩ = some (.int .i64 (Y : Int)) := b2.cell 1
    have f0 : wr.frozen? ⟨w.heap.size + 1 + 1, 0, none⟩ = false := b2.frozen 0
    have f1 : wr.frozen? ⟨w.heap.size + 1 + 1, 1, none⟩ = false := b2.frozen 1
    by_cases hlt : n < 16
    · have hlt' : (n : Int) < 16 := by omega
      have ex := ksq_x c n hlt
      have ey := ksq_y c n hlt
      rw [← hX.out] at ex
      rw [← hY.out] at ey
      obtain ⟨X1, hX1⟩ : ∃ X1, X1 = dex (n + 1) c := ⟨_, rfl⟩
      obtain ⟨Y1, hY1⟩ : ∃ Y1, Y1 = dey (n + 1) c := ⟨_, rfl⟩
      rw [← hX1] at ex
      rw [← hY1] at ey
      have EX : Hid (wrap64 ((X : Int) + wrap64 (((c : Int) / 2 ^ (2 * n)).tmod 2 * 2 ^ n)) = (X1 : Int)) := ex
      have EY : Hid (wrap64 ((Y : Int) + wrap64 (((c : Int) / 2 ^ (2 * n + 1)).tmod 2 * 2 ^ n)) = (Y1 : Int)) := ey
      have HX1 : Hid (X1 = dex (n + 1) c) := hX1
      have HY1 : Hid (Y1 = dey (n + 1) c) := hY1
      clear ex ey hX1 hY1
      go_wp2
      go_region
      rw [EX.out]
      have b0' := (b0.other (B' := w.heap.size + 1 + 1) (by omega) 0 (.int .i64 (X1 : Int))).drew
      have b1' := (b1.other (B' := w.heap.size + 1 + 1) (by omega) 0 (.int .i64 (X1 : Int))).drew
      have b2' : Blk (wr.setCell ⟨w.heap.size + 1 + 1, 0, none⟩ (.int .i64 (X1 : Int))).drew (w.heap.size + 1 + 1) 30 #[.int .i64 (X1 : Int), .int .i64 (Y : Int), .int .i64 0, .int .i64 0] := (b2.set 0 (.int .i64 (X1 : Int))).drew
      have hB' := (hB.setCell (p := ⟨w.heap.size + 1 + 1, 0, none⟩) (by simp; omega) (.int .i64 (X1 : Int))).drew
      obtain ⟨W2, hW2⟩ : ∃ W2, (wr.setCell ⟨w.heap.size + 1 + 1, 0, none⟩ (.int .i64 (X1 : Int))).drew = W2 := ⟨_, rfl⟩
      rw [hW2] at b0' b1' b2' hB' ⊢
      clear hW2 c0 c1 d0 d1 f0 f1 b0 b1 b2 hB
      have c0 : W2.cell? ⟨w.heap.size, 0, none⟩ = some (.int .i64 (c : Int)) := b0'.cell 0
      have d1 : W2.cell? ⟨w.heap.size + 1 + 1, 1, none⟩ = some (.int .i64 (Y : Int)) := b2'.cell 1
      have f1 : W2.frozen? ⟨w.heap.size + 1 + 1, 1, none⟩ = false := b2'.frozen 1
      go_wp2
      go_region
      rw [EY.out]
      go_wp2
      go_roundw
      case rel =>
        exact ⟨n + 1, by go_num, by omega, (b0'.other (by omega) _ _).drew, (b1'.other (by omega) _ _).drew, ⟨X1, Y1, HX1, HY1, (b2'.set 1 _).drew⟩, (hB'.setCell (p := ⟨w.heap.size + 1 + 1, 1, none⟩) (by simp; omega) _).drew⟩
      case measure => simp [intOf]; omega
    · have hn16 : n = 16 := by omega
      have hs := sqr_lt p k hk
      have hX2 : (sqr p k).a = X ∧ (sqr p k).c = X + (2 ^ k - 1) := by rw [hX.out, hn16]; simp only [sqr, ← HC.out, and_self]
      have hY2 : (sqr p k).b = Y ∧ (sqr p k).d = Y + (2 ^ k - 1) := by rw [hY.out, hn16]; simp only [sqr, ← HC.out, and_self]
      rw [hX2.2, hY2.2] at hs
      have e1 := ksq_end X k hs.1
      have e2 := ksq_end Y k hs.2
      obtain ⟨X2, hX2'⟩ : ∃ X2, X2 = X + (2 ^ k - 1) := ⟨_, rfl⟩
      obtain ⟨Y2, hY2'⟩ : ∃ Y2, Y2 = Y + (2 ^ k - 1) := ⟨_, rfl⟩
      rw [← hX2'] at e1 hX2
      rw [← hY2'] at e2 hY2
      have E1 : Hid (wrap64 (wrap64 ((X : Int) + wrap64 (2 ^ k)) - 1) = (X2 : Int)) := e1
      have E2 : Hid (wrap64 (wrap64 ((Y : Int) + wrap64 (2 ^ k)) - 1) = (Y2 : Int)) := e2
      have HX2 : Hid ((sqr p k).a = X ∧ (sqr p k).c = X2) := hX2
      have HY2 : Hid ((sqr p k).b = Y ∧ (sqr p k).d = Y2) := hY2
      clear e1 e2 hs hX2 hY2 hX2' hY2'
      have hn' : ¬ (n : Int) < 16 := by omega
      clear hn16
      have d2 : wr.cell? ⟨w.heap.size + 1 + 1, 2, none⟩ = some (.int .i64 0) := b2.cell 2
      have f2 : wr.frozen? ⟨w.heap.size + 1 + 1, 2, none⟩ = false := b2.frozen 2
      go_wp2
      go_region
      rw [E1.out]
      have b0' := (b0.other (B' := w.heap.size + 1 + 1) (by omega) 2 (.int .i64 (X2 : Int))).drew
      have b1' := (b1.other (B' := w.heap.size + 1 + 1) (by omega) 2 (.int .i64 (X2 : Int))).drew
      have b2' : Blk (wr.setCell ⟨w.heap.size + 1 + 1, 2, none⟩ (.int .i64 (X2 : Int))).drew (w.heap.size + 1 + 1) 30 #[.int .i64 (X : Int), .int .i64 (Y : Int), .int .i64 (X2 : Int), .int .i64 0] := (b2.set 2 (.int .i64 (X2 : Int))).drew
      have hB' := (hB.setCell (p := ⟨w.heap.size + 1 + 1, 2, none⟩) (by simp; omega) (.int .i64 (X2 : Int))).drew
      obtain ⟨W2, hW2⟩ : ∃ W2, (wr.setCell ⟨w.heap.size + 1 + 1, 2, none⟩ (.int .i64 (X2 : Int))).drew = W2 := ⟨_, rfl⟩
      rw [hW2] at b0' b1' b2' hB' ⊢
      clear hW2 c0 c1 d0 d1 d2 f0 f1 f2 b0 b1 b2 hB
      have c1 : W2.cell? ⟨w.heap.size, 1, none⟩ = some (.int .i64 (k : Int)) := b0'.cell 1
      have d1 : W2.cell? ⟨w.heap.size + 1 + 1, 1, none⟩ = some (.int .i64 (Y : Int)) := b2'.cell 1
      have d3 : W2.cell? ⟨w.heap.size + 1 + 1, 3, none⟩ = some (.int .i64 0) := b2'.cell 3
      have f3 : W2.frozen? ⟨w.heap.size + 1 + 1, 3, none⟩ = false := b2'.frozen 3
      go_wp2
      go_region
      rw [E2.out]
      have b1 := (b1'.other (B' := w.heap.size + 1 + 1) (by omega) 3 (.int .i64 (Y2 : Int))).drew
      have b2 : Blk (W2.setCell ⟨w.heap.size + 1 + 1, 3, none⟩ (.int .i64 (Y2 : Int))).drew (w.heap.size + 1 + 1) 30 #[.int .i64 (X : Int), .int .i64 (Y : Int), .int .i64 (X2 : Int), .int .i64 (Y2 : Int)] := (b2'.set 3 (.int .i64 (Y2 : Int))).drew
      have hB := (hB'.setCell (p := ⟨w.heap.size + 1 + 1, 3, none⟩) (by simp; omega) (.int .i64 (Y2 : Int))).drew
      obtain ⟨W3, hW3⟩ : ∃ W3, (W2.setCell ⟨w.heap.size + 1 + 1, 3, none⟩ (.int .i64 (Y2 : Int))).drew = W3 := ⟨_, rfl⟩
      rw [hW3] at b1 b2 hB ⊢
      clear hW3 c1 d1 d3 f3 b0' b1' b2' hB'
      have d0 : W3.cell? ⟨w.heap.size + 1 + 1, 0, none⟩ = some (.int .i64 (X : Int)) := b2.cell 0
      have d1 : W3.cell? ⟨w.heap.size + 1 + 1, 1, none⟩ = some (.int .i64 (Y : Int)) := b2.cell 1
      have d2 : W3.cell? ⟨w.heap.size + 1 + 1, 2, none⟩ = some (.int .i64 (X2 : Int)) := b2.cell 2
      have d3 : W3.cell? ⟨w.heap.size + 1 + 1, 3, none⟩ = some (.int .i64 (Y2 : Int)) := b2.cell 3
      have z0 : W3.cell? ⟨w.heap.size + 1, 0, none⟩ = some (.int .i64 0) := b1.cell 0
      have z1 : W3.cell? ⟨w.heap.size + 1, 1, none⟩ = some (.int .i64 0) := b1.cell 1
      have z2 : W3.cell? ⟨w.heap.size + 1, 2, none⟩ = some (.int .i64 0) := b1.cell 2
      have z3 : W3.cell? ⟨w.heap.size + 1, 3, none⟩ = some (.int .i64 0) := b1.cell 3
      have g0 : W3.frozen? ⟨w.heap.size + 1, 0, none⟩ = false := b1.frozen 0
      have g1 : W3.frozen? ⟨w.heap.size + 1, 1, none⟩ = false := b1.frozen 1
      have g2 : W3.frozen? ⟨w.heap.size + 1, 2, none⟩ = false := b1.frozen 2
      have g3 : W3.frozen? ⟨w.heap.size + 1, 3, none⟩ = false := b1.frozen 3
      go_wp2
      have hb2 : Below w.heap.size w ((((W3.setCell ⟨w.heap.size + 1, 0, none⟩ (.int .i64 (X : Int))).setCell ⟨w.heap.size + 1, 1, none⟩ (.int .i64 (Y : Int))).setCell ⟨w.heap.size + 1, 2, none⟩ (.int .i64 (X2 : Int))).setCell ⟨w.heap.size + 1, 3, none⟩ (.int .i64 (Y2 : Int))) := by
        refine Below.setCell (Below.setCell (Below.setCell (Below.setCell hB ?_ _) ?_ _) ?_ _) ?_ _ <;> simp
      refine bodyPost_ret (v := .agg #[.int .i64 (X : Int), .int .i64 (Y : Int), .int .i64 (X2 : Int), .int .i64 (Y2 : Int)]) (by simp [results, Try.results18, go_sem, z0, z1, z2, z3]) rfl ⟨?_, hb2⟩
      rw [HX2.out.1, HX2.out.2, HY2.out.1, HY2.out.2]
end Go.Proofs.Ytdgbgmffpcooeaa
