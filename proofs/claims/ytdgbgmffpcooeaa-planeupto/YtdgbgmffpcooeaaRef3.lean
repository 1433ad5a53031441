/- What the document's own square answers. -/
import Derived.Test.YtdgbgmffpcooeaaRef2
namespace Go.Proofs.Ytdgbgmffpcooeaa
open Go.RowKit

set_option maxRecDepth 100000 in
set_option maxHeartbeats 1000000 in
theorem rsquare_any (c f : Nat) (w : World) (hf : f ≤ 32) (hs : (psq c f).c < 65536 ∧ (psq c f).d < 65536) :
    Calls Try.prog 37 #[.int .i64 (c : Int), .int .i64 (f : Int)] w fun e w' => e = .returned (.agg #[.int .i64 (psq c f).a, .int .i64 (psq c f).b, .int .i64 (psq c f).c, .int .i64 (psq c f).d]) ∧ Below w.heap.size w w' := by
  have HS : Hid ((psq c f).c < 65536 ∧ (psq c f).d < 65536) := hs
  clear hs
  go_enter Try.func37, Try.ntmps37
  go_wp2
  go_loopw [6] (fun i wr => ∃ n : Nat, i = .int .i64 (n : Int) ∧ n ≤ 16 ∧ Blk wr w.heap.size 30 #[.int .i64 0, .int .i64 0, .int .i64 0, .int .i64 0] ∧ (∃ X Y : Nat, Hid (X = dex n c) ∧ Hid (Y = dey n c) ∧ Blk wr (w.heap.size + 1) 30 #[.int .i64 (X : Int), .int .i64 (Y : Int), .int .i64 0, .int .i64 0]) ∧ Below w.heap.size w wr) (fun i _ => 16 - (intOf i).toNat)
  case atStart =>
    have b1 := (Blk.new w 30 #[.int .i64 0, .int .i64 0, .int .i64 0, .int .i64 0]).alloc (.cells #[.int .i64 0, .int .i64 0, .int .i64 0, .int .i64 0] 30)
    have b2 := Blk.new (w.alloc (.cells #[.int .i64 0, .int .i64 0, .int .i64 0, .int .i64 0] 30)) 30 #[.int .i64 0, .int .i64 0, .int .i64 0, .int .i64 0]
    simp only [World.size_alloc] at b1 b2
    exact ⟨0, rfl, by omega, b1, ⟨0, 0, rfl, rfl, b2⟩, ((Below.refl _ w).alloc (Nat.le_refl _) _).alloc (by simp) _⟩
  case round =>
    obtain ⟨n, rfl, hn, b1, ⟨X, Y, hX, hY, b2⟩, hB⟩ := hrel
    have d0 : wr.cell? ⟨w.heap.size + 1, 0, none⟩ = some (.int .i64 (X : Int)) := b2.cell 0
    have d1 : wr.cell? ⟨w.heap.size + 1, 1, none⟩ = some (.int .i64 (Y : Int)) := b2.cell 1
    have f0 : wr.frozen? ⟨w.heap.size + 1, 0, none⟩ = false := b2.frozen 0
    have f1 : wr.frozen? ⟨w.heap.size + 1, 1, none⟩ = false := b2.frozen 1
    by_cases hlt : n < 16
    · have hlt' : (n : Int) < 16 := by omega
      have ex := ksq_x c n hlt
      have ey := ksq_y c n hlt
      rw [← hX.out] at ex
      rw [← hY.out] at ey
      obtain ⟨X1, hX1⟩ : ∃ X1, X1 = dex (n + 1) c := ⟨_, rfl⟩
      obtain ⟨Y1, hY1⟩ : ∃ Y1, Y1 = dey (n + 1) c := ⟨_, rfl⟩
      rw [← hX1] at ex
      rw [← hY1] at ey
      have EX : Hid (wrap64 ((X : Int) + wrap64 (((c : Int) / 2 ^ (2 * n)).tmod 2 * 2 ^ n)) = (X1 : Int)) := ex
      have EY : Hid (wrap64 ((Y : Int) + wrap64 (((c : Int) / 2 ^ (2 * n + 1)).tmod 2 * 2 ^ n)) = (Y1 : Int)) := ey
      have HX1 : Hid (X1 = dex (n + 1) c) := hX1
      have HY1 : Hid (Y1 = dey (n + 1) c) := hY1
      clear ex ey hX1 hY1
      go_wp2
      go_region
      rw [EX.out]
      have b1' := (b1.other (B' := w.heap.size + 1) (by omega) 0 (.int .i64 (X1 : Int))).drew
      have b2' : Blk (wr.setCell ⟨w.heap.size + 1, 0, none⟩ (.int .i64 (X1 : Int))).drew (w.heap.size + 1) 30 #[.int .i64 (X1 : Int), .int .i64 (Y : Int), .int .i64 0, .int .i64 0] := (b2.set 0 (.int .i64 (X1 : Int))).drew
      have hB' := (hB.setCell (p := ⟨w.heap.size + 1, 0, none⟩) (by simp) (.int .i64 (X1 : Int))).drew
      obtain ⟨W2, hW2⟩ : ∃ W2, (wr.setCell ⟨w.heap.size + 1, 0, none⟩ (.int .i64 (X1 : Int))).drew = W2 := ⟨_, rfl⟩
      rw [hW2] at b1' b2' hB' ⊢
      clear hW2 d0 d1 f0 f1 b1 b2 hB
      have d1 : W2.cell? ⟨w.heap.size + 1, 1, none⟩ = some (.int .i64 (Y : Int)) := b2'.cell 1
      have f1 : W2.frozen? ⟨w.heap.size + 1, 1, none⟩ = false := b2'.frozen 1
      go_wp2
      go_region
      rw [EY.out]
      go_wp2
      go_roundw
      case rel =>
        exact ⟨n + 1, by go_num, by omega, (b1'.other (by omega) _ _).drew, ⟨X1, Y1, HX1, HY1, (b2'.set 1 _).drew⟩, (hB'.setCell (p := ⟨w.heap.size + 1, 1, none⟩) (by simp) _).drew⟩
      case measure => simp [intOf]; omega
    · have hn16 : n = 16 := by omega
      have hs := HS.out
      obtain ⟨kx, hkx⟩ : ∃ kx, kx = (f + 1) / 2 := ⟨_, rfl⟩
      obtain ⟨ky, hky⟩ : ∃ ky, ky = f / 2 := ⟨_, rfl⟩
      have hX2 : (psq c f).a = X ∧ (psq c f).c = X + (2 ^ kx - 1) := by rw [hX.out, hn16, hkx]; simp only [psq, and_self]
      have hY2 : (psq c f).b = Y ∧ (psq c f).d = Y + (2 ^ ky - 1) := by rw [hY.out, hn16, hky]; simp only [psq, and_self]
      rw [hX2.2, hY2.2] at hs
      have e1 := ksq_end X kx hs.1
      have e2 := ksq_end Y ky hs.2
      obtain ⟨X2, hX2'⟩ : ∃ X2, X2 = X + (2 ^ kx - 1) := ⟨_, rfl⟩
      obtain ⟨Y2, hY2'⟩ : ∃ Y2, Y2 = Y + (2 ^ ky - 1) := ⟨_, rfl⟩
      rw [← hX2'] at e1 hX2
      rw [← hY2'] at e2 hY2
      rw [hkx] at e1
      rw [hky] at e2
      have E1 : Hid (wrap64 (wrap64 ((X : Int) + wrap64 (2 ^ ((f + 1) / 2))) - 1) = (X2 : Int)) := e1
      have E2 : Hid (wrap64 (wrap64 ((Y : Int) + wrap64 (2 ^ (f / 2))) - 1) = (Y2 : Int)) := e2
      have HX2 : Hid ((psq c f).a = X ∧ (psq c f).c = X2) := hX2
      have HY2 : Hid ((psq c f).b = Y ∧ (psq c f).d = Y2) := hY2
      clear e1 e2 hs hX2 hY2 hX2' hY2' hkx hky
      have hn' : ¬ (n : Int) < 16 := by omega
      clear hn16
      have d2 : wr.cell? ⟨w.heap.size + 1, 2, none⟩ = some (.int .i64 0) := b2.cell 2
      have f2 : wr.frozen? ⟨w.heap.size + 1, 2, none⟩ = false := b2.frozen 2
      go_wp2
      go_region
      rw [E1.out]
      have b1' := (b1.other (B' := w.heap.size + 1) (by omega) 2 (.int .i64 (X2 : Int))).drew
      have b2' : Blk (wr.setCell ⟨w.heap.size + 1, 2, none⟩ (.int .i64 (X2 : Int))).drew (w.heap.size + 1) 30 #[.int .i64 (X : Int), .int .i64 (Y : Int), .int .i64 (X2 : Int), .int .i64 0] := (b2.set 2 (.int .i64 (X2 : Int))).drew
      have hB' := (hB.setCell (p := ⟨w.heap.size + 1, 2, none⟩) (by simp) (.int .i64 (X2 : Int))).drew
      obtain ⟨W2, hW2⟩ : ∃ W2, (wr.setCell ⟨w.heap.size + 1, 2, none⟩ (.int .i64 (X2 : Int))).drew = W2 := ⟨_, rfl⟩
      rw [hW2] at b1' b2' hB' ⊢
      clear hW2 d0 d1 d2 f0 f1 f2 b1 b2 hB
      have d1 : W2.cell? ⟨w.heap.size + 1, 1, none⟩ = some (.int .i64 (Y : Int)) := b2'.cell 1
      have d3 : W2.cell? ⟨w.heap.size + 1, 3, none⟩ = some (.int .i64 0) := b2'.cell 3
      have f3 : W2.frozen? ⟨w.heap.size + 1, 3, none⟩ = false := b2'.frozen 3
      go_wp2
      go_region
      rw [E2.out]
      have b1 := (b1'.other (B' := w.heap.size + 1) (by omega) 3 (.int .i64 (Y2 : Int))).drew
      have b2 : Blk (W2.setCell ⟨w.heap.size + 1, 3, none⟩ (.int .i64 (Y2 : Int))).drew (w.heap.size + 1) 30 #[.int .i64 (X : Int), .int .i64 (Y : Int), .int .i64 (X2 : Int), .int .i64 (Y2 : Int)] := (b2'.set 3 (.int .i64 (Y2 : Int))).drew
      have hB := (hB'.setCell (p := ⟨w.heap.size + 1, 3, none⟩) (by simp) (.int .i64 (Y2 : Int))).drew
      obtain ⟨W3, hW3⟩ : ∃ W3, (W2.setCell ⟨w.heap.size + 1, 3, none⟩ (.int .i64 (Y2 : Int))).drew = W3 := ⟨_, rfl⟩
      rw [hW3] at b1 b2 hB ⊢
      clear hW3 d1 d3 f3 b1' b2' hB'
      have d0 : W3.cell? ⟨w.heap.size + 1, 0, none⟩ = some (.int .i64 (X : Int)) := b2.cell 0
      have d1 : W3.cell? ⟨w.heap.size + 1, 1, none⟩ = some (.int .i64 (Y : Int)) := b2.cell 1
      have d2 : W3.cell? ⟨w.heap.size + 1, 2, none⟩ = some (.int .i64 (X2 : Int)) := b2.cell 2
      have d3 : W3.cell? ⟨w.heap.size + 1, 3, none⟩ = some (.int .i64 (Y2 : Int)) := b2.cell 3
      have z0 : W3.cell? ⟨w.heap.size, 0, none⟩ = some (.int .i64 0) := b1.cell 0
      have z1 : W3.cell? ⟨w.heap.size, 1, none⟩ = some (.int .i64 0) := b1.cell 1
      have z2 : W3.cell? ⟨w.heap.size, 2, none⟩ = some (.int .i64 0) := b1.cell 2
      have z3 : W3.cell? ⟨w.heap.size, 3, none⟩ = some (.int .i64 0) := b1.cell 3
      have g0 : W3.frozen? ⟨w.heap.size, 0, none⟩ = false := b1.frozen 0
      have g1 : W3.frozen? ⟨w.heap.size, 1, none⟩ = false := b1.frozen 1
      have g2 : W3.frozen? ⟨w.heap.size, 2, none⟩ = false := b1.frozen 2
      have g3 : W3.frozen? ⟨w.heap.size, 3, none⟩ = false := b1.frozen 3
      go_wp2
      have hb2 : Below w.heap.size w ((((W3.setCell ⟨w.heap.size, 0, none⟩ (.int .i64 (X : Int))).setCell ⟨w.heap.size, 1, none⟩ (.int .i64 (Y : Int))).setCell ⟨w.heap.size, 2, none⟩ (.int .i64 (X2 : Int))).setCell ⟨w.heap.size, 3, none⟩ (.int .i64 (Y2 : Int))) := by
        refine Below.setCell (Below.setCell (Below.setCell (Below.setCell hB ?_ _) ?_ _) ?_ _) ?_ _ <;> simp
      refine bodyPost_ret (v := .agg #[.int .i64 (X : Int), .int .i64 (Y : Int), .int .i64 (X2 : Int), .int .i64 (Y2 : Int)]) (by simp [results, Try.results37, go_sem, z0, z1, z2, z3]) rfl ⟨?_, hb2⟩
      rw [HX2.out.1, HX2.out.2, HY2.out.1, HY2.out.2]

/-- The square's corner is on the grid. -/
theorem psq_lt (q f : Nat) (hf : f ≤ 32) : (psq (q * 2 ^ f) f).c < 65536 ∧ (psq (q * 2 ^ f) f).d < 65536 := by
  obtain ⟨k, e | e⟩ : ∃ k, f = 2 * k ∨ f = 2 * k + 1 := ⟨f / 2, by omega⟩
  · have := sqr_lt q k (by omega)
    unfold psq
    unfold sqr at this
    rw [show (f + 1) / 2 = k by omega, show f / 2 = k by omega, e, ← four_pow]
    exact this
  · have p2 : 2 ^ f = 2 * 4 ^ k := by rw [e, Nat.pow_succ, four_pow, Nat.mul_comm]
    have mq : q * 2 ^ f = 2 * q * 4 ^ k := by rw [p2, ← Nat.mul_assoc, Nat.mul_comm q 2]
    have h1 := sqr_lt (2 * q + 1) k (by omega)
    have hp := sqr_pair q k (by omega)
    unfold sqr at h1
    simp only at h1
    rw [hp.1, hp.2] at h1
    unfold psq
    simp only
    rw [show (f + 1) / 2 = k + 1 by omega, show f / 2 = k by omega, mq, Nat.pow_succ]
    have := Nat.two_pow_pos k
    omega
end Go.Proofs.Ytdgbgmffpcooeaa
