/- What the document's own Next answers. -/
import Derived.Test.YtdgbgmffpcooeaaRef4
namespace Go.Proofs.Ytdgbgmffpcooeaa
open Go.RowKit

theorem shr_tmod (c b : Nat) : ((c : Int) / 2 ^ b).tmod 2 = ((c / 2 ^ b % 2 : Nat) : Int) := by
  rw [pow_cast b, div_cast, Int.tmod_eq_emod_of_nonneg (Int.natCast_nonneg _)]; omega

set_option maxHeartbeats 400000 in
theorem rnext_arg (c : Int) (a b d e' : Int) (h : c < 0 ∨ 4294967296 ≤ c) (w : World) :
    Calls Try.prog 14 #[.int .i64 c, .agg #[.int .i64 a, .int .i64 b, .int .i64 d, .int .i64 e']] w fun e w' => e = .returned (.tuple #[.int .i64 0, .int .i64 5]) ∧ Below w.heap.size w w' := by
  rcases h with h | h
  · go_enter Try.func14, Try.ntmps14
    go_wp2
    go_ret2
    exact ⟨rfl, (Below.refl _ _).alloc (Nat.le_refl _) _⟩
  · have h0 : ¬ c < 0 := by omega
    go_enter Try.func14, Try.ntmps14
    go_wp2
    go_ret2
    exact ⟨rfl, (Below.refl _ _).alloc (Nat.le_refl _) _⟩

set_option maxHeartbeats 400000 in
theorem rnext_rect (c : Nat) (hc : c < 4294967296) (a b d e' : Int) (hR : rightB a b d e' = false) (w : World) :
    Calls Try.prog 14 #[.int .i64 (c : Int), .agg #[.int .i64 a, .int .i64 b, .int .i64 d, .int .i64 e']] w fun e w' => e = .returned (.tuple #[.int .i64 0, .int .i64 6]) ∧ Below w.heap.size w w' := by
  go_enter Try.func14, Try.ntmps14
  go_wp2_with fail
  refine (rright_any _ _ _ _ _).mono ?_
  rintro e w1 ⟨rfl, hb⟩
  go_wp2
  go_ret2
  exact ⟨rfl, ((Below.refl _ _).alloc (Nat.le_refl _) _).trans (hb.mono (by simp))⟩

set_option maxRecDepth 100000 in
set_option maxHeartbeats 2000000 in
theorem rnext_ok (c : Nat) (hc : c < 4294967296) (r : Box) (hr : r.ok) (w : World) :
    Calls Try.prog 14 #[.int .i64 (c : Int), .agg #[.int .i64 (r.a : Int), .int .i64 (r.b : Int), .int .i64 (r.c : Int), .int .i64 (r.d : Int)]] w fun e w' => (∃ m : Int, e = .returned (.tuple #[.int .i64 m, .int .i64 0]) ∧ IsNext c r m) ∧ Below w.heap.size w w' := by
  have hR := rightB_box hr
  have hmet := metB_psq (q := c) (f := 0) hr (by omega) (by omega)
  have hlt := psq_lt c 0 (by omega)
  simp only [Nat.pow_zero, Nat.mul_one] at hmet hlt
  have hsq : ∀ W, Calls Try.prog 37 #[.int .i64 (c : Int), .int .i64 0] W fun e w' => e = .returned (.agg #[.int .i64 (psq c 0).a, .int .i64 (psq c 0).b, .int .i64 (psq c 0).c, .int .i64 (psq c 0).d]) ∧ Below W.heap.size W w' := fun W => rsquare_any c 0 W (by omega) hlt
  obtain ⟨B, hB⟩ : ∃ B, psq c 0 = B := ⟨_, rfl⟩
  rw [hB] at hsq hmet
  have HMET : Hid (metB B r = true ↔ ∃ x y, r.has x y ∧ code x y / 2 ^ 0 = c) := by show _ ↔ _; simpa using hmet
  have HR : Hid (r.ok) := hr
  have HCC : Hid (c < 4294967296) := hc
  have tc1 : decide ((c : Int) < 0) = false := by simp
  have tc2 : decide ((4294967296 : Int) ≤ (c : Int)) = false := by simp; omega
  have tc3 : decide (4294967296 ≤ c) = false := by simp; omega
  clear hmet hlt hB hc hr
  go_enter Try.func14, Try.ntmps14
  go_wp2_with fail
  refine (rright_any _ _ _ _ _).mono ?_
  rintro e w1 ⟨rfl, hb⟩
  have b0 := Blk.new w 30 #[.int .i64 (r.a : Int), .int .i64 (r.b : Int), .int .i64 (r.c : Int), .int .i64 (r.d : Int)]
  simp only [World.size_alloc] at hb
  obtain ⟨W0, hW0⟩ : ∃ W0, w.alloc (.cells #[.int .i64 (r.a : Int), .int .i64 (r.b : Int), .int .i64 (r.c : Int), .int .i64 (r.d : Int)] 30) = W0 := ⟨_, rfl⟩
  have hBW : Below w.heap.size w W0 := by rw [← hW0]; exact (Below.refl _ _).alloc (Nat.le_refl _) _
  have hW0s : W0.heap.size = w.heap.size + 1 := by rw [← hW0]; simp
  rw [hW0] at b0 hb
  clear hW0
  have HCELL : ∀ wr, Below (w.heap.size + 1) W0 wr → Win wr w.heap.size r := fun wr h => by
    have b := b0.below h (by omega)
    exact ⟨b.cell 0, b.cell 1, b.cell 2, b.cell 3⟩
  obtain ⟨c0, c1, c2, c3⟩ := HCELL w1 hb
  have hs1 := hb.size
  go_wp2
  go_region_held3 (fun W' => W'.cell? ⟨w.heap.size, 0, none⟩ = some (.int .i64 (r.a : Int)) ∧ W'.cell? ⟨w.heap.size, 1, none⟩ = some (.int .i64 (r.b : Int)) ∧ W'.cell? ⟨w.heap.size, 2, none⟩ = some (.int .i64 (r.c : Int)) ∧ W'.cell? ⟨w.heap.size, 3, none⟩ = some (.int .i64 (r.d : Int)))
    (first
      | go_keep
      | exact HCELL _ (hb.drew.trans (hb17.mono (by simp; omega)))
      | exact HCELL _ ((hb.drew.trans (hb17.mono (by simp; omega))).trans (hb16.mono (by have := hb17.size; simp at this; omega))))
    (first
      | (go_at_call 37; refine (hsq _).mono ?_; rintro e w17 ⟨rfl, hb17⟩)
      | (go_at_call 36; refine (rmeet_any B r _).mono ?_; rintro e w16 ⟨rfl, hb16⟩))
  have hB16 : Below (w.heap.size + 1) W0 w16 := (hb.drew.trans (hb17.mono (by simp; omega))).trans (hb16.mono (by have := hb17.size; simp at this; omega))
  clear hb17 hb16 c0 c1 c2 c3 hsq hb hs1
  by_cases hm : metB B r = true
  · have hN : Hid (IsNext c r c) := IsNext.here (HMET.out.1 hm)
    clear HMET
    rw [hm]
    go_wp2
    go_ret2
    exact ⟨⟨c, rfl, hN.out⟩, hBW.trans (hB16.mono (by omega))⟩
  · have HG : Hid (Gone c r 0) := Gone.first (fun h => hm (HMET.out.2 h))
    have hm2 : metB B r = false := by simpa using hm
    clear hm HMET
    rw [hm2]
    go_wp2
    go_loopw [8] (fun x wr => ∃ (b : Nat), x = .int .i64 (b : Int) ∧ Hid (Gone c r b) ∧ b ≤ 32 ∧ Below (w.heap.size + 1) W0 wr) (fun x _ => 32 - (intOf x).toNat)
    case atStart => exact ⟨0, rfl, HG, by omega, hB16⟩
    case round =>
      obtain ⟨b, rfl, hG, hb, hBr⟩ := hrel
      clear hB16 HG
      by_cases hlt : b < 32
      · have hlt' : (b : Int) < 32 := by omega
        have hst := shr_tmod c b
        by_cases hev : c / 2 ^ b % 2 = 0
        · rw [hev] at hst
          have hfit := gone_fits HCC.out hlt hev
          obtain ⟨p, hp⟩ : ∃ p, (c / 2 ^ b + 1) * 2 ^ b = p := ⟨_, rfl⟩
          have hcon := fun W => rleast_any (c / 2 ^ b + 1) b r HR.out W (by omega) hfit p hp.symm
          have hpp : p < 9223372036854775808 := by rw [Nat.add_mul _ 1, hp] at hfit; omega
          have hval : IntKind.i64.wrap (IntKind.i64.wrap ((c : Int) / 2 ^ b + 1) * 2 ^ b) = (p : Int) := by
            have h1 : c / 2 ^ b ≤ c := Nat.div_le_self _ _
            have h2 := HCC.out
            rw [pow_cast b, div_cast, show ((c / 2 ^ b : Nat) : Int) + 1 = ((c / 2 ^ b + 1 : Nat) : Int) by omega, wrap_i64_nat _ (by omega), ← Int.natCast_mul, hp]
            exact wrap_i64_nat _ hpp
          rw [← hval] at hcon
          have HEV : Hid (c / 2 ^ b % 2 = 0) := hev
          clear hfit hp hpp hval hev
          obtain ⟨c0, c1, c2, c3⟩ := HCELL wr hBr
          have hsr := hBr.size
          go_wp2
          go_region_held3 (fun W' => W'.cell? ⟨w.heap.size, 0, none⟩ = some (.int .i64 (r.a : Int)) ∧ W'.cell? ⟨w.heap.size, 1, none⟩ = some (.int .i64 (r.b : Int)) ∧ W'.cell? ⟨w.heap.size, 2, none⟩ = some (.int .i64 (r.c : Int)) ∧ W'.cell? ⟨w.heap.size, 3, none⟩ = some (.int .i64 (r.d : Int)))
            (first
              | go_keep
              | exact HCELL _ (hBr.drew.trans (hb17.mono (by simp; omega))))
            ((go_at_call 38; refine (hcon _).mono ?_; rintro e w17 ⟨⟨m, rfl, hres⟩, hb17⟩))
          have hB2 : Below (w.heap.size + 1) W0 w17 := hBr.drew.trans (hb17.mono (by simp; omega))
          clear hb17 hBr hcon c0 c1 c2 c3
          rcases hres with ⟨hm1, hno⟩ | ⟨k, hm1, hl⟩
          · have hlt0 : decide ((0 : Int) ≤ m) = false := by simp; omega
            have HG2 : Hid (Gone c r (b + 1)) := hG.out.even HEV.out hno
            clear hno hG hm1
            go_wp2
            go_roundw
            case rel => exact ⟨b + 1, by go_num, HG2, by omega, hB2⟩
            case measure => simp [intOf]; omega
          · have hge : (0 : Int) ≤ m := by omega
            have hN : Hid (IsNext c r m) := by show IsNext c r m; rw [hm1]; exact hG.out.found hl
            clear hl hG hm1
            go_wp2
            go_ret2
            exact ⟨⟨m, rfl, hN.out⟩, hBW.trans (hB2.mono (by omega))⟩
        · have hst2 : ((c / 2 ^ b % 2 : Nat) : Int) = 1 := by omega
          rw [hst2] at hst
          have HG2 : Hid (Gone c r (b + 1)) := hG.out.odd hev
          clear hst2 hG hev
          go_wp2
          go_roundw
          case rel => exact ⟨b + 1, by go_num, HG2, by omega, hBr⟩
          case measure => simp [intOf]; omega
      · have hb32 : b = 32 := by omega
        have hN : Hid (IsNext c r (-1)) := by
          have := hG.out
          rw [hb32] at this
          exact this.none HCC.out
        have hlt' : ¬ (b : Int) < 32 := by omega
        clear hb32 hG
        go_wp2
        go_ret2
        exact ⟨⟨-1, rfl, hN.out⟩, hBW.trans (hBr.mono (by omega))⟩
end Go.Proofs.Ytdgbgmffpcooeaa
