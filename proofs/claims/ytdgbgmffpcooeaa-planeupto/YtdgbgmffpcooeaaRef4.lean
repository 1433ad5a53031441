/- What the document's own least answers. -/
import Derived.Test.YtdgbgmffpcooeaaRef3
import Derived.Deep.RegionHeld3
namespace Go.Proofs.Ytdgbgmffpcooeaa
open Go.RowKit

theorem shl_one (f : Nat) (hf : f ≤ 32) : wrap64 (2 ^ f) = ((2 ^ f : Nat) : Int) := by
  have h2 : 2 ^ f ≤ 2 ^ 32 := Nat.pow_le_pow_right (by decide) hf
  rw [pow_cast]; exact wrap64_nat _ (by omega)
/-- What stands of the window's block. -/
def Win (W : World) (B : Nat) (r : Box) : Prop := W.cell? ⟨B, 0, none⟩ = some (.int .i64 (r.a : Int)) ∧ W.cell? ⟨B, 1, none⟩ = some (.int .i64 (r.b : Int)) ∧ W.cell? ⟨B, 2, none⟩ = some (.int .i64 (r.c : Int)) ∧ W.cell? ⟨B, 3, none⟩ = some (.int .i64 (r.d : Int))

set_option maxRecDepth 100000 in
set_option maxHeartbeats 2000000 in
theorem rleast_any (q f : Nat) (r : Box) (hr : r.ok) (w : World) (hf : f ≤ 31) (hq : (q + 1) * 2 ^ f ≤ 4294967296) (c : Nat) (hc : c = q * 2 ^ f) :
    Calls Try.prog 38 #[.int .i64 (c : Int), .int .i64 (f : Int), .agg #[.int .i64 (r.a : Int), .int .i64 (r.b : Int), .int .i64 (r.c : Int), .int .i64 (r.d : Int)]] w fun e w' => (∃ m : Int, e = .returned (.int .i64 m) ∧ ((m = -1 ∧ ¬ ∃ x y, r.has x y ∧ code x y / 2 ^ f = q) ∨ ∃ n : Nat, m = (n : Int) ∧ Lst q f r n)) ∧ Below w.heap.size w w' := by
  have hmet := metB_psq hr (by omega) hq
  have hlt := psq_lt q f (by omega)
  rw [← hc] at hmet hlt
  have hsq : ∀ W, Calls Try.prog 37 #[.int .i64 (c : Int), .int .i64 (f : Int)] W fun e w' => e = .returned (.agg #[.int .i64 (psq c f).a, .int .i64 (psq c f).b, .int .i64 (psq c f).c, .int .i64 (psq c f).d]) ∧ Below W.heap.size W w' := fun W => rsquare_any c f W (by omega) hlt
  obtain ⟨B, hB⟩ : ∃ B, psq c f = B := ⟨_, rfl⟩
  rw [hB] at hsq hmet
  have HMET : Hid (metB B r = true ↔ ∃ x y, r.has x y ∧ code x y / 2 ^ f = q) := hmet
  have HC : Hid (c = q * 2 ^ f) := hc
  have HQ : Hid ((q + 1) * 2 ^ f ≤ 4294967296) := hq
  have HR : Hid (r.ok) := hr
  clear hmet hlt hB hc hq hr
  go_enter Try.func38, Try.ntmps38
  go_wp2
  obtain ⟨W0, hW0⟩ : ∃ W0, w.alloc (.cells #[.int .i64 (r.a : Int), .int .i64 (r.b : Int), .int .i64 (r.c : Int), .int .i64 (r.d : Int)] 30) = W0 := ⟨_, rfl⟩
  have b0 := Blk.new w 30 #[.int .i64 (r.a : Int), .int .i64 (r.b : Int), .int .i64 (r.c : Int), .int .i64 (r.d : Int)]
  have hBW : Below w.heap.size w W0 := by rw [← hW0]; exact (Below.refl _ _).alloc (Nat.le_refl _) _
  have hW0s : W0.heap.size = w.heap.size + 1 := by rw [← hW0]; simp
  rw [hW0] at b0 ⊢
  clear hW0
  have HCELL : ∀ wr, Below (w.heap.size + 1) W0 wr → Win wr w.heap.size r := fun wr h => by
    have b := b0.below h (by omega)
    exact ⟨b.cell 0, b.cell 1, b.cell 2, b.cell 3⟩
  obtain ⟨c0, c1, c2, c3⟩ := HCELL W0 (Below.refl _ _)
  go_region_held3 (fun W' => W'.cell? ⟨w.heap.size, 0, none⟩ = some (.int .i64 (r.a : Int)) ∧ W'.cell? ⟨w.heap.size, 1, none⟩ = some (.int .i64 (r.b : Int)) ∧ W'.cell? ⟨w.heap.size, 2, none⟩ = some (.int .i64 (r.c : Int)) ∧ W'.cell? ⟨w.heap.size, 3, none⟩ = some (.int .i64 (r.d : Int)))
    (first
      | go_keep
      | exact HCELL _ ((Below.refl _ W0).drew.trans (hb17.mono (by simp; omega)))
      | exact HCELL _ (((Below.refl _ W0).drew.trans (hb17.mono (by simp; omega))).trans (hb16.mono (by have := hb17.size; simp at this; omega))))
    (first
      | (go_at_call 37; refine (hsq _).mono ?_; rintro e w17 ⟨rfl, hb17⟩)
      | (go_at_call 36; refine (rmeet_any B r _).mono ?_; rintro e w16 ⟨rfl, hb16⟩))
  have hB16 : Below (w.heap.size + 1) W0 w16 := ((Below.refl _ W0).drew.trans (hb17.mono (by simp; omega))).trans (hb16.mono (by have := hb17.size; simp at this; omega))
  clear hb17 hb16 c0 c1 c2 c3 hsq
  by_cases hm : metB B r = true
  · have HD : Hid (Dwn q f r q f) := Dwn.first HQ.out (HMET.out.1 hm)
    clear HMET
    go_wp2
    clear hm
    go_loopw [0, 1] (fun s x wr => ∃ (d g n : Nat), s = .int .i64 (d : Int) ∧ x = .int .i64 (g : Int) ∧ Hid (d = n * 2 ^ g) ∧ Hid (Dwn q f r n g) ∧ g ≤ 31 ∧ Below (w.heap.size + 1) W0 wr) (fun _ x _ => (intOf x).toNat)
    case atStart => exact ⟨c, f, q, rfl, rfl, HC, HD, hf, hB16⟩
    case round =>
      obtain ⟨d, g, n, rfl, rfl, hd, hD, hg, hBr⟩ := hrel
      clear hB16 HD
      rcases Nat.eq_zero_or_pos g with hz | hpos
      · have hl : Hid (Lst q f r d) := by
          show Lst q f r d
          have h1 := hD.out
          rw [hz] at h1
          have h2 : d = n := by rw [hd.out, hz]; simp
          rw [h2]; exact h1.last
        have hz' : ¬ (0 : Int) < (g : Int) := by omega
        have hz2 : decide ((0 : Int) < (g : Int)) = false := by simp; omega
        have hz3 : decide (0 < g) = false := by simp; omega
        clear hz hD
        go_wp2
        go_ret
        exact ⟨⟨d, rfl, .inr ⟨d, rfl, hl.out⟩⟩, hBW.trans (hBr.mono (by omega))⟩
      · obtain ⟨g', rfl⟩ : ∃ g', g = g' + 1 := ⟨g - 1, by omega⟩
        clear hpos
        have hfit := hD.out.fits
        have hg32 : g' ≤ 32 := by omega
        have hd2 : d = 2 * n * 2 ^ g' := by rw [hd.out, half_pow]
        have hmet := metB_psq HR.out hg32 hfit.1
        have hlt := psq_lt (2 * n) g' hg32
        rw [← hd2] at hmet hlt
        have hsq : ∀ W, Calls Try.prog 37 #[.int .i64 (d : Int), .int .i64 (g' : Int)] W fun e w' => e = .returned (.agg #[.int .i64 (psq d g').a, .int .i64 (psq d g').b, .int .i64 (psq d g').c, .int .i64 (psq d g').d]) ∧ Below W.heap.size W w' := fun W => rsquare_any d g' W hg32 hlt
        have hup : wrap64 ((d : Int) + wrap64 (2 ^ g')) = ((d + 2 ^ g' : Nat) : Int) := by
          rw [shl_one g' hg32, ← Int.natCast_add]
          refine wrap64_nat _ ?_
          have := hfit.1
          rw [Nat.add_mul, ← hd2] at this
          omega
        have hup2 : d + 2 ^ g' = (2 * n + 1) * 2 ^ g' := by rw [Nat.add_mul, ← hd2, Nat.one_mul]
        obtain ⟨D2, hD2⟩ : ∃ D2, d + 2 ^ g' = D2 := ⟨_, rfl⟩
        rw [hD2] at hup hup2
        have HUP : Hid (wrap64 ((d : Int) + wrap64 (2 ^ g')) = (D2 : Int)) := hup
        have HUP2 : Hid (D2 = (2 * n + 1) * 2 ^ g') := hup2
        have HD2 : Hid (d = 2 * n * 2 ^ g') := hd2
        obtain ⟨B', hB'⟩ : ∃ B', psq d g' = B' := ⟨_, rfl⟩
        rw [hB'] at hsq hmet
        have HMET : Hid (metB B' r = true ↔ ∃ x y, r.has x y ∧ code x y / 2 ^ g' = 2 * n) := hmet
        clear hmet hlt hB' hd2 hfit hup hup2 hD2
        have hpos' : (0 : Int) < (g' : Int) + 1 := by omega
        have hsub : ((g' : Int) + 1 - 1) = (g' : Int) := by omega
        obtain ⟨c0, c1, c2, c3⟩ := HCELL wr hBr
        have hsr := hBr.size
        go_wp2
        go_region_held3 (fun W' => W'.cell? ⟨w.heap.size, 0, none⟩ = some (.int .i64 (r.a : Int)) ∧ W'.cell? ⟨w.heap.size, 1, none⟩ = some (.int .i64 (r.b : Int)) ∧ W'.cell? ⟨w.heap.size, 2, none⟩ = some (.int .i64 (r.c : Int)) ∧ W'.cell? ⟨w.heap.size, 3, none⟩ = some (.int .i64 (r.d : Int)))
          (first
            | go_keep
            | exact HCELL _ (hBr.drew.trans (hb17.mono (by simp; omega)))
            | exact HCELL _ ((hBr.drew.trans (hb17.mono (by simp; omega))).trans (hb16.mono (by have := hb17.size; simp at this; omega))))
          (first
            | (go_at_call 37; refine (hsq _).mono ?_; rintro e w17 ⟨rfl, hb17⟩)
            | (go_at_call 36; refine (rmeet_any B' r _).mono ?_; rintro e w16 ⟨rfl, hb16⟩))
        have hB2 : Below (w.heap.size + 1) W0 w16 := (hBr.drew.trans (hb17.mono (by simp; omega))).trans (hb16.mono (by have := hb17.size; simp at this; omega))
        clear hb17 hb16 c0 c1 c2 c3 hsq hBr
        by_cases hm : metB B' r = true
        · have HDn : Hid (Dwn q f r (2 * n) g') := hD.out.lower (HMET.out.1 hm)
          clear HMET hD
          go_wp2
          refine ⟨⟨d, g', 2 * n, rfl, rfl, HD2, HDn, by omega, hB2⟩, ?_⟩
          simp [intOf]
        · have HDn : Hid (Dwn q f r (2 * n + 1) g') := hD.out.upper (fun h => hm (HMET.out.2 h))
          have hm2 : metB B' r = false := by simpa using hm
          clear HMET hD hm
          go_wp2
          rw [HUP.out]
          refine ⟨⟨D2, g', 2 * n + 1, rfl, rfl, HUP2, HDn, by omega, hB2⟩, ?_⟩
          simp [intOf]
  · have hno : Hid (¬ ∃ x y, r.has x y ∧ code x y / 2 ^ f = q) := fun h => hm (HMET.out.2 h)
    have hm2 : metB B r = false := by simpa using hm
    clear hm HMET
    go_wp2
    go_ret
    exact ⟨⟨-1, rfl, .inl ⟨rfl, hno.out⟩⟩, hBW.trans (hB16.mono (by omega))⟩
end Go.Proofs.Ytdgbgmffpcooeaa
