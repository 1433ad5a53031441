/- What the document's own Cover answers. -/
import Derived.Test.YtdgbgmffpcooeaaRef6
import Derived.Test.YtdgbgmffpcooeaaRef2
import Derived.Test.YtdgbgmffpcooeaaQCover
import Derived.Deep.RegionHeld3
import Derived.Deep.AppendLies
import Derived.Deep.DeepCutAuto
import Derived.OwnWalk
import Derived.Test.YtdgbgmffpcooeaaOwn
namespace Go.Proofs.Ytdgbgmffpcooeaa
open Go.RowKit

set_option maxHeartbeats 400000 in
theorem rcover_no (a b d e' : Int) (hR : rightB a b d e' = false) (w : World) :
    Calls Try.prog 11 #[.agg #[.int .i64 a, .int .i64 b, .int .i64 d, .int .i64 e']] w fun e w' => e = .returned (.tuple #[.slice none 0 0, .int .i64 6]) ∧ Below w.heap.size w w' := by
  go_enter Try.func11, Try.ntmps11
  go_wp2_with fail
  refine (rright_any _ _ _ _ _).mono ?_
  rintro e w1 ⟨rfl, hb⟩
  go_wp2
  go_ret2
  exact ⟨rfl, ((Below.refl _ _).alloc (Nat.le_refl _) _).trans (hb.mono (by simp))⟩

theorem tdiv_nat (x p : Nat) : ((x : Int).tdiv (p : Int)) = ((x / p : Nat) : Int) := by
  rw [Int.tdiv_eq_ediv_of_nonneg (Int.natCast_nonneg _)]; exact div_cast x p

set_option maxRecDepth 100000 in
set_option maxHeartbeats 4000000 in
theorem rcover_ok (r : Box) (hr : r.ok) (w : World) :
    Calls Try.prog 11 #[.agg #[.int .i64 (r.a : Int), .int .i64 (r.b : Int), .int .i64 (r.c : Int), .int .i64 (r.d : Int)]] w fun e w' => ∃ (g cap k : Nat) (l : List (Nat × Nat)), e = .returned (.tuple #[.slice (some ⟨g, 0, none⟩) l.length cap, .int .i64 0]) ∧ w'.ownsRow w.heap.size 34 2 (.slice (some ⟨g, 0, none⟩) l.length cap) l.length (flatC l) ∧ IsCover r k l ∧ Below w.heap.size w w' := by
  have hR := rightB_box hr
  obtain ⟨i0, hi0, hz0, hz1, hz2⟩ := info_parts info34
  have HR : Hid r.ok := hr
  go_enter Try.func11, Try.ntmps11
  go_wp2_with fail
  refine (rright_any _ _ _ _ _).mono ?_
  rintro e w1 ⟨rfl, hb1⟩
  have b0 := Blk.new w 30 #[.int .i64 (r.a : Int), .int .i64 (r.b : Int), .int .i64 (r.c : Int), .int .i64 (r.d : Int)]
  simp only [World.size_alloc] at hb1
  obtain ⟨W0, hW0⟩ : ∃ W0, w.alloc (.cells #[.int .i64 (r.a : Int), .int .i64 (r.b : Int), .int .i64 (r.c : Int), .int .i64 (r.d : Int)] 30) = W0 := ⟨_, rfl⟩
  have hBW : Below w.heap.size w W0 := by rw [← hW0]; exact (Below.refl _ _).alloc (Nat.le_refl _) _
  have hW0s : W0.heap.size = w.heap.size + 1 := by rw [← hW0]; simp
  rw [hW0] at b0 hb1
  clear hW0
  have HCELL : ∀ wr, Below (w.heap.size + 1) W0 wr → wr.cell? ⟨w.heap.size, 0, none⟩ = some (.int .i64 (r.a : Int)) ∧ wr.cell? ⟨w.heap.size, 1, none⟩ = some (.int .i64 (r.b : Int)) ∧ wr.cell? ⟨w.heap.size, 2, none⟩ = some (.int .i64 (r.c : Int)) ∧ wr.cell? ⟨w.heap.size, 3, none⟩ = some (.int .i64 (r.d : Int)) := fun wr h => by
    have b := b0.below h (by omega)
    exact ⟨b.cell 0, b.cell 1, b.cell 2, b.cell 3⟩
  clear b0
  go_wp2
  go_loopw [5, 6] (fun s i wr => ∃ k p : Nat, i = .int .i64 (k : Int) ∧ s = .int .i64 (p : Int) ∧ Hid (p = 2 ^ k) ∧ 0 < p ∧ p ≤ 32768 ∧ k ≤ 15 ∧ Hid (∀ j, j < k → ¬ Fits r j) ∧ Below (w.heap.size + 1) W0 wr) (fun _ i _ => 16 - (intOf i).toNat)
  case atStart => exact ⟨0, 1, rfl, rfl, rfl, by omega, by omega, by omega, fun j h => by omega, hb1⟩
  case round =>
    obtain ⟨k, p, rfl, rfl, hp, hp0, hp1, hk, hno, hB⟩ := hrel
    obtain ⟨c0, c1, c2, c3⟩ := HCELL wr hB
    obtain ⟨A, hA⟩ : ∃ A, r.a / p = A := ⟨_, rfl⟩
    obtain ⟨C, hC⟩ : ∃ A, r.c / p = A := ⟨_, rfl⟩
    obtain ⟨B, hBb⟩ : ∃ A, r.b / p = A := ⟨_, rfl⟩
    obtain ⟨D, hD⟩ : ∃ A, r.d / p = A := ⟨_, rfl⟩
    have hp0' : (p : Int) ≠ 0 := by omega
    have qA : ((r.a : Int).tdiv (p : Int)) = (A : Int) := by rw [← hA]; exact tdiv_nat _ _
    have qB : ((r.b : Int).tdiv (p : Int)) = (B : Int) := by rw [← hBb]; exact tdiv_nat _ _
    have qC : ((r.c : Int).tdiv (p : Int)) = (C : Int) := by rw [← hC]; exact tdiv_nat _ _
    have qD : ((r.d : Int).tdiv (p : Int)) = (D : Int) := by rw [← hD]; exact tdiv_nat _ _
    have hF : Fits r k ↔ (C ≤ A + 1 ∧ D ≤ B + 1) := by unfold Fits; rw [← hp.out, hA, hC, hBb, hD]
    have lA : A ≤ r.a := by rw [← hA]; exact Nat.div_le_self _ _
    have lB : B ≤ r.b := by rw [← hBb]; exact Nat.div_le_self _ _
    have lC : C ≤ r.c := by rw [← hC]; exact Nat.div_le_self _ _
    have lD : D ≤ r.d := by rw [← hD]; exact Nat.div_le_self _ _
    have hr2 := hr.2.1
    have hr4 := hr.2.2.2
    have hr1 := hr.1
    have hr3 := hr.2.2.1
    have HF : Hid (Fits r k ↔ (C ≤ A + 1 ∧ D ≤ B + 1)) := hF
    have HA : Hid (r.a / p = A) := hA
    have HC : Hid (r.c / p = C) := hC
    have HB : Hid (r.b / p = B) := hBb
    have HD : Hid (r.d / p = D) := hD
    clear hA hC hBb hD hF
    have hgo : ¬ Fits r k → k + 1 ≤ 15 ∧ ∀ j, j < k + 1 → ¬ Fits r j := fun hn => by
      refine ⟨?_, fun j hj => ?_⟩
      · refine Nat.lt_of_le_of_ne hk fun e => hn ?_
        rw [e]; exact fits15 hr
      · rcases Nat.lt_or_ge j k with g | g
        · exact hno.out j g
        · rw [show j = k by omega]; exact hn
    have HG : Hid (¬ Fits r k → k + 1 ≤ 15 ∧ ∀ j, j < k + 1 → ¬ Fits r j) := hgo
    clear hgo
    have hstep : k + 1 ≤ 15 → 2 * p ≤ 32768 ∧ 2 * p = 2 ^ (k + 1) := fun h => by
      have e : 2 * p = 2 ^ (k + 1) := by rw [hp.out, Nat.pow_succ, Nat.mul_comm]
      have : 2 ^ (k + 1) ≤ 2 ^ 15 := Nat.pow_le_pow_right (by decide) h
      exact ⟨by omega, e⟩
    have HST : Hid (k + 1 ≤ 15 → 2 * p ≤ 32768 ∧ 2 * p = 2 ^ (k + 1)) := hstep
    clear hstep
    have h2p : wrap64 (2 * (p : Int)) = ((2 * p : Nat) : Int) := by unfold wrap64; omega
    by_cases h1 : A + 1 < C
    · have t1 : (1 : Int) < (C : Int) - (A : Int) := by omega
      obtain ⟨g1, g2⟩ := HG.out (fun h => by have := HF.out.1 h; omega)
      obtain ⟨g3, g4⟩ := HST.out g1
      have G2 : Hid (∀ j, j < k + 1 → ¬ Fits r j) := g2
      have G4 : Hid (2 * p = 2 ^ (k + 1)) := g4
      clear g2 g4
      go_wp2
      go_quiet (fail)
      go_wp2
      go_roundw
      case rel => exact ⟨k + 1, 2 * p, by go_num, by go_num, G4, by omega, g3, g1, G2, below_drewN hB _⟩
      case measure => simp [intOf]; omega
    · have t1 : decide ((1 : Int) < (C : Int) - (A : Int)) = false := by simp; omega
      by_cases h2 : B + 1 < D
      · have t2 : (1 : Int) < (D : Int) - (B : Int) := by omega
        obtain ⟨g1, g2⟩ := HG.out (fun h => by have := HF.out.1 h; omega)
        obtain ⟨g3, g4⟩ := HST.out g1
        have G2 : Hid (∀ j, j < k + 1 → ¬ Fits r j) := g2
        have G4 : Hid (2 * p = 2 ^ (k + 1)) := g4
        clear g2 g4
        go_wp2
        go_quiet (fail)
        go_wp2
        go_roundw
        case rel => exact ⟨k + 1, 2 * p, by go_num, by go_num, G4, by omega, g3, g1, G2, below_drewN hB _⟩
        case measure => simp [intOf]; omega
      · have t2 : decide ((1 : Int) < (D : Int) - (B : Int)) = false := by simp; omega
        have HSZ : Hid (IsSize r k) := ⟨HF.out.2 ⟨by omega, by omega⟩, hno.out⟩
        clear HG HST HF hno
        have hAC : A ≤ C := by rw [← HA.out, ← HC.out]; exact Nat.div_le_div_right hr1
        have hBD : B ≤ D := by rw [← HB.out, ← HD.out]; exact Nat.div_le_div_right hr3
        have hcx : ∀ x, x ≤ C → x * p < 65536 := fun x hx => by
          have h1 := Nat.mul_le_mul_right p hx; have h2 := Nat.div_mul_le_self r.c p; rw [HC.out] at h2; omega
        have hcy : ∀ x, x ≤ D → x * p < 65536 := fun x hx => by
          have h1 := Nat.mul_le_mul_right p hx; have h2 := Nat.div_mul_le_self r.d p; rw [HD.out] at h2; omega
        have HCX : Hid (∀ x, x ≤ C → x * p < 65536) := hcx
        have HCY : Hid (∀ x, x ≤ D → x * p < 65536) := hcy
        clear hcx hcy
        go_wp2
        go_quiet (fail)
        go_wp2
        obtain ⟨nr, hnr⟩ : ∃ nr, nr = D - B + 1 := ⟨_, rfl⟩
        obtain ⟨nc, hnc⟩ : ∃ nc, nc = C - A + 1 := ⟨_, rfl⟩
        have HNR : Hid (nr = D - B + 1) := hnr
        have HNC : Hid (nc = C - A + 1) := hnc
        have hnr2 : nr ≤ 2 := by omega
        have hnc2 : nc ≤ 2 := by omega
        clear hnr hnc t1 t2 c0 c1 c2 c3 h1 h2
        have hB2 : Below (w.heap.size + 1) W0 (wr.drewN nq) := below_drewN hB _
        obtain ⟨W1, hW1⟩ : ∃ W1, wr.drewN nq = W1 := ⟨_, rfl⟩
        rw [hW1] at hB2 ⊢
        clear hW1 hB
        go_loopw [7, 8] (fun s x wr => ∃ (m y : Nat) (L : List (Nat × Nat)), x = .int .i64 (y : Int) ∧ Hid (y = B + m) ∧ m ≤ nr ∧ wr.ownsRow (w.heap.size + 1) 34 2 s L.length (flatC L) ∧ Hid (L.Perm (gridR k A B nc m 0)) ∧ Hid (L.Pairwise fun x y => x.1 ≤ y.1) ∧ Below (w.heap.size + 1) W0 wr) (fun _ x _ => D + 1 - (intOf x).toNat)
        case atStart => exact ⟨0, B, [], rfl, by show B = B + 0; omega, by omega, World.ownsRow_nil _ _ _ _, by show List.Perm [] _; simp [gridR], List.Pairwise.nil, hB2⟩
        case round =>
          clear hB2
          obtain ⟨m, y, L, rfl, hy, hm, hown, hperm, hsort, hBr⟩ := hrel
          obtain ⟨c0, c1, c2, c3⟩ := HCELL _ hBr
          by_cases hlt : m < nr
          · have hyD : y ≤ D := by have := hy.out; have := HNR.out; omega
            have hyD' : (y : Int) ≤ (D : Int) := by omega
            go_wp2
            go_loopw [7, 9] (fun s x ws => ∃ (n z : Nat) (L : List (Nat × Nat)), x = .int .i64 (z : Int) ∧ Hid (z = A + n) ∧ n ≤ nc ∧ ws.ownsRow (w.heap.size + 1) 34 2 s L.length (flatC L) ∧ Hid (L.Perm (gridR k A B nc m n)) ∧ Hid (L.Pairwise fun x y => x.1 ≤ y.1) ∧ Below (w.heap.size + 1) W0 ws) (fun _ x _ => C + 1 - (intOf x).toNat)
            case atStart => exact ⟨0, A, L, rfl, by show A = A + 0; omega, by omega, hown, hperm, hsort, hBr⟩
            case round =>
              clear hown hperm hsort hBr c0 c1 c2 c3 L
              obtain ⟨n, z, L, rfl, hz, hn, hown, hperm, hsort, hBr⟩ := hrel
              obtain ⟨c0, c1, c2, c3⟩ := HCELL _ hBr
              by_cases hlt2 : n < nc
              · have hzC : z ≤ C := by have := hz.out; have := HNC.out; omega
                have hzC' : (z : Int) ≤ (C : Int) := by omega
                have hxp := HCX.out z hzC
                have hyp := HCY.out y hyD
                have ex : wrap64 ((z : Int) * (p : Int)) = ((z * p : Nat) : Int) := by rw [← Int.natCast_mul]; exact wrap64_nat _ (by omega)
                have ey : wrap64 ((y : Int) * (p : Int)) = ((y * p : Nat) : Int) := by rw [← Int.natCast_mul]; exact wrap64_nat _ (by omega)
                obtain ⟨c, hce⟩ : ∃ c : Nat, c = (celAt k z y).1 := ⟨_, rfl⟩
                have hcon : ∀ W, Calls Try.prog 10 #[.int .i64 (wrap64 ((z : Int) * (p : Int))), .int .i64 (wrap64 ((y : Int) * (p : Int)))] W fun e w' => e = .returned (.int .i64 (c : Int)) ∧ Below W.heap.size W w' := fun W => by
                  rw [ex, ey, hce]
                  have h3 := rcode_in (z * p) (y * p) W hxp hyp
                  have h4 : code (z * p) (y * p) = (celAt k z y).1 := by rw [hp.out]; rfl
                  rw [h4] at h3; exact h3
                have HCE : Hid ((c, k) = celAt k z y) := by show (c, k) = _; rw [hce]; rfl
                have hLl : L.length ≤ 6 := by
                  have e1 := hperm.out.length_eq
                  rw [length_gridR] at e1
                  have := Nat.mul_le_mul (show m ≤ 2 by omega) hnc2
                  omega
                have hsr := hBr.size
                clear hce ex ey hxp hyp
                go_wp2_with (go_at_call 10; refine (hcon _).mono ?_; rintro e w3 ⟨rfl, hb3⟩)
                have hown3 := own_below hown hb3
                have hB3 : Below (w.heap.size + 1) W0 w3 := hBr.trans (hb3.mono (by omega))
                have hs3 := hB3.size
                clear hown hBr hb3 hcon c0 c1 c2 c3
                obtain ⟨a, cap, rfl, _, hmax, hcap⟩ := own_shape hown3
                go_wp2
                go_loopw [11, 12, 13] (fun s b x ws => ∃ (i : Nat) (N : List (Nat × Nat)) (pb : Bool), x = .int .i64 (i : Int) ∧ b = .bool pb ∧ i ≤ L.length ∧ ws.ownsRow w3.heap.size 34 2 s N.length (flatC N) ∧ Hid (Ins (c, k) L i N pb) ∧ Below w3.heap.size w3 ws) (fun _ _ x _ => L.length - (intOf x).toNat)
                case atStart => exact ⟨0, [], false, rfl, rfl, by omega, World.ownsRow_nil _ _ _ _, Ins.start _ _, Below.refl _ _⟩
                case round =>
                  obtain ⟨i, N, pb, rfl, rfl, hi, hownN, hins, hBn⟩ := hrel
                  have hNl : N.length ≤ 8 := by have := hins.out.length hi; split at this <;> omega
                  have hsn := hBn.size
                  by_cases hlt3 : i < L.length
                  · have hlt3' : (i : Int) < (L.length : Int) := by omega
                    obtain ⟨g, cap', e, hg1, hg2⟩ := hown3.form (by omega)
                    cases e
                    have hownW := own_below hown3 hBn
                    obtain ⟨a0, a1⟩ := own_at hownW i hlt3
                    obtain ⟨x, hx⟩ : ∃ x, L[i] = x := ⟨_, rfl⟩
                    rw [hx] at a0 a1
                    have HX : Hid (L[i] = x) := hx
                    have hgW : g < wr.heap.size := by omega
                    clear hx hownW
                    cases pb
                    · by_cases hgt : c < x.1
                      · have hgt' : (c : Int) < (x.1 : Int) := by omega
                        go_wp2_with (first
                          | (at_builtin; refine wpList_append_lies _ rfl (.tmp 92) (.tmp 96) 25 rfl w3.heap.size 34 i0 _ 2 16 Try.underlying25 hi0 hz0 hz1 hz2 rfl (by omega) _ N.length _ rfl (hownN.alloc _) ⟨wr.heap.size, 0, none⟩ 1 1 [.int .i64 (c : Int), .int .i64 (k : Int)] rfl rfl (World.news_of_block (cs := #[.int .i64 (c : Int), .int .i64 (k : Int)]) (t := 34) (fr := (0, 0)) (heap_alloc_new wr _)) (by simp [Value.oneCell']) (by omega) (by unfold maxLen; omega) (by omega) (by simp; omega) (wr.heap.size + 1) (by simp) ?_; intro gg capp w4 hown4 hgrow hat hlt4; have hB4 : Below w3.heap.size w3 w4 := (hBn.alloc (by omega) _).grown hgrow (by simp; omega) (fun j hj => own_ge hownN hj); have hs4 := hB4.size; obtain ⟨a0', a1'⟩ := own_at (own_below hown3 hB4) i hlt3; rw [HX.out] at a0' a1'; have hgW4 : g < w4.heap.size := (by omega); clear a0 a1 hgW hBn hownN hgrow hat hsn)
                          | (at_builtin; refine wpList_append_lies _ rfl (.tmp 98) (.tmp 103) 25 rfl w3.heap.size 34 i0 _ 2 16 Try.underlying25 hi0 hz0 hz1 hz2 rfl (by omega) _ (N.length + 1) _ rfl (hown4.alloc _) ⟨w4.heap.size, 0, none⟩ 1 1 [.int .i64 (x.1 : Int), .int .i64 (x.2 : Int)] rfl rfl (World.news_of_block (cs := #[.int .i64 (x.1 : Int), .int .i64 (x.2 : Int)]) (t := 34) (fr := (0, 0)) (heap_alloc_new w4 _)) (by simp [Value.oneCell']) (by omega) (by unfold maxLen; omega) (by omega) (by simp; omega) (w4.heap.size + 1) (by simp) ?_; intro gg5 capp5 w5 hown5 hgrow5 hat5 hlt5))
                        go_wp2
                        go_roundw
                        case rel =>
                          refine ⟨i + 1, N ++ [(c, k)] ++ [x], true, by go_num, rfl, by omega, ?_, ?_, ?_⟩
                          · rw [flatC_snoc, flatC_snoc, List.length_append, List.length_append]; exact hown5
                          · have := hins.out.put hsort.out hlt3 (by rw [HX.out]; exact hgt)
                            rw [HX.out] at this; exact this
                          · exact (hB4.alloc (by omega) _).grown hgrow5 (by simp; omega) (fun j hj => own_ge hown4 hj)
                        case measure => simp [intOf]; omega
                      · have hgt' : decide ((c : Int) < (x.1 : Int)) = false := by simp; omega
                        have hgt2 : decide (c < x.1) = false := by simp; omega
                        go_wp2_with (at_builtin; refine wpList_append_lies _ rfl (.tmp 98) (.tmp 103) 25 rfl w3.heap.size 34 i0 _ 2 16 Try.underlying25 hi0 hz0 hz1 hz2 rfl (by omega) _ N.length _ rfl (hownN.alloc _) ⟨wr.heap.size, 0, none⟩ 1 1 [.int .i64 (x.1 : Int), .int .i64 (x.2 : Int)] rfl rfl (World.news_of_block (cs := #[.int .i64 (x.1 : Int), .int .i64 (x.2 : Int)]) (t := 34) (fr := (0, 0)) (heap_alloc_new wr _)) (by simp [Value.oneCell']) (by omega) (by unfold maxLen; omega) (by omega) (by simp; omega) (wr.heap.size + 1) (by simp) ?_; intro gg capp w4 hown4 hgrow hat hlt4)
                        go_wp2
                        go_roundw
                        case rel =>
                          refine ⟨i + 1, N ++ [x], false, by go_num, rfl, by omega, ?_, ?_, ?_⟩
                          · rw [flatC_snoc, List.length_append]; exact hown4
                          · have := hins.out.pass hsort.out hlt3 (.inr (by rw [HX.out]; show x.1 ≤ c; omega))
                            rw [HX.out] at this; exact this
                          · exact (hBn.alloc (by omega) _).grown hgrow (by simp; omega) (fun j hj => own_ge hownN hj)
                        case measure => simp [intOf]; omega
                    · go_wp2_with (at_builtin; refine wpList_append_lies _ rfl (.tmp 98) (.tmp 103) 25 rfl w3.heap.size 34 i0 _ 2 16 Try.underlying25 hi0 hz0 hz1 hz2 rfl (by omega) _ N.length _ rfl (hownN.alloc _) ⟨wr.heap.size, 0, none⟩ 1 1 [.int .i64 (x.1 : Int), .int .i64 (x.2 : Int)] rfl rfl (World.news_of_block (cs := #[.int .i64 (x.1 : Int), .int .i64 (x.2 : Int)]) (t := 34) (fr := (0, 0)) (heap_alloc_new wr _)) (by simp [Value.oneCell']) (by omega) (by unfold maxLen; omega) (by omega) (by simp; omega) (wr.heap.size + 1) (by simp) ?_; intro gg capp w4 hown4 hgrow hat hlt4)
                      go_wp2
                      go_roundw
                      case rel =>
                        refine ⟨i + 1, N ++ [x], true, by go_num, rfl, by omega, ?_, ?_, ?_⟩
                        · rw [flatC_snoc, List.length_append]; exact hown4
                        · have := hins.out.pass hsort.out hlt3 (.inl rfl)
                          rw [HX.out] at this; exact this
                        · exact (hBn.alloc (by omega) _).grown hgrow (by simp; omega) (fun j hj => own_ge hownN hj)
                      case measure => simp [intOf]; omega
                  · have hlt3' : decide ((i : Int) < (L.length : Int)) = false := by simp; omega
                    have hlt3'' : decide (i < L.length) = false := by simp; omega
                    have hiL : i = L.length := by omega
                    have HINS : Hid (Ins (c, k) L L.length N pb) := by show Ins (c, k) L L.length N pb; rw [← hiL]; exact hins.out
                    clear hiL hlt3 hins hown3
                    cases pb
                    · go_wp2_with (at_builtin; refine wpList_append_lies _ rfl (.tmp 107) (.tmp 111) 25 rfl w3.heap.size 34 i0 _ 2 16 Try.underlying25 hi0 hz0 hz1 hz2 rfl (by omega) _ N.length _ rfl (hownN.alloc _) ⟨wr.heap.size, 0, none⟩ 1 1 [.int .i64 (c : Int), .int .i64 (k : Int)] rfl rfl (World.news_of_block (cs := #[.int .i64 (c : Int), .int .i64 (k : Int)]) (t := 34) (fr := (0, 0)) (heap_alloc_new wr _)) (by simp [Value.oneCell']) (by omega) (by unfold maxLen; omega) (by omega) (by simp; omega) (wr.heap.size + 1) (by simp) ?_; intro gg capp w4 hown4 hgrow hat hlt4)
                      go_wp2
                      have hd := HINS.out.last hsort.out
                      refine ⟨⟨n + 1, z + 1, N ++ [(c, k)], by go_num, by show z + 1 = A + (n + 1); have := hz.out; omega, by omega, ?_, ?_, hd.2, ?_⟩, by simp [intOf]; omega⟩
                      · rw [flatC_snoc, List.length_append]; exact own_mono hown4 (by omega)
                      · show List.Perm _ _
                        rw [gridR_col, ← hz.out, ← hy.out, ← HCE.out]
                        exact hd.1.trans (hperm.out.append_right _)
                      · exact hB3.trans (((hBn.alloc (by omega) _).grown hgrow (by simp; omega) (fun j hj => own_ge hownN hj)).mono (by omega))
                    · go_wp2
                      have hd := HINS.out.done
                      refine ⟨⟨n + 1, z + 1, N, by go_num, by show z + 1 = A + (n + 1); have := hz.out; omega, by omega, own_mono hownN (by omega), ?_, hd.2, ?_⟩, by simp [intOf]; omega⟩
                      · show List.Perm _ _
                        rw [gridR_col, ← hz.out, ← hy.out, ← HCE.out]
                        exact hd.1.trans (hperm.out.append_right _)
                      · exact hB3.trans (hBn.mono (by omega))
              · have hnn : n = nc := by omega
                have hzC' : decide ((z : Int) ≤ (C : Int)) = false := by have := hz.out; have := HNC.out; simp; omega
                have hzC2 : decide (z ≤ C) = false := by have := hz.out; have := HNC.out; simp; omega
                have HP : Hid (L.Perm (gridR k A B nc (m + 1) 0)) := by
                  show List.Perm _ _
                  rw [gridR_row, ← hnn]; rw [← hnn] at hperm; exact hperm.out
                clear hnn hperm
                go_wp2
                go_roundw
                case rel => exact ⟨m + 1, y + 1, L, by go_num, by show y + 1 = B + (m + 1); have := hy.out; omega, by omega, hown, HP, hsort, hBr⟩
                case measure => simp [intOf]; omega
          · have hmn : m = nr := by omega
            have hyD' : decide ((y : Int) ≤ (D : Int)) = false := by have := hy.out; have := HNR.out; simp; omega
            have hyD2 : decide (y ≤ D) = false := by have := hy.out; have := HNR.out; simp; omega
            have hLl : L.length = nr * nc := by
              have e1 := hperm.out.length_eq
              rw [length_gridR, hmn] at e1; omega
            have hpos : 0 < L.length := by rw [hLl]; exact Nat.mul_pos (by have := HNR.out; omega) (by have := HNC.out; omega)
            have hP : L.Perm (gridL k A B nr nc 0) := by
              have h3 := hperm.out
              rw [hmn] at h3
              exact h3.trans (gridR_perm k A B nc nr (by have := HNC.out; omega) (by have := HNR.out; omega))
            have HCOV : Hid (IsCover r k L) := by
              refine ⟨HSZ.out, ?_, hsort.out⟩
              rw [← hp.out, HA.out, HB.out, HC.out, HD.out, ← HNR.out, ← HNC.out]; exact hP
            obtain ⟨g, cap, hv, hg1, hg2⟩ := hown.form hpos
            subst hv
            clear hmn hLl hP hperm
            go_wp2
            go_ret2
            exact ⟨g, cap, k, L, rfl, own_mono hown (by omega), HCOV.out, hBW.trans (hBr.mono (by omega))⟩
end Go.Proofs.Ytdgbgmffpcooeaa
