/- What grid.Cover answers: the cells of a rectangle, by rising codes, in memory of its own. -/
import Derived.Test.YtdgbgmffpcooeaaSize
import Derived.Test.YtdgbgmffpcooeaaNext
import Derived.Test.YtdgbgmffpcooeaaSortC
import Derived.Deep.RegionHeld3
import Derived.Deep.AppendLies
namespace Go.Proofs.Ytdgbgmffpcooeaa
open Go.RowKit

def celAt (k x y : Nat) : Nat × Nat := (code (x * 2 ^ k) (y * 2 ^ k), k)
/-- What has been laid when n columns are over, and m rows of the next. -/
def gridL (k A B nr n m : Nat) : List (Nat × Nat) := ((List.range n).flatMap fun i => (List.range nr).map fun j => celAt k (A + i) (B + j)) ++ (List.range m).map fun j => celAt k (A + n) (B + j)
theorem gridL_row (k A B nr n m : Nat) : gridL k A B nr n (m + 1) = gridL k A B nr n m ++ [celAt k (A + n) (B + m)] := by
  unfold gridL; rw [List.range_succ, List.map_append, List.append_assoc]; rfl
theorem gridL_col (k A B nr n : Nat) : gridL k A B nr (n + 1) 0 = gridL k A B nr n nr := by
  unfold gridL; rw [List.range_succ (n := n), List.flatMap_append]; simp
theorem length_gridL (k A B nr n m : Nat) : (gridL k A B nr n m).length = n * nr + m := by
  unfold gridL
  induction n with
  | zero => simp
  | succ n ih =>
    rw [List.range_succ (n := n), List.flatMap_append]
    simp only [List.length_append, List.length_map, List.length_range, List.flatMap_cons, List.flatMap_nil, List.length_nil] at ih ⊢
    rw [Nat.add_mul]; omega

theorem info34 : (Try.prog.info? 34).map (fun i => (i.zero, i.size, i.bytes)) = some (some (.agg #[.int .i64 0, .int .i64 0]), 2, 16) := by kernel_rfl

theorem shl_nat (p k : Nat) (h : p * 2 ^ k < 65536) : IntKind.i64.wrap ((p : Int) * 2 ^ k) = ((p * 2 ^ k : Nat) : Int) := by
  rw [pow_cast, ← Int.natCast_mul]; exact wrap_i64_nat _ (by omega)
theorem code_shl (p q k : Nat) (w : World) (hp : p * 2 ^ k < 65536) (hq : q * 2 ^ k < 65536) :
    Calls Try.prog 28 #[.int .i64 (IntKind.i64.wrap ((p : Int) * 2 ^ k)), .int .i64 (IntKind.i64.wrap ((q : Int) * 2 ^ k))] w fun e w' => e = .returned (.int .i64 ((celAt k p q).1 : Int)) ∧ w' = w := by
  rw [shl_nat p k hp, shl_nat q k hq]; exact code_any _ _ w hp hq
theorem shl_le (x k : Nat) : x / 2 ^ k * 2 ^ k ≤ x := Nat.div_mul_le_self x (2 ^ k)

/-- The cells of a rectangle, by rising codes. -/
structure IsCover (r : Box) (k : Nat) (l : List (Nat × Nat)) : Prop where
  size : IsSize r k
  perm : l.Perm (gridL k (r.a / 2 ^ k) (r.b / 2 ^ k) (r.d / 2 ^ k - r.b / 2 ^ k + 1) (r.c / 2 ^ k - r.a / 2 ^ k + 1) 0)
  sorted : l.Pairwise fun x y => x.1 ≤ y.1
theorem perm_of_permIn {l : List (Nat × Nat)} {d' : Array (Nat × Nat)} (h : Go.Sort.PermIn 0 l.length l.toArray d') : d'.toList.length = l.length ∧ d'.toList.Perm l := by
  obtain ⟨h1, _, h3⟩ := h
  simp only [List.size_toArray] at h1
  have h2 : d'.toList.length = l.length := by simpa using h1
  refine ⟨h2, ?_⟩
  simp at h3
  rwa [List.take_of_length_le (by omega)] at h3
theorem sorted_of_sortedIn {l : List (Nat × Nat)} {d' : Array (Nat × Nat)} (hl : d'.toList.length = l.length) (h : Go.Sort.SortedIn (ltOf cmpC) 0 l.length d') : d'.toList.Pairwise fun x y => x.1 ≤ y.1 := by
  rw [List.pairwise_iff_getElem]
  intro i j hi hj hij
  have := h i j (Nat.zero_le _) hij (by omega)
  rw [ltC, decide_eq_false_iff_not] at this
  have e1 : d'[i]! = d'.toList[i] := by simp at hi; simp [hi]
  have e2 : d'[j]! = d'.toList[j] := by simp at hj; simp [hj]
  rw [e1, e2] at this
  omega

theorem own_ge {w : World} {base : Nat} {e : TypeId} {size : Nat} {v : Value} {n : Nat} {xs : List Value} (h : w.ownsRow base e size v n xs) {j : Nat} (hj : v.ownBlock = some j) : base ≤ j := by
  obtain ⟨_, ⟨rfl, _⟩ | ⟨g, cap, cur, rfl, hb, _⟩⟩ := h
  · cases hj
  · simp only [Value.ownBlock, Option.some.injEq] at hj; omega

set_option maxRecDepth 100000 in
set_option maxHeartbeats 2000000 in
theorem gcover_any (r : Box) (hr : r.ok) (w : World) :
    Calls Try.prog 30 #[.agg #[.int .i64 (r.a : Int), .int .i64 (r.b : Int), .int .i64 (r.c : Int), .int .i64 (r.d : Int)]] w fun e w' => ∃ (g cap k : Nat) (l : List (Nat × Nat)), e = .returned (.slice (some ⟨g, 0, none⟩) l.length cap) ∧ w'.ownsRow (w.heap.size + 1) 34 2 (.slice (some ⟨g, 0, none⟩) l.length cap) l.length (flatC l) ∧ IsCover r k l ∧ Below w.heap.size w w' := by
  obtain ⟨i0, hi0, hz0, hz1, hz2⟩ := info_parts info34
  go_enter Try.func30, Try.ntmps30
  go_wp2_with fail
  refine (size_any r hr _).mono ?_
  rintro e w1 ⟨⟨k, rfl, hk⟩, hb1⟩
  have hk15 := size_le hr hk
  have HK : Hid (IsSize r k) := hk
  obtain ⟨A, hA⟩ : ∃ A, r.a / 2 ^ k = A := ⟨_, rfl⟩
  obtain ⟨C, hC⟩ : ∃ A, r.c / 2 ^ k = A := ⟨_, rfl⟩
  obtain ⟨B, hB⟩ : ∃ A, r.b / 2 ^ k = A := ⟨_, rfl⟩
  obtain ⟨D, hD⟩ : ∃ A, r.d / 2 ^ k = A := ⟨_, rfl⟩
  have sA := shr_nat r.a k
  have sB := shr_nat r.b k
  have sC := shr_nat r.c k
  have sD := shr_nat r.d k
  rw [hA] at sA; rw [hB] at sB; rw [hC] at sC; rw [hD] at sD
  have hcx : ∀ p, p ≤ C → p * 2 ^ k < 65536 := fun p hp => by
    have h1 := Nat.mul_le_mul_right (2 ^ k) hp; have h2 := shl_le r.c k; have h3 := hr.2.1; rw [hC] at h2; omega
  have hcy : ∀ p, p ≤ D → p * 2 ^ k < 65536 := fun p hp => by
    have h1 := Nat.mul_le_mul_right (2 ^ k) hp; have h2 := shl_le r.d k; have h3 := hr.2.2.2; rw [hD] at h2; omega
  have hAC : A ≤ C := by rw [← hA, ← hC]; exact Nat.div_le_div_right hr.1
  have hBD : B ≤ D := by rw [← hB, ← hD]; exact Nat.div_le_div_right hr.2.2.1
  have hAC2 : C ≤ A + 1 := by rw [← hA, ← hC]; exact hk.1.1
  have hBD2 : D ≤ B + 1 := by rw [← hB, ← hD]; exact hk.1.2
  have hC65 : C < 65536 := by rw [← hC]; exact Nat.lt_of_le_of_lt (Nat.div_le_self _ _) hr.2.1
  have hD65 : D < 65536 := by rw [← hD]; exact Nat.lt_of_le_of_lt (Nat.div_le_self _ _) hr.2.2.2
  have hsz := hb1.size
  simp only [World.size_alloc] at hsz hb1
  obtain ⟨W0, hW0⟩ : ∃ W0, w.alloc (.cells #[.int .i64 (r.a : Int), .int .i64 (r.b : Int), .int .i64 (r.c : Int), .int .i64 (r.d : Int)] 30) = W0 := ⟨_, rfl⟩
  have b0 := Blk.new w 30 #[.int .i64 (r.a : Int), .int .i64 (r.b : Int), .int .i64 (r.c : Int), .int .i64 (r.d : Int)]
  rw [hW0] at b0 hb1
  have hBW : Below w.heap.size w W0 := by rw [← hW0]; exact (Below.refl _ _).alloc (Nat.le_refl _) _
  have hW0s : W0.heap.size = w.heap.size + 1 := by rw [← hW0]; simp
  clear hW0
  have HA : Hid (r.a / 2 ^ k = A) := hA
  have HC : Hid (r.c / 2 ^ k = C) := hC
  have HB : Hid (r.b / 2 ^ k = B) := hB
  have HD : Hid (r.d / 2 ^ k = D) := hD
  clear hA hB hC hD hk
  have cells_of : ∀ wr, Below (w.heap.size + 1) W0 wr → wr.cell? ⟨w.heap.size, 0, none⟩ = some (.int .i64 (r.a : Int)) ∧ wr.cell? ⟨w.heap.size, 1, none⟩ = some (.int .i64 (r.b : Int)) ∧ wr.cell? ⟨w.heap.size, 2, none⟩ = some (.int .i64 (r.c : Int)) ∧ wr.cell? ⟨w.heap.size, 3, none⟩ = some (.int .i64 (r.d : Int)) := fun wr h => by
    have b := b0.below h (by omega)
    exact ⟨b.cell 0, b.cell 1, b.cell 2, b.cell 3⟩
  have HCELL := cells_of
  obtain ⟨c0, c1, c2, c3⟩ := cells_of w1 hb1
  clear cells_of
  obtain ⟨nr, hnr⟩ : ∃ nr, nr = D - B + 1 := ⟨_, rfl⟩
  obtain ⟨nc, hnc⟩ : ∃ nc, nc = C - A + 1 := ⟨_, rfl⟩
  have HNR : Hid (nr = D - B + 1) := hnr
  have HNC : Hid (nc = C - A + 1) := hnc
  have hnr2 : nr ≤ 2 := by omega
  have hnc2 : nc ≤ 2 := by omega
  clear hnr hnc
  go_wp2
  go_loopw [4, 5] (fun s x wr => ∃ (n p : Nat), x = .int .i64 (p : Int) ∧ Hid (p = A + n) ∧ n ≤ nc ∧ wr.ownsRow (w.heap.size + 1) 34 2 s (n * nr) (flatC (gridL k A B nr n 0)) ∧ Below (w.heap.size + 1) W0 wr) (fun _ x _ => C + 1 - (intOf x).toNat)
  case atStart => exact ⟨0, A, rfl, by show A = A + 0; omega, by omega, by simp [gridL, flatC]; exact World.ownsRow_nil _ _ _ _, hb1⟩
  case round =>
    obtain ⟨n, p, rfl, hp, hn, hown, hBr⟩ := hrel
    obtain ⟨c0, c1, c2, c3⟩ := HCELL _ hBr
    by_cases hlt : n < nc
    · have hpC : p ≤ C := by have := hp.out; have := HNC.out; omega
      have hpC' : (p : Int) ≤ (C : Int) := by omega
      have hpx := hcx p hpC
      go_wp2
      go_loopw [4, 6] (fun s x ws => ∃ (m q : Nat), x = .int .i64 (q : Int) ∧ Hid (q = B + m) ∧ m ≤ nr ∧ ws.ownsRow (w.heap.size + 1) 34 2 s (n * nr + m) (flatC (gridL k A B nr n m)) ∧ Below (w.heap.size + 1) W0 ws) (fun _ x _ => D + 1 - (intOf x).toNat)
      case atStart => exact ⟨0, B, rfl, by show B = B + 0; omega, by omega, hown, hBr⟩
      case round =>
        clear hown hBr c0 c1 c2 c3
        obtain ⟨m, q, rfl, hq, hm, hown, hBr⟩ := hrel
        obtain ⟨c0, c1, c2, c3⟩ := HCELL _ hBr
        by_cases hlt2 : m < nr
        · have hqD : q ≤ D := by have := hq.out; have := HNR.out; omega
          have hqD' : (q : Int) ≤ (D : Int) := by omega
          have hqx := hcy q hqD
          have hnm : n * nr ≤ 4 := by
            have := Nat.mul_le_mul (show n ≤ 2 by omega) hnr2; omega
          have hsw := hBr.size
          obtain ⟨c, hce⟩ : ∃ c : Nat, c = (celAt k p q).1 := ⟨_, rfl⟩
          have hcon : ∀ W, Calls Try.prog 28 #[.int .i64 (IntKind.i64.wrap ((p : Int) * 2 ^ k)), .int .i64 (IntKind.i64.wrap ((q : Int) * 2 ^ k))] W fun e w' => e = .returned (.int .i64 (c : Int)) ∧ w' = W := by
            rw [hce]; exact fun W => code_shl p q k W hpx hqx
          have HCE : Hid (c = (celAt k p q).1) := hce
          clear hce c0 c1 c2 c3
          go_wp2
          go_region_held3 (fun _ => True) (trivial)
            (first
              | (go_at_call 28; refine (hcon _).mono ?_; rintro e w' ⟨rfl, rfl⟩)
              | (refine step_append_lies _ (by rfl) _ _ _ (by rfl) (w.heap.size + 1) 34 i0 _ 2 16 Try.underlying25 hi0 hz0 hz1 hz2 rfl (by omega) u4 (n * nr + m) _ (by rfl) ((hown.alloc _).drew)
                  ⟨wr.heap.size, 0, none⟩ 1 1 [.int .i64 (c : Int), .int .i64 (k : Int)] (by rfl) (by rfl) (World.news_of_block (cs := #[.int .i64 (c : Int), .int .i64 (k : Int)]) (t := 34) (fr := (0, 0)) (heap_alloc_new wr _)) (by simp [Value.oneCell'])
                  (by omega) (by unfold maxLen; omega) (by omega) (by simp; omega) (wr.heap.size + 1) (by simp) ?_; intro gg cap w2 hown2 hgrow hat hlt3))
          go_wp2
          refine ⟨⟨m + 1, q + 1, by go_num, by show q + 1 = B + (m + 1); have := hq.out; omega, by omega, ?_, ?_⟩, by simp [intOf]; omega⟩
          · rw [gridL_row, flatC_snoc, ← hp.out, ← hq.out]
            rw [HCE.out] at hown2
            exact hown2
          · exact ((hBr.alloc (by omega) _).drew).grown hgrow (by simp; omega) (fun j hj => own_ge hown hj)
        · have hmn : m = nr := by omega
          have hqD' : ¬ (q : Int) ≤ (D : Int) := by have := hq.out; have := HNR.out; omega
          have hown3 : wr.ownsRow (w.heap.size + 1) 34 2 u4 ((n + 1) * nr) (flatC (gridL k A B nr (n + 1) 0)) := by
            rw [gridL_col, Nat.add_mul, Nat.one_mul]; rw [hmn] at hown; exact hown
          clear hmn hown
          go_wp2
          go_roundw
          case rel => exact ⟨n + 1, p + 1, by go_num, by show p + 1 = A + (n + 1); have := hp.out; omega, by omega, hown3, hBr⟩
          case measure => simp [intOf]; omega
    · have hnn : n = nc := by omega
      have hpC' : ¬ (p : Int) ≤ (C : Int) := by have := hp.out; have := HNC.out; omega
      have hL := length_gridL k A B nr nc 0
      rw [hnn] at hown
      obtain ⟨l, hl⟩ : ∃ l, gridL k A B nr nc 0 = l := ⟨_, rfl⟩
      rw [hl] at hown hL
      have HL : Hid (gridL k A B nr nc 0 = l) := hl
      have hlen : l.length = nc * nr := by omega
      have hpos : 0 < nc * nr := Nat.mul_pos (by have := HNC.out; omega) (by have := HNR.out; omega)
      have hsmall : nc * nr ≤ 4 := by have := Nat.mul_le_mul hnc2 hnr2; omega
      rw [← hlen] at hown hpos hsmall
      obtain ⟨_, ⟨_, h0⟩ | ⟨g, cap, cur, hv, hbase, hblk, h1, h2, h3, h4⟩⟩ := hown
      · omega
      · subst hv
        have hcon := sort_any g 0 cap l.toArray wr (holds_of_row hblk h4) (Array.getElem?_eq_some_iff.1 hblk).1 (by simp; omega)
        simp only [List.size_toArray] at hcon
        have hg := (Array.getElem?_eq_some_iff.1 hblk).1
        have HBLK : Hid (wr.heap[g]? = some (.cells cur 34 (0, 0))) := hblk
        clear hblk h4 hlen hL hl hnn
        go_wp2_with (go_at_call 57; refine hcon.mono ?_; rintro e w' ⟨rfl, d', nn, os, hperm, hsort, hw'⟩)
        go_wp2
        go_ret
        obtain ⟨hpl, hpp⟩ := perm_of_permIn hperm
        have hle : (d'.toList).length = l.length := hpl
        have hBl : Below w.heap.size w wr := hBW.trans (hBr.mono (by omega))
        refine ⟨g, cap, k, d'.toList, by rw [hle]; rfl, ?_, ⟨HK.out, ?_, sorted_of_sortedIn hpl hsort⟩, hBl.trans (below_sorted (by omega) hg)⟩
        · rw [hle]
          have := row_sorted (n := nn) (os := os) (l := l) (l' := d'.toList) hle hbase HBLK.out h1 h2 h3
          simpa using this
        · rw [HA.out, HB.out, HC.out, HD.out, ← HNR.out, ← HNC.out, HL.out]; exact hpp
end Go.Proofs.Ytdgbgmffpcooeaa
