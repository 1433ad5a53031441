/- Cover Own Gen Rf T1 T2 -/
import Derived.Test.YtdgbgmffpcooeaaGreatK06
import Derived.Test.YtdgbgmffpcooeaaGreatK08
import Derived.Test.YtdgbgmffpcooeaaGreatK09
import Derived.Deep.RegionHeld3
import Derived.Deep.AppendLies
import Derived.OwnWalk
import Derived.RegionTactic
import Derived.BigRegion
import Derived.Lib.AppendStr
import Derived.Laws.IdiomStrings
import Derived.Deep.Cut
import Derived.RangeFuncNested
import Derived.RangeFuncBound
import Derived.RangeFuncCalls
import Derived.RangeFuncLeaves
section
/- What grid.Cover answers: the cells of a rectangle, by rising codes, in memory of its own. -/
namespace Go.Proofs.YtdgbgmffpcooeaaGreat
open Go.RowKit

def celAt (k x y : Nat) : Nat × Nat := (code (x * 2 ^ k) (y * 2 ^ k), k)
/-- What has been laid when n columns are over, and m rows of the next. -/
def gridL (k A B nr n m : Nat) : List (Nat × Nat) := ((List.range n).flatMap fun i => (List.range nr).map fun j => celAt k (A + i) (B + j)) ++ (List.range m).map fun j => celAt k (A + n) (B + j)
theorem gridL_row (k A B nr n m : Nat) : gridL k A B nr n (m + 1) = gridL k A B nr n m ++ [celAt k (A + n) (B + m)] := by
  unfold gridL; rw [List.range_succ, List.map_append, List.append_assoc]; rfl
theorem gridL_col (k A B nr n : Nat) : gridL k A B nr (n + 1) 0 = gridL k A B nr n nr := by
  unfold gridL; rw [List.range_succ (n := n), List.flatMap_append]; simp
theorem length_gridL (k A B nr n m : Nat) : (gridL k A B nr n m).length = n * nr + m := by
  unfold gridL
  induction n with
  | zero => simp
  | succ n ih =>
    rw [List.range_succ (n := n), List.flatMap_append]
    simp only [List.length_append, List.length_map, List.length_range, List.flatMap_cons, List.flatMap_nil, List.length_nil] at ih ⊢
    rw [Nat.add_mul]; omega

theorem info99 : (Tryz.prog.info? 99).map (fun i => (i.zero, i.size, i.bytes)) = some (some (.agg #[.int .i64 0, .int .i64 0]), 2, 16) := by kernel_rfl

theorem shl_nat (p k : Nat) (h : p * 2 ^ k < 65536) : IntKind.i64.wrap ((p : Int) * 2 ^ k) = ((p * 2 ^ k : Nat) : Int) := by
  rw [pow_cast, ← Int.natCast_mul]; exact wrap_i64_nat _ (by omega)
theorem code_shl (p q k : Nat) (w : World) (hp : p * 2 ^ k < 65536) (hq : q * 2 ^ k < 65536) :
    Calls Tryz.prog 139 #[.int .i64 (IntKind.i64.wrap ((p : Int) * 2 ^ k)), .int .i64 (IntKind.i64.wrap ((q : Int) * 2 ^ k))] w fun e w' => e = .returned (.int .i64 ((celAt k p q).1 : Int)) ∧ w' = w := by
  rw [shl_nat p k hp, shl_nat q k hq]; exact code_any _ _ w hp hq
theorem shl_le (x k : Nat) : x / 2 ^ k * 2 ^ k ≤ x := Nat.div_mul_le_self x (2 ^ k)

/-- The cells of a rectangle, by rising codes. -/
structure IsCover (r : Box) (k : Nat) (l : List (Nat × Nat)) : Prop where
  size : IsSize r k
  perm : l.Perm (gridL k (r.a / 2 ^ k) (r.b / 2 ^ k) (r.d / 2 ^ k - r.b / 2 ^ k + 1) (r.c / 2 ^ k - r.a / 2 ^ k + 1) 0)
  sorted : l.Pairwise fun x y => x.1 ≤ y.1
theorem perm_of_permIn {l : List (Nat × Nat)} {d' : Array (Nat × Nat)} (h : Go.Sort.PermIn 0 l.length l.toArray d') : d'.toList.length = l.length ∧ d'.toList.Perm l := by
  obtain ⟨h1, _, h3⟩ := h
  simp only [List.size_toArray] at h1
  have h2 : d'.toList.length = l.length := by simpa using h1
  refine ⟨h2, ?_⟩
  simp at h3
  rwa [List.take_of_length_le (by omega)] at h3
theorem sorted_of_sortedIn {l : List (Nat × Nat)} {d' : Array (Nat × Nat)} (hl : d'.toList.length = l.length) (h : Go.Sort.SortedIn (ltOf cmpC) 0 l.length d') : d'.toList.Pairwise fun x y => x.1 ≤ y.1 := by
  rw [List.pairwise_iff_getElem]
  intro i j hi hj hij
  have := h i j (Nat.zero_le _) hij (by omega)
  rw [ltC, decide_eq_false_iff_not] at this
  have e1 : d'[i]! = d'.toList[i] := by simp at hi; simp [hi]
  have e2 : d'[j]! = d'.toList[j] := by simp at hj; simp [hj]
  rw [e1, e2] at this
  omega

theorem own_ge {w : World} {base : Nat} {e : TypeId} {size : Nat} {v : Value} {n : Nat} {xs : List Value} (h : w.ownsRow base e size v n xs) {j : Nat} (hj : v.ownBlock = some j) : base ≤ j := by
  obtain ⟨_, ⟨rfl, _⟩ | ⟨g, cap, cur, rfl, hb, _⟩⟩ := h
  · cases hj
  · simp only [Value.ownBlock, Option.some.injEq] at hj; omega

set_option maxRecDepth 100000 in
set_option maxHeartbeats 2000000 in
theorem gcover_any (r : Box) (hr : r.ok) (w : World) :
    Calls Tryz.prog 111 #[.agg #[.int .i64 (r.a : Int), .int .i64 (r.b : Int), .int .i64 (r.c : Int), .int .i64 (r.d : Int)]] w fun e w' => ∃ (g cap k : Nat) (l : List (Nat × Nat)), e = .returned (.slice (some ⟨g, 0, none⟩) l.length cap) ∧ w'.ownsRow (w.heap.size + 1) 99 2 (.slice (some ⟨g, 0, none⟩) l.length cap) l.length (flatC l) ∧ IsCover r k l ∧ Below w.heap.size w w' := by
  obtain ⟨i0, hi0, hz0, hz1, hz2⟩ := info_parts info99
  go_enter Tryz.func111, Tryz.ntmps111
  go_wp2_with fail
  refine (size_any r hr _).mono ?_
  rintro e w1 ⟨⟨k, rfl, hk⟩, hb1⟩
  have hk15 := size_le hr hk
  have HK : Hid (IsSize r k) := hk
  obtain ⟨A, hA⟩ : ∃ A, r.a / 2 ^ k = A := ⟨_, rfl⟩
  obtain ⟨C, hC⟩ : ∃ A, r.c / 2 ^ k = A := ⟨_, rfl⟩
  obtain ⟨B, hB⟩ : ∃ A, r.b / 2 ^ k = A := ⟨_, rfl⟩
  obtain ⟨D, hD⟩ : ∃ A, r.d / 2 ^ k = A := ⟨_, rfl⟩
  have sA := shr_nat r.a k
  have sB := shr_nat r.b k
  have sC := shr_nat r.c k
  have sD := shr_nat r.d k
  rw [hA] at sA; rw [hB] at sB; rw [hC] at sC; rw [hD] at sD
  have hcx : ∀ p, p ≤ C → p * 2 ^ k < 65536 := fun p hp => by
    have h1 := Nat.mul_le_mul_right (2 ^ k) hp; have h2 := shl_le r.c k; have h3 := hr.2.1; rw [hC] at h2; omega
  have hcy : ∀ p, p ≤ D → p * 2 ^ k < 65536 := fun p hp => by
    have h1 := Nat.mul_le_mul_right (2 ^ k) hp; have h2 := shl_le r.d k; have h3 := hr.2.2.2; rw [hD] at h2; omega
  have hAC : A ≤ C := by rw [← hA, ← hC]; exact Nat.div_le_div_right hr.1
  have hBD : B ≤ D := by rw [← hB, ← hD]; exact Nat.div_le_div_right hr.2.2.1
  have hAC2 : C ≤ A + 1 := by rw [← hA, ← hC]; exact hk.1.1
  have hBD2 : D ≤ B + 1 := by rw [← hB, ← hD]; exact hk.1.2
  have hC65 : C < 65536 := by rw [← hC]; exact Nat.lt_of_le_of_lt (Nat.div_le_self _ _) hr.2.1
  have hD65 : D < 65536 := by rw [← hD]; exact Nat.lt_of_le_of_lt (Nat.div_le_self _ _) hr.2.2.2
  have hsz := hb1.size
  simp only [World.size_alloc] at hsz hb1
  obtain ⟨W0, hW0⟩ : ∃ W0, w.alloc (.cells #[.int .i64 (r.a : Int), .int .i64 (r.b : Int), .int .i64 (r.c : Int), .int .i64 (r.d : Int)] 34) = W0 := ⟨_, rfl⟩
  have b0 := Blk.new w 34 #[.int .i64 (r.a : Int), .int .i64 (r.b : Int), .int .i64 (r.c : Int), .int .i64 (r.d : Int)]
  rw [hW0] at b0 hb1
  have hBW : Below w.heap.size w W0 := by rw [← hW0]; exact (Below.refl _ _).alloc (Nat.le_refl _) _
  have hW0s : W0.heap.size = w.heap.size + 1 := by rw [← hW0]; simp
  clear hW0
  have HA : Hid (r.a / 2 ^ k = A) := hA
  have HC : Hid (r.c / 2 ^ k = C) := hC
  have HB : Hid (r.b / 2 ^ k = B) := hB
  have HD : Hid (r.d / 2 ^ k = D) := hD
  clear hA hB hC hD hk
  have cells_of : ∀ wr, Below (w.heap.size + 1) W0 wr → wr.cell? ⟨w.heap.size, 0, none⟩ = some (.int .i64 (r.a : Int)) ∧ wr.cell? ⟨w.heap.size, 1, none⟩ = some (.int .i64 (r.b : Int)) ∧ wr.cell? ⟨w.heap.size, 2, none⟩ = some (.int .i64 (r.c : Int)) ∧ wr.cell? ⟨w.heap.size, 3, none⟩ = some (.int .i64 (r.d : Int)) := fun wr h => by
    have b := b0.below h (by omega)
    exact ⟨b.cell 0, b.cell 1, b.cell 2, b.cell 3⟩
  have HCELL := cells_of
  obtain ⟨c0, c1, c2, c3⟩ := cells_of w1 hb1
  clear cells_of
  obtain ⟨nr, hnr⟩ : ∃ nr, nr = D - B + 1 := ⟨_, rfl⟩
  obtain ⟨nc, hnc⟩ : ∃ nc, nc = C - A + 1 := ⟨_, rfl⟩
  have HNR : Hid (nr = D - B + 1) := hnr
  have HNC : Hid (nc = C - A + 1) := hnc
  have hnr2 : nr ≤ 2 := by omega
  have hnc2 : nc ≤ 2 := by omega
  clear hnr hnc
  go_wp2
  go_loopw [4, 5] (fun s x wr => ∃ (n p : Nat), x = .int .i64 (p : Int) ∧ Hid (p = A + n) ∧ n ≤ nc ∧ wr.ownsRow (w.heap.size + 1) 99 2 s (n * nr) (flatC (gridL k A B nr n 0)) ∧ Below (w.heap.size + 1) W0 wr) (fun _ x _ => C + 1 - (intOf x).toNat)
  case atStart => exact ⟨0, A, rfl, by show A = A + 0; omega, by omega, by simp [gridL, flatC]; exact World.ownsRow_nil _ _ _ _, hb1⟩
  case round =>
    obtain ⟨n, p, rfl, hp, hn, hown, hBr⟩ := hrel
    obtain ⟨c0, c1, c2, c3⟩ := HCELL _ hBr
    by_cases hlt : n < nc
    · have hpC : p ≤ C := by have := hp.out; have := HNC.out; omega
      have hpC' : (p : Int) ≤ (C : Int) := by omega
      have hpx := hcx p hpC
      go_wp2
      go_loopw [4, 6] (fun s x ws => ∃ (m q : Nat), x = .int .i64 (q : Int) ∧ Hid (q = B + m) ∧ m ≤ nr ∧ ws.ownsRow (w.heap.size + 1) 99 2 s (n * nr + m) (flatC (gridL k A B nr n m)) ∧ Below (w.heap.size + 1) W0 ws) (fun _ x _ => D + 1 - (intOf x).toNat)
      case atStart => exact ⟨0, B, rfl, by show B = B + 0; omega, by omega, hown, hBr⟩
      case round =>
        clear hown hBr c0 c1 c2 c3
        obtain ⟨m, q, rfl, hq, hm, hown, hBr⟩ := hrel
        obtain ⟨c0, c1, c2, c3⟩ := HCELL _ hBr
        by_cases hlt2 : m < nr
        · have hqD : q ≤ D := by have := hq.out; have := HNR.out; omega
          have hqD' : (q : Int) ≤ (D : Int) := by omega
          have hqx := hcy q hqD
          have hnm : n * nr ≤ 4 := by
            have := Nat.mul_le_mul (show n ≤ 2 by omega) hnr2; omega
          have hsw := hBr.size
          obtain ⟨c, hce⟩ : ∃ c : Nat, c = (celAt k p q).1 := ⟨_, rfl⟩
          have hcon : ∀ W, Calls Tryz.prog 139 #[.int .i64 (IntKind.i64.wrap ((p : Int) * 2 ^ k)), .int .i64 (IntKind.i64.wrap ((q : Int) * 2 ^ k))] W fun e w' => e = .returned (.int .i64 (c : Int)) ∧ w' = W := by
            rw [hce]; exact fun W => code_shl p q k W hpx hqx
          have HCE : Hid (c = (celAt k p q).1) := hce
          clear hce c0 c1 c2 c3
          go_wp2
          go_region_held3 (fun _ => True) (trivial)
            (first
              | (go_at_call 139; refine (hcon _).mono ?_; rintro e w' ⟨rfl, rfl⟩)
              | (refine step_append_lies _ (by rfl) _ _ _ (by rfl) (w.heap.size + 1) 99 i0 _ 2 16 Tryz.underlying40 hi0 hz0 hz1 hz2 rfl (by omega) u4 (n * nr + m) _ (by rfl) ((hown.alloc _).drew)
                  ⟨wr.heap.size, 0, none⟩ 1 1 [.int .i64 (c : Int), .int .i64 (k : Int)] (by rfl) (by rfl) (World.news_of_block (cs := #[.int .i64 (c : Int), .int .i64 (k : Int)]) (t := 99) (fr := (0, 0)) (heap_alloc_new wr _)) (by simp [Value.oneCell'])
                  (by omega) (by unfold maxLen; omega) (by omega) (by simp; omega) (wr.heap.size + 1) (by simp) ?_; intro gg cap w2 hown2 hgrow hat hlt3))
          go_wp2
          refine ⟨⟨m + 1, q + 1, by go_num, by show q + 1 = B + (m + 1); have := hq.out; omega, by omega, ?_, ?_⟩, by simp [intOf]; omega⟩
          · rw [gridL_row, flatC_snoc, ← hp.out, ← hq.out]
            rw [HCE.out] at hown2
            exact hown2
          · exact ((hBr.alloc (by omega) _).drew).grown hgrow (by simp; omega) (fun j hj => own_ge hown hj)
        · have hmn : m = nr := by omega
          have hqD' : ¬ (q : Int) ≤ (D : Int) := by have := hq.out; have := HNR.out; omega
          have hown3 : wr.ownsRow (w.heap.size + 1) 99 2 u4 ((n + 1) * nr) (flatC (gridL k A B nr (n + 1) 0)) := by
            rw [gridL_col, Nat.add_mul, Nat.one_mul]; rw [hmn] at hown; exact hown
          clear hmn hown
          go_wp2
          go_roundw
          case rel => exact ⟨n + 1, p + 1, by go_num, by show p + 1 = A + (n + 1); have := hp.out; omega, by omega, hown3, hBr⟩
          case measure => simp [intOf]; omega
    · have hnn : n = nc := by omega
      have hpC' : ¬ (p : Int) ≤ (C : Int) := by have := hp.out; have := HNC.out; omega
      have hL := length_gridL k A B nr nc 0
      rw [hnn] at hown
      obtain ⟨l, hl⟩ : ∃ l, gridL k A B nr nc 0 = l := ⟨_, rfl⟩
      rw [hl] at hown hL
      have HL : Hid (gridL k A B nr nc 0 = l) := hl
      have hlen : l.length = nc * nr := by omega
      have hpos : 0 < nc * nr := Nat.mul_pos (by have := HNC.out; omega) (by have := HNR.out; omega)
      have hsmall : nc * nr ≤ 4 := by have := Nat.mul_le_mul hnc2 hnr2; omega
      rw [← hlen] at hown hpos hsmall
      obtain ⟨_, ⟨_, h0⟩ | ⟨g, cap, cur, hv, hbase, hblk, h1, h2, h3, h4⟩⟩ := hown
      · omega
      · subst hv
        have hcon := sort_any g 0 cap l.toArray wr (holds_of_row hblk h4) (Array.getElem?_eq_some_iff.1 hblk).1 (by simp; omega)
        simp only [List.size_toArray] at hcon
        have hg := (Array.getElem?_eq_some_iff.1 hblk).1
        have HBLK : Hid (wr.heap[g]? = some (.cells cur 99 (0, 0))) := hblk
        clear hblk h4 hlen hL hl hnn
        go_wp2_with (go_at_call 140; refine hcon.mono ?_; rintro e w' ⟨rfl, d', nn, os, hperm, hsort, hw'⟩)
        go_wp2
        go_ret
        obtain ⟨hpl, hpp⟩ := perm_of_permIn hperm
        have hle : (d'.toList).length = l.length := hpl
        have hBl : Below w.heap.size w wr := hBW.trans (hBr.mono (by omega))
        refine ⟨g, cap, k, d'.toList, by rw [hle]; rfl, ?_, ⟨HK.out, ?_, sorted_of_sortedIn hpl hsort⟩, hBl.trans (below_sorted (by omega) hg)⟩
        · rw [hle]
          have := row_sorted (n := nn) (os := os) (l := l) (l' := d'.toList) hle hbase HBLK.out h1 h2 h3
          simpa using this
        · rw [HA.out, HB.out, HC.out, HD.out, ← HNR.out, ← HNC.out, HL.out]; exact hpp
end Go.Proofs.YtdgbgmffpcooeaaGreat
end
section
/- Plain facts on rows of cells in memory of one's own. -/
namespace Go.Proofs.YtdgbgmffpcooeaaGreat
open Go.RowKit

theorem own_below {W W' : World} {base : Nat} {e : TypeId} {size : Nat} {v : Value} {n : Nat} {xs : List Value} (h : W.ownsRow base e size v n xs) (hb : Below W.heap.size W W') : W'.ownsRow base e size v n xs := by
  obtain ⟨h0, h1 | ⟨g, cap, cur, e1, e2, e3, e4⟩⟩ := h
  · exact ⟨h0, .inl h1⟩
  · exact ⟨h0, .inr ⟨g, cap, cur, e1, e2, (hb.block g (Array.getElem?_eq_some_iff.1 e3).1).trans e3, e4⟩⟩
theorem own_shape {W : World} {base : Nat} {e : TypeId} {size : Nat} {v : Value} {n : Nat} {xs : List Value} (h : W.ownsRow base e size v n xs) : ∃ a cap, v = .slice a n cap ∧ (a.isSome ∨ n = 0) ∧ n ≤ maxLen ∧ n ≤ cap := by
  obtain ⟨_, ⟨rfl, rfl⟩ | ⟨g, cap, cur, rfl, _, _, h1, h2, _⟩⟩ := h
  · exact ⟨none, 0, rfl, .inr rfl, by unfold maxLen; omega, by omega⟩
  · exact ⟨_, cap, rfl, .inl rfl, Nat.le_trans h1 h2, h1⟩
theorem own_cell {W : World} {base : Nat} {e : TypeId} {size : Nat} {g n cap : Nat} {xs : List Value} (h : W.ownsRow base e size (.slice (some ⟨g, 0, none⟩) n cap) n xs) (t : Nat) (ht : t < n * size) : W.cell? ⟨g, t, none⟩ = xs[t]? ∧ W.frozen? ⟨g, t, none⟩ = false := by
  obtain ⟨_, ⟨e1, _⟩ | ⟨g', cap', cur, e1, _, h1, _, _, _, h2⟩⟩ := h
  · cases e1
  · cases e1
    constructor
    · have e : (cur.toList.take (n * size))[t]? = xs[t]? := by rw [h2]
      rw [List.getElem?_take_of_lt ht, Array.getElem?_toList] at e
      simp [World.cell?, h1, e]
    · simp [World.frozen?, h1]
theorem own_lt {W : World} {base : Nat} {e : TypeId} {size : Nat} {g n cap : Nat} {xs : List Value} (h : W.ownsRow base e size (.slice (some ⟨g, 0, none⟩) n cap) n xs) : base ≤ g ∧ g < W.heap.size := by
  obtain ⟨_, ⟨e1, _⟩ | ⟨g', cap', cur, e1, hb, h1, _, _, _, h2⟩⟩ := h
  · cases e1
  · cases e1; exact ⟨hb, (Array.getElem?_eq_some_iff.1 h1).1⟩
end Go.Proofs.YtdgbgmffpcooeaaGreat
end
section
/- Plain facts of no program: blocks, rows of one's own, what a step leaves as it was; numbers that are kept, bytes one behind the other. -/
namespace Go.Proofs.YtdgbgmffpcooeaaGreat
open Go.RowKit Go.Lib
theorem Blk.set {W : World} {B : Nat} {t : TypeId} {vs : Array Value} (h : Blk W B t vs) (i : Nat) (v : Value) : Blk (W.setCell ⟨B, i, none⟩ v) B t (vs.setIfInBounds i v) := by
  obtain ⟨hlt, hk⟩ := Array.getElem?_eq_some_iff.1 h
  show (W.heap.modify B _)[B]? = _
  rw [Array.getElem?_eq_getElem (by rw [Array.size_modify]; exact hlt), Array.getElem_modify_self, hk]
  rfl
theorem Blk.other {W : World} {B B' : Nat} {t : TypeId} {vs : Array Value} (h : Blk W B t vs) (hne : B ≠ B') (i : Nat) (v : Value) : Blk (W.setCell ⟨B', i, none⟩ v) B t vs := by
  show (W.setCell ⟨B', i, none⟩ v).heap[B]? = _
  rw [Below.heap_setCell W ⟨B', i, none⟩ v B hne]; exact h
theorem Blk.drew {W : World} {B : Nat} {t : TypeId} {vs : Array Value} (h : Blk W B t vs) : Blk W.drew B t vs := h
theorem own_tagged {W : World} {base : Nat} {e : TypeId} {size : Nat} {v : Value} {n : Nat} {xs : List Value} (h : W.ownsRow base e size v n xs) {j : Nat} (hj : v.ownBlock = some j) : base ≤ j ∧ ∃ cs, W.heap[j]? = some (.cells cs e (0, 0)) := by
  obtain ⟨_, ⟨rfl, _⟩ | ⟨g, cap, cur, rfl, h1, h2, _⟩⟩ := h
  · cases hj
  · simp only [Value.ownBlock, Option.some.injEq] at hj
    subst hj; exact ⟨h1, cur, h2⟩
theorem own_other {W : World} {base : Nat} {e : TypeId} {size : Nat} {v : Value} {n : Nat} {xs : List Value} (h : W.ownsRow base e size v n xs) {B i : Nat} {cs : Array Value} {t : TypeId} {f : Nat × Nat} (hB : W.heap[B]? = some (.cells cs t f)) (ht : t ≠ e) (u : Value) : (W.setCell ⟨B, i, none⟩ u).ownsRow base e size v n xs := by
  obtain ⟨h0, h1 | ⟨g, cap, cur, e1, e2, e3, e4⟩⟩ := h
  · exact ⟨h0, .inl h1⟩
  · refine ⟨h0, .inr ⟨g, cap, cur, e1, e2, (Below.heap_setCell W ⟨B, i, none⟩ u g fun e => ?_).trans e3, e4⟩⟩
    simp only at e
    subst e
    rw [e3] at hB; cases hB; exact ht rfl
theorem Blk.grown {W W' : World} {B : Nat} {t : TypeId} {vs : Array Value} {row : Option Nat} (h : Blk W B t vs) (hg : W.grownBy W' row) (hr : ∀ j, row = some j → j ≠ B) : Blk W' B t vs := h.kept hg (fun e => hr B e.symm rfl)
theorem tag_ne {W : World} {B j : Nat} {t s : TypeId} {vs cs : Array Value} (h : Blk W B t vs) (hj : W.heap[j]? = some (.cells cs s (0, 0))) (hne : s ≠ t) : j ≠ B := fun e => by
  subst e; rw [show W.heap[j]? = _ from h] at hj; cases hj; exact hne rfl
/-- All but the blocks of F is as it was. -/
structure Off (F : Nat → Prop) (W W' : World) : Prop where
  os : W'.os = W.os
  tape : W'.tape = W.tape
  output : W'.output = W.output
  size : W.heap.size ≤ W'.heap.size
  block : ∀ k, k < W.heap.size → ¬ F k → W'.heap[k]? = W.heap[k]?
theorem Off.refl (F : Nat → Prop) (W : World) : Off F W W := ⟨rfl, rfl, rfl, Nat.le_refl _, fun _ _ _ => rfl⟩
theorem Off.trans {F : Nat → Prop} {a b c : World} (h : Off F a b) (k : Off F b c) : Off F a c :=
  ⟨k.os.trans h.os, k.tape.trans h.tape, k.output.trans h.output, Nat.le_trans h.size k.size, fun i hi hf => (k.block i (Nat.lt_of_lt_of_le hi h.size) hf).trans (h.block i hi hf)⟩
theorem Off.mono {F G : Nat → Prop} {W W' : World} (h : Off F W W') (hg : ∀ k, k < W.heap.size → F k → G k) : Off G W W' := ⟨h.os, h.tape, h.output, h.size, fun k hk hf => h.block k hk (fun hF => hf (hg k hk hF))⟩
/-- What may be written besides: blocks that were made since. -/
theorem Off.step {F G : Nat → Prop} {a b c : World} (h : Off F a b) (k : Off G b c) (hg : ∀ i, i < a.heap.size → G i → F i) : Off F a c :=
  ⟨k.os.trans h.os, k.tape.trans h.tape, k.output.trans h.output, Nat.le_trans h.size k.size, fun i hi hf => (k.block i (Nat.lt_of_lt_of_le hi h.size) (fun hG => hf (hg i hi hG))).trans (h.block i hi hf)⟩
theorem Off.of_below {F : Nat → Prop} {W W' : World} (h : Below W.heap.size W W') : Off F W W' := ⟨h.os, h.tape, h.output, h.size, fun k hk _ => h.block k hk⟩
theorem Off.below {F : Nat → Prop} {W W' : World} {n : Nat} (h : Off F W W') (hn : n ≤ W.heap.size) (hF : ∀ k, F k → n ≤ k) : Below n W W' :=
  ⟨h.os, h.tape, h.output, h.size, fun k hk => h.block k (Nat.lt_of_lt_of_le hk hn) (fun hf => by have := hF k hf; omega)⟩
theorem Off.setCell {F : Nat → Prop} {W0 W : World} (h : Off F W0 W) {B i : Nat} (u : Value) (hB : F B ∨ W0.heap.size ≤ B) : Off F W0 (W.setCell ⟨B, i, none⟩ u) :=
  ⟨h.os, h.tape, h.output, by simp [World.setCell]; exact h.size, fun k hk hf => (Below.heap_setCell W ⟨B, i, none⟩ u k (fun e => by
    simp only at e
    subst e
    rcases hB with g | g
    · exact hf g
    · omega)).trans (h.block k hk hf)⟩
theorem Off.drew {F : Nat → Prop} {W0 W : World} (h : Off F W0 W) : Off F W0 W.drew := ⟨h.os, h.tape, h.output, h.size, h.block⟩
theorem Off.alloc {F : Nat → Prop} {W0 W : World} (h : Off F W0 W) (o : Obj) : Off F W0 (W.alloc o) := h.trans (Off.of_below ((Below.refl _ W).alloc (Nat.le_refl _) o))
theorem Off.grown {F : Nat → Prop} {W0 W W' : World} {row : Option Nat} (h : Off F W0 W) (hg : W.grownBy W' row) (hr : ∀ j, row = some j → F j ∨ W0.heap.size ≤ j) : Off F W0 W' :=
  ⟨hg.os.trans h.os, hg.tape.trans h.tape, hg.output.trans h.output, Nat.le_trans h.size hg.size, fun k hk hf => (hg.block k (Nat.lt_of_lt_of_le hk h.size) (fun e => by
    rcases hr k e.symm with g | g
    · exact hf g
    · omega)).trans (h.block k hk hf)⟩
theorem Blk.off {F : Nat → Prop} {W W' : World} {B : Nat} {t : TypeId} {vs : Array Value} (h : Blk W B t vs) (ho : Off F W W') (hB : ¬ F B) : Blk W' B t vs := (ho.block B h.lt hB).trans h
theorem own_off {F : Nat → Prop} {W W' : World} {base : Nat} {e : TypeId} {size g n cap : Nat} {xs : List Value} (h : W.ownsRow base e size (.slice (some ⟨g, 0, none⟩) n cap) n xs) (ho : Off F W W') (hg : ¬ F g) : W'.ownsRow base e size (.slice (some ⟨g, 0, none⟩) n cap) n xs := by
  obtain ⟨h0, h1 | ⟨g', cap', cur, e1, e2, e3, e4⟩⟩ := h
  · exact ⟨h0, .inl h1⟩
  · cases e1
    exact ⟨h0, .inr ⟨g, cap, cur, rfl, e2, (ho.block g (Array.getElem?_eq_some_iff.1 e3).1 hg).trans e3, e4⟩⟩
def upd {α : Type} (f : Nat → α) (i : Nat) (b : α) : Nat → α := fun j => if j = i then b else f j
theorem upd_same {α : Type} (f : Nat → α) (i : Nat) (b : α) : upd f i b i = b := by simp [upd]
theorem upd_ne {α : Type} (f : Nat → α) {i j : Nat} (b : α) (h : j ≠ i) : upd f i b j = f j := by simp [upd, h]
/-- A list of numbers that came in. -/
structure KAt (w : World) (ak : Option Addr) (lk : Nat) (K : Nat → Int) : Prop where
  at_ : ∀ i, i < lk → ∃ a, ak = some a ∧ a.block < w.heap.size ∧ w.cell? (a.add i) = some (.int .i64 (K i))
/-- Is this place among those that are kept? -/
def keptAt (K : Nat → Int) (k : Nat) (a : Nat) : Bool := (List.range k).any fun j => K j == (a : Int)
theorem keptAt_zero (K : Nat → Int) (a : Nat) : keptAt K 0 a = false := by simp [keptAt]
theorem keptAt_succ (K : Nat → Int) (k a : Nat) : keptAt K (k + 1) a = (keptAt K k a || (K k == (a : Int))) := by simp [keptAt, List.range_succ]
/-- How many were written below t. -/
def rank (d : Nat → Bool) (t : Nat) : Nat := (List.range t).countP d
theorem rank_le (d : Nat → Bool) (t : Nat) : rank d t ≤ t := by
  have := List.countP_le_length (p := d) (l := List.range t)
  simpa [rank] using this
theorem info5 : (Tryz.prog.info? 5).map (fun i => (i.zero, i.size, i.bytes)) = some (some (.int .u8 0), 1, 1) := by kernel_rfl
/-- The bytes of the first j. -/
def joined (f : Nat → ByteArray) (j : Nat) : List UInt8 := (List.range j).flatMap fun t => (f t).data.toList
theorem joined_zero (f : Nat → ByteArray) : joined f 0 = [] := by simp [joined]
theorem joined_succ (f : Nat → ByteArray) (j : Nat) : joined f (j + 1) = joined f j ++ (f j).data.toList := by simp [joined, List.range_succ]
theorem length_data (b : ByteArray) : b.data.toList.length = b.size := by rw [Array.length_toList]; rfl
theorem length_joined (f : Nat → ByteArray) (j : Nat) (h : ∀ t, t < j → (f t).size = 256) : (joined f j).length = j * 256 := by
  induction j with
  | zero => simp [joined]
  | succ j ih => rw [joined_succ, List.length_append, ih (fun t ht => h t (by omega)), length_data, h j (by omega)]; omega
def byteCells (l : List UInt8) : List Value := l.map fun b => .int .u8 b.toNat
theorem byteCells_succ (f : Nat → ByteArray) (j : Nat) : byteCells (joined f (j + 1)) = byteCells (joined f j) ++ strCells (f j) := by rw [joined_succ]; simp [byteCells, strCells]
/-- 'string(b)' of a row of bytes that is owned. -/
theorem conv_own {w : World} {base g cap n : Nat} {l : List UInt8} (hn : l.length = n) (h : w.ownsRow base 5 1 (.slice (some ⟨g, 0, none⟩) n cap) n (byteCells l)) : (convert 81 9 (.slice (some ⟨g, 0, none⟩) n cap)).run Tryz.prog w = .ok (.string ⟨l.toArray⟩) w := by
  have := run_convert_bytes_back (P := Tryz.prog) w 81 9 5 ⟨g, 0, none⟩ cap l Tryz.underlying81 Tryz.underlying5 Tryz.underlying9 (fun j hj => by
    have h1 := (own_cell h j (by omega)).1
    rw [show (⟨g, 0, none⟩ : Addr).add j = ⟨g, j, none⟩ by unfold Addr.add; split <;> simp_all]
    rw [h1]; simp [byteCells, List.getElem?_eq_getElem hj])
  rw [hn] at this; exact this
/-- Sector t of an image. -/
def cut (b : ByteArray) (t : Nat) : ByteArray := b.extract (t * 256) ((t + 1) * 256)
theorem size_cut {b : ByteArray} {n t : Nat} (hb : b.size = n * 256) (ht : t < n) : (cut b t).size = 256 := by
  have h1 : (t + 1) * 256 ≤ n * 256 := Nat.mul_le_mul_right _ ht
  unfold cut
  rw [ByteArray.size_extract]; omega
/-- Bytes that are all 0. -/
def zeros (n : Nat) : ByteArray := ⟨(List.replicate n (0 : UInt8)).toArray⟩
theorem size_zeros (n : Nat) : (zeros n).size = n := by unfold zeros; show (List.replicate n (0 : UInt8)).toArray.size = n; simp
theorem own_mono {w : World} {base b' : Nat} {e : TypeId} {size : Nat} {v : Value} {n : Nat} {xs : List Value} (h : w.ownsRow base e size v n xs) (hb : b' ≤ base) : w.ownsRow b' e size v n xs := by
  obtain ⟨h0, h1 | ⟨g, cap, cur, e1, e2, e3⟩⟩ := h
  · exact ⟨h0, .inl h1⟩
  · exact ⟨h0, .inr ⟨g, cap, cur, e1, Nat.le_trans hb e2, e3⟩⟩
end Go.Proofs.YtdgbgmffpcooeaaGreat
end
section
/- A range over a function that reads and writes between two rounds what is its own; a body that writes what is its own. -/
namespace Go.Proofs.YtdgbgmffpcooeaaGreat
open Go.RowKit Go.Lib
def LoopAt (l : Nat) (W : World) : Prop := ∃ r, W.heap[l]? = some (.loop r)
/-- The blocks that are the loop's own: those that it had, and those that were laid in a round. -/
def Grow (M : Nat → Prop) (W W' : World) (k : Nat) : Prop := M k ∨ (W.heap.size ≤ k ∧ k < W'.heap.size)
theorem off_putObj (W : World) (l : Nat) (o : Obj) : Off (fun k => k = l) W (W.putObj l o) :=
  ⟨rfl, rfl, rfl, by simp [World.putObj], fun _ _ h => World.putObj_heap_other h⟩
theorem size_putObj (W : World) (l : Nat) (o : Obj) : (W.putObj l o).heap.size = W.heap.size := by simp [World.putObj]
/-- What a function tells, one by one: this list; what it does with the blocks Fb meanwhile is its own business. -/
def Tells {α : Type} (n : Nat) (P : Program) (g : Nat) (lb : Array Value) (encs : α → Array Value) (Fb M0 : Nat → Prop) (xs : List α) (Ed : World → Prop) (Es : Nat → World → Prop) (w : World) : Prop :=
  ∀ (l : Nat) (J : Nat → (Nat → Prop) → World → Prop) (Jx : Nat → World → Prop) (W : World), Below w.heap.size w W → LoopAt l W → w.heap.size ≤ l →
    (∀ i M X Y, J i M X → Off Fb X Y → J i M Y) → (∀ i X Y, Jx i X → Off Fb X Y → Jx i Y) →
    (∀ i x M W1, xs[i]? = some x → J i M W1 → YieldAt Fence.wide (n - 1) P l (encs x) W1 fun e W' =>
      Off (fun k => M k ∨ k = l) W1 W' ∧ LoopAt l W' ∧ ((e = .returned (.bool true) ∧ J (i + 1) (Grow M W1 W') W') ∨ (e = .returned (.bool false) ∧ Jx (i + 1) W'))) →
    J 0 M0 W →
    CallsIn Fence.wide n P g (#[.func (.yield l) #[] #[]] ++ lb) W fun e W' => (∃ v, e = .returned v) ∧ ((∃ M, J xs.length M W' ∧ Ed W') ∨ (∃ i, 1 ≤ i ∧ Jx i W' ∧ Es i W'))
/-- How the body of a round may be left. -/
def tellPost (M : Nat → Prop) (I : Nat → (Nat → Prop) → World → Prop) (Ix : Code → Nat → World → Prop) (i : Nat) (W : World) : Exit → Act → World → Prop
  | .normal, _, W' => Off M W W' ∧ I i (Grow M W W') W'
  | .ret, _, W' => Off M W W' ∧ Ix .ret i W'
  | .exit id, _, W' => Off M W W' ∧ Ix (.exit id) i W'
  | .goto t, _, W' => Off M W W' ∧ Ix (.goto t) i W'
  | .panic _, _, _ => False
  | .outgrown, _, _ => False
variable {n : Nat} {P : Program}
theorem wpIn_tells {α : Type} {g : Operand} {ps : Array Tmp} {assign body : Code} {Q : Exit → Act → World → Prop} {a : Act} {w : World}
    (h1 : 1 ≤ n) {gf : Nat} {lb : Array Value} (hg : a.eval g = .func (.func gf) #[] lb) (eg : ∀ args w, (callFunc gf args).run P w = .ok (.enter gf args) w)
    {encs : α → Array Value} {Fb M0 : Nat → Prop} {xs : List α} {Ed : World → Prop} {Es : Nat → World → Prop} (hseq : Tells (n - 1) P gf lb encs Fb M0 xs Ed Es w) (hps : ∀ x, (encs x).size = ps.size)
    (hFb : ∀ k, Fb k → k < w.heap.size) (hM0 : ∀ k, M0 k → k < w.heap.size)
    (I : Nat → (Nat → Prop) → World → Prop) (Ix : Code → Nat → World → Prop)
    (hI : ∀ i M X Y, I i M X → Off (fun k => Fb k ∨ k = w.heap.size + 1) X Y → I i M Y) (hIx : ∀ c i X Y, Ix c i X → Off (fun k => Fb k ∨ k = w.heap.size + 1) X Y → Ix c i Y)
    (hEd : ∀ X Y, Ed X → LoopAt (w.heap.size + 1) X → Off (fun k => k = w.heap.size + 1) X Y → Ed Y) (hEs : ∀ i X Y, Es i X → LoopAt (w.heap.size + 1) X → Off (fun k => k = w.heap.size + 1) X Y → Es i Y) (h0 : I 0 M0 w)
    (Ax : α → Act → World → Prop) (hAx : ∀ x a' X Y, Ax x a' X → Off (fun k => k = w.heap.size + 1) X Y → Ax x a' Y)
    (hassign : ∀ (l i : Nat) (x : α) (M : Nat → Prop) (W : World) (K : Act → World → Prop), xs[i]? = some x → I i M W → (∀ k, M k → k < W.heap.size) → w.heap.size + 1 < W.heap.size → (∀ a' W', Off M W W' → I i (Grow M W W') W' → Ax x a' W' → K a' W') →
      assign.wpIn (Fence.wide.inRound l) (n - 1 - 1) P (Exit.then K (fun _ _ _ => False)) { tmps := (ps.zip (encs x)).foldl (fun t (p, v) => t.setIfInBounds p v) a.tmps, defers := [] } W)
    (hbody : ∀ (l i : Nat) (x : α) (M : Nat → Prop) (a' : Act) (W : World), xs[i]? = some x → I i M W → Ax x a' W → (∀ k, M k → k < W.heap.size) → w.heap.size + 1 < W.heap.size → body.wpIn (Fence.wide.inRound l) (n - 1 - 1) P (tellPost M I Ix (i + 1) W) a' W)
    (hdone : ∀ (M : Nat → Prop) (W : World), I xs.length M W → Ed W → W.heap[w.heap.size]? = some (.deferred (some [])) → Q .normal { a with defers := { target := .collected w.heap.size, args := #[] } :: a.defers } W)
    (hstop : ∀ (c : Code) (i : Nat) (W : World), 1 ≤ i → Ix c i W → Es i W → W.heap[w.heap.size]? = some (.deferred (some [])) → c.wpIn Fence.wide n P Q { a with defers := { target := .collected w.heap.size, args := #[] } :: a.defers } W) :
    (Code.rangeFunc g ps assign body).wpIn Fence.wide n P Q a w := by
  refine wpIn_rangeFunc ?_
  intro fn hfn
  rw [show (Fence.wide).round = none from rfl]
  obtain ⟨rec, hrec⟩ : ∃ rec : LoopState → Option Code → Loop, rec = fun st pe => { state := st, pending := pe, fn, tmps := a.tmps, params := ps, assign, body, defers := w.heap.size } := ⟨_, rfl⟩
  obtain ⟨W1, hW1⟩ : ∃ W1, (w.alloc (.deferred (some []))).alloc (.loop (rec .ready none)) = W1 := ⟨_, rfl⟩
  have hL1 : W1.heap[w.heap.size + 1]? = some (.loop (rec .ready none)) := by
    rw [← hW1]; have := World.alloc_heap_new (w.alloc (.deferred (some []))) (.loop (rec .ready none)); rwa [World.size_alloc] at this
  have hK1 : W1.heap[w.heap.size]? = some (.deferred (some [])) := by
    rw [← hW1]; exact (Below.heap_alloc _ _ _ (by simp)).trans (World.alloc_heap_new w _)
  have hsz1 : W1.heap.size = w.heap.size + 2 := by rw [← hW1]; simp
  have hb1 : Below w.heap.size w W1 := by
    rw [← hW1]; exact ((Below.refl _ w).alloc (Nat.le_refl _) _).alloc (by simp) _
  have hI1 : I 0 M0 W1 := hI 0 M0 w W1 h0 (Off.of_below hb1)
  refine ⟨w.heap.size + 1, [{ target := .collected w.heap.size, args := #[] }], W1, { target := .fn (.func gf) lb, args := #[.func (.yield (w.heap.size + 1)) #[] #[]] }, W1, gf,
    #[.func (.yield (w.heap.size + 1)) #[] #[]] ++ lb, W1, ?_, ?_, ?_, ?_, fun _ => h1, ?_⟩
  · rw [← hW1, hrec]; exact run_enterLoop_outer _ _ _ _ _
  · simp only [resolve, hg]
    simp [go_sem]
  · intro f' _; trivial
  · simp [invoke, go_sem, eg]
  · refine (hseq (w.heap.size + 1)
      (fun i M W => I i M W ∧ ((∀ k, M k → k < W.heap.size) ∧ ¬ M w.heap.size ∧ ¬ M (w.heap.size + 1)) ∧ W.heap[w.heap.size + 1]? = some (.loop (rec .ready none)) ∧ W.heap[w.heap.size]? = some (.deferred (some [])))
      (fun i W => ∃ c, Ix c i W ∧ W.heap[w.heap.size + 1]? = some (.loop (rec .done (some c))) ∧ W.heap[w.heap.size]? = some (.deferred (some [])))
      W1 hb1 ⟨_, hL1⟩ (by omega) ?_ ?_ ?_ ⟨hI1, ⟨fun k hk => by have := hM0 k hk; omega, fun hk => by have := hM0 _ hk; omega, fun hk => by have := hM0 _ hk; omega⟩, hL1, hK1⟩).mono ?_
    · rintro i M X Y ⟨a1, ⟨a2, a3, a4⟩, a5, a6⟩ ho
      have l5 := (Array.getElem?_eq_some_iff.1 a5).1
      have hs := ho.size
      exact ⟨hI i M X Y a1 (ho.mono fun k _ h => .inl h), ⟨fun k hk => by have := a2 k hk; omega, a3, a4⟩, (ho.block _ l5 (fun h => by have := hFb _ h; omega)).trans a5, (ho.block _ (by omega) (fun h => by have := hFb _ h; omega)).trans a6⟩
    · rintro i X Y ⟨c, a1, a5, a6⟩ ho
      have l5 := (Array.getElem?_eq_some_iff.1 a5).1
      exact ⟨c, hIx c i X Y a1 (ho.mono fun k _ h => .inl h), (ho.block _ l5 (fun h => by have := hFb _ h; omega)).trans a5, (ho.block _ (by omega) (fun h => by have := hFb _ h; omega)).trans a6⟩
    · rintro i x M W hx ⟨hi, ⟨hM, hMd, hMl⟩, hl, hk⟩
      have hlt : w.heap.size + 1 < W.heap.size := (Array.getElem?_eq_some_iff.1 hl).1
      have hy := run_yield (P := P) (args := encs x) hl (by rw [hrec]; exact hps x)
      rw [hrec] at hy
      refine ⟨fn, _, assign, body, hy, roundIn_of_wpIn hfn (hassign _ i x M W _ hx hi hM hlt ?_)⟩
      clear hy
      intro a' Wa hoa hia hax
      have hla := (hoa.block _ hlt hMl).trans hl
      have hka := (hoa.block _ (by omega) hMd).trans hk
      have hsa := hoa.size
      have hlta : w.heap.size + 1 < Wa.heap.size := by omega
      refine ⟨_, run_beginRound hla (by rw [hrec]), ?_⟩
      obtain ⟨W2, hW2⟩ : ∃ W2, Wa.putObj (w.heap.size + 1) (.loop { rec .ready none with state := .busy }) = W2 := ⟨_, rfl⟩
      have ho2 : Off (fun k => k = w.heap.size + 1) Wa W2 := by rw [← hW2]; exact off_putObj _ _ _
      have hsz2 : W2.heap.size = Wa.heap.size := by rw [← hW2]; exact size_putObj _ _ _
      have hl2 : W2.heap[w.heap.size + 1]? = some (.loop { rec .ready none with state := .busy }) := by rw [← hW2]; exact World.putObj_heap_same hlta
      have hk2 : W2.heap[w.heap.size]? = some (.deferred (some [])) := (ho2.block _ (by omega) (by omega)).trans hka
      rw [hW2]
      clear hW2
      have hMl1 : ¬ Grow M W Wa (w.heap.size + 1) := fun h => h.elim hMl (fun h => by omega)
      have hMd1 : ¬ Grow M W Wa w.heap.size := fun h => h.elim hMd (fun h => by omega)
      refine wpIn_mono (hbody _ i x (Grow M W Wa) a' W2 hx (hI i _ Wa W2 hia (ho2.mono fun k _ h => .inr h)) (hAx x a' Wa W2 hax ho2) (fun k hk => hk.elim (fun h => by have := hM k h; omega) (fun h => by omega)) (by omega)) ?_
      have fin : ∀ (jump : Option Code) (W3 : World), Off (Grow M W Wa) W2 W3 → ∃ W4, (Instr.endRound (w.heap.size + 1) jump).run P W3 = .ok (.bool jump.isNone) W4 ∧ W4.heap[w.heap.size + 1]? = some (.loop (rec (if jump.isNone then .ready else .done) jump)) ∧ W4.heap[w.heap.size]? = some (.deferred (some [])) ∧ Off (fun k => k = w.heap.size + 1) W3 W4 ∧ W4.heap.size = W3.heap.size ∧ Off (fun k => M k ∨ k = w.heap.size + 1) W W4 ∧ Grow (Grow M W Wa) W2 W3 = Grow M W W4 := fun jump W3 ho3 => by
        have hl3 := (ho3.block _ (by omega) hMl1).trans hl2
        have hk3 := (ho3.block _ (by omega) hMd1).trans hk2
        have hs3 := ho3.size
        have := run_endRound (P := P) jump hl3
        refine ⟨_, this, ?_, ?_, off_putObj _ _ _, size_putObj _ _ _, ?_, ?_⟩
        · rw [hrec]; exact World.putObj_heap_same (Array.getElem?_eq_some_iff.1 hl3).1
        · exact (World.putObj_heap_other (by omega)).trans hk3
        · refine ((((hoa.mono fun k _ h => .inl h).step ho2 fun k _ h => .inr h).step ho3 fun k hk h => ?_).step (off_putObj _ _ _) fun k _ h => .inr h)
          exact .inl (h.elim id (fun h => by omega))
        · funext k
          refine propext ⟨fun h => ?_, fun h => ?_⟩
          · rcases h with (h | h) | h
            · exact .inl h
            · exact .inr ⟨h.1, by rw [size_putObj]; omega⟩
            · exact .inr ⟨by omega, by rw [size_putObj]; omega⟩
          · rcases h with h | h
            · exact .inl (.inl h)
            · rw [size_putObj] at h
              by_cases hk : k < Wa.heap.size
              · exact .inl (.inr ⟨h.1, hk⟩)
              · exact .inr ⟨by omega, h.2⟩
      rintro e a3 W3 hp
      cases e with
      | normal =>
        obtain ⟨ho3, hi3⟩ := hp
        obtain ⟨W4, hr, hl4, hk4, ho4, hs4, ho5, hgr⟩ := fin none W3 ho3
        rw [hgr] at hi3
        have hs3 := ho3.size
        refine ⟨_, W4, hr, ho5, ⟨_, hl4⟩, .inl ⟨rfl, hI _ _ W3 W4 hi3 (ho4.mono fun k _ h => .inr h), ⟨fun k hk => ?_, fun h => h.elim hMd (fun h => by omega), fun h => h.elim hMl (fun h => by omega)⟩, hl4, hk4⟩⟩
        rcases hk with hk | hk
        · have := hM k hk; omega
        · exact hk.2
      | ret =>
        obtain ⟨ho3, hi3⟩ := hp
        obtain ⟨W4, hr, hl4, hk4, ho4, hs4, ho5, hgr⟩ := fin (some .ret) W3 ho3
        exact ⟨_, W4, hr, ho5, ⟨_, hl4⟩, .inr ⟨rfl, .ret, hIx _ _ W3 W4 hi3 (ho4.mono fun k _ h => .inr h), hl4, hk4⟩⟩
      | exit id =>
        obtain ⟨ho3, hi3⟩ := hp
        obtain ⟨W4, hr, hl4, hk4, ho4, hs4, ho5, hgr⟩ := fin (some (.exit id)) W3 ho3
        exact ⟨_, W4, hr, ho5, ⟨_, hl4⟩, .inr ⟨rfl, .exit id, hIx _ _ W3 W4 hi3 (ho4.mono fun k _ h => .inr h), hl4, hk4⟩⟩
      | goto t =>
        obtain ⟨ho3, hi3⟩ := hp
        obtain ⟨W4, hr, hl4, hk4, ho4, hs4, ho5, hgr⟩ := fin (some (.goto t)) W3 ho3
        exact ⟨_, W4, hr, ho5, ⟨_, hl4⟩, .inr ⟨rfl, .goto t, hIx _ _ W3 W4 hi3 (ho4.mono fun k _ h => .inr h), hl4, hk4⟩⟩
      | panic ch => exact hp.elim
      | outgrown => exact hp.elim
    · rintro e W2 ⟨⟨v, rfl⟩, (⟨M, ⟨hi, _, hl, hk⟩, hE2⟩ | ⟨i, hi1, ⟨c, hi, hl, hk⟩, hE2⟩)⟩
      · refine ⟨none, _, by have := run_endLoop (P := P) hl (by rw [hrec]; simp); rw [hrec] at this; exact this, hdone M _ (hI _ _ _ _ hi ((off_putObj _ _ _).mono fun k _ h => .inr h)) (hEd _ _ hE2 ⟨_, hl⟩ (off_putObj _ _ _)) ((World.putObj_heap_other (by omega)).trans hk)⟩
      · refine ⟨some c, _, by have := run_endLoop (P := P) hl (by rw [hrec]; simp); rw [hrec] at this; exact this, hstop c i _ hi1 (hIx _ _ _ _ hi ((off_putObj _ _ _).mono fun k _ h => .inr h)) (hEs _ _ _ hE2 ⟨_, hl⟩ (off_putObj _ _ _)) ((World.putObj_heap_other (by omega)).trans hk)⟩
end Go.Proofs.YtdgbgmffpcooeaaGreat
end
section
/- Plain facts on the tree: keys, rows that rise, and what is put in and taken out of them. -/
namespace Go.Proofs.YtdgbgmffpcooeaaGreat

abbrev Key := Int × Int
def klt (a b : Key) : Prop := a.1 < b.1 ∨ (a.1 = b.1 ∧ a.2 < b.2)
instance (a b : Key) : Decidable (klt a b) := by unfold klt; exact inferInstance
theorem klt_irrefl (a : Key) : ¬ klt a a := by unfold klt; omega
theorem klt_trans {a b c : Key} (h : klt a b) (k : klt b c) : klt a c := by unfold klt at *; omega
theorem klt_asymm {a b : Key} (h : klt a b) : ¬ klt b a := by unfold klt at *; omega
theorem klt_tri (a b : Key) : klt a b ∨ a = b ∨ klt b a := by
  obtain ⟨a1, a2⟩ := a
  obtain ⟨b1, b2⟩ := b
  simp only [klt, Prod.mk.injEq]
  omega
theorem klt_of_not {a b : Key} (h : ¬ klt a b) (e : a ≠ b) : klt b a := by
  rcases klt_tri a b with g | g | g
  · exact absurd g h
  · exact absurd g e
  · exact g
theorem klt_of_le_lt {a b c : Key} (h : ¬ klt b a) (k : klt b c) : klt a c := by
  rcases klt_tri a b with g | g | g
  · exact klt_trans g k
  · rw [g]; exact k
  · exact absurd g h
theorem klt_of_lt_le {a b c : Key} (h : klt a b) (k : ¬ klt c b) : klt a c := by
  rcases klt_tri b c with g | g | g
  · exact klt_trans h g
  · rw [← g]; exact h
  · exact absurd g k

section
variable {V : Type}
/-- Rows whose keys rise. -/
def Rising (r : List (Key × V)) : Prop := r.Pairwise fun a b => klt a.1 b.1
theorem Rising.nil : Rising ([] : List (Key × V)) := List.Pairwise.nil
theorem Rising.append {a b : List (Key × V)} : Rising (a ++ b) ↔ Rising a ∧ Rising b ∧ ∀ x ∈ a, ∀ y ∈ b, klt x.1 y.1 := List.pairwise_append
theorem Rising.cons {x : Key × V} {b : List (Key × V)} : Rising (x :: b) ↔ (∀ y ∈ b, klt x.1 y.1) ∧ Rising b := List.pairwise_cons
theorem Rising.sub {a b : List (Key × V)} (h : Rising b) (s : a.Sublist b) : Rising a := List.Pairwise.sublist s h

def lo (k : Key) (r : List (Key × V)) : List (Key × V) := r.filter fun p => decide (klt p.1 k)
def hi (k : Key) (r : List (Key × V)) : List (Key × V) := r.filter fun p => decide (klt k p.1)
/-- With a pair; without a key. -/
def ins (k : Key) (v : V) (r : List (Key × V)) : List (Key × V) := lo k r ++ (k, v) :: hi k r
def del (k : Key) (r : List (Key × V)) : List (Key × V) := lo k r ++ hi k r

theorem lo_append (k : Key) (a b : List (Key × V)) : lo k (a ++ b) = lo k a ++ lo k b := List.filter_append ..
theorem hi_append (k : Key) (a b : List (Key × V)) : hi k (a ++ b) = hi k a ++ hi k b := List.filter_append ..
theorem lo_all {k : Key} {a : List (Key × V)} (h : ∀ x ∈ a, klt x.1 k) : lo k a = a := List.filter_eq_self.2 fun x hx => decide_eq_true (h x hx)
theorem hi_all {k : Key} {a : List (Key × V)} (h : ∀ x ∈ a, klt k x.1) : hi k a = a := List.filter_eq_self.2 fun x hx => decide_eq_true (h x hx)
theorem lo_none {k : Key} {a : List (Key × V)} (h : ∀ x ∈ a, ¬ klt x.1 k) : lo k a = [] := List.filter_eq_nil_iff.2 fun x hx => by simp [h x hx]
theorem hi_none {k : Key} {a : List (Key × V)} (h : ∀ x ∈ a, ¬ klt k x.1) : hi k a = [] := List.filter_eq_nil_iff.2 fun x hx => by simp [h x hx]
theorem mem_lo {k : Key} {a : List (Key × V)} {x : Key × V} : x ∈ lo k a ↔ x ∈ a ∧ klt x.1 k := by simp [lo]
theorem mem_hi {k : Key} {a : List (Key × V)} {x : Key × V} : x ∈ hi k a ↔ x ∈ a ∧ klt k x.1 := by simp [hi]

/-- What is changed at a key is changed there alone. -/
def Local (k : Key) (op : List (Key × V) → List (Key × V)) : Prop :=
  ∀ a m c : List (Key × V), (∀ x ∈ a, klt x.1 k) → (∀ x ∈ c, klt k x.1) → op (a ++ m ++ c) = a ++ op m ++ c
theorem local_ins (k : Key) (v : V) : Local k (ins k v) := fun a m c ha hc => by
  unfold ins
  rw [lo_append, lo_append, hi_append, hi_append, lo_all ha, hi_all hc, hi_none (fun x hx => klt_asymm (ha x hx)), lo_none (fun x hx => klt_asymm (hc x hx))]
  simp
theorem local_del (k : Key) : Local k (del (V := V) k) := fun a m c ha hc => by
  unfold del
  rw [lo_append, lo_append, hi_append, hi_append, lo_all ha, hi_all hc, hi_none (fun x hx => klt_asymm (ha x hx)), lo_none (fun x hx => klt_asymm (hc x hx))]
  simp
theorem rising_ins {k : Key} {v : V} {r : List (Key × V)} (h : Rising r) : Rising (ins k v r) := by
  unfold ins
  refine Rising.append.2 ⟨h.sub List.filter_sublist, Rising.cons.2 ⟨fun y hy => (mem_hi.1 hy).2, h.sub List.filter_sublist⟩, fun x hx y hy => ?_⟩
  have hx := (mem_lo.1 hx).2
  rcases List.mem_cons.1 hy with rfl | hy
  · exact hx
  · exact klt_trans hx (mem_hi.1 hy).2
theorem rising_del {k : Key} {r : List (Key × V)} (h : Rising r) : Rising (del k r) := by
  unfold del
  exact Rising.append.2 ⟨h.sub List.filter_sublist, h.sub List.filter_sublist, fun x hx y hy => klt_trans (mem_lo.1 hx).2 (mem_hi.1 hy).2⟩

/-- The place of a key. -/
def lbn (k : Key) (r : List (Key × V)) : Nat := (lo k r).length
def fnd (k : Key) (r : List (Key × V)) : Bool := r.any fun p => p.1 == k
theorem lbn_le (k : Key) (r : List (Key × V)) : lbn k r ≤ r.length := List.length_filter_le ..
theorem rising_split (k : Key) {r : List (Key × V)} (h : Rising r) : ∃ m, r = lo k r ++ m ++ hi k r ∧ ((fnd k r = false ∧ m = []) ∨ (fnd k r = true ∧ ∃ v, m = [(k, v)])) := by
  induction r with
  | nil => exact ⟨[], rfl, .inl ⟨rfl, rfl⟩⟩
  | cons x r ih =>
    obtain ⟨hx, hr⟩ := Rising.cons.1 h
    rcases klt_tri x.1 k with g | g | g
    · obtain ⟨m, e, hm⟩ := ih hr
      have h1 : lo k (x :: r) = x :: lo k r := by simp [lo, g]
      have h2 : hi k (x :: r) = hi k r := by simp [hi, klt_asymm g]
      have h3 : fnd k (x :: r) = fnd k r := by
        have : (x.1 == k) = false := beq_eq_false_iff_ne.2 (fun e => klt_irrefl k (e ▸ g))
        simp only [fnd, List.any_cons, this, Bool.false_or]
      rw [h1, h2, h3]
      exact ⟨m, by rw [List.cons_append, List.cons_append, ← e], hm⟩
    · have hh : ∀ y ∈ r, klt k y.1 := fun y hy => g ▸ hx y hy
      have h1 : lo k (x :: r) = [] := lo_none fun y hy => by
        rcases List.mem_cons.1 hy with rfl | hy
        · rw [g]; exact klt_irrefl k
        · exact klt_asymm (hh y hy)
      have h2 : hi k (x :: r) = r := by
        have := hi_all hh
        simp only [hi] at this ⊢
        rw [List.filter_cons, if_neg (by rw [g]; simp [klt_irrefl]), this]
      refine ⟨[(k, x.2)], ?_, .inr ⟨?_, _, rfl⟩⟩
      · rw [h1, h2, ← g]; rfl
      · simp [fnd, g]
    · have hh : ∀ y ∈ x :: r, klt k y.1 := fun y hy => by
        rcases List.mem_cons.1 hy with rfl | hy
        · exact g
        · exact klt_trans g (hx y hy)
      refine ⟨[], ?_, .inl ⟨?_, rfl⟩⟩
      · rw [lo_none (fun y hy => klt_asymm (hh y hy)), hi_all hh]; rfl
      · simp only [fnd, List.any_eq_false]
        intro y hy e
        have := hh y hy
        rw [eq_of_beq e] at this
        exact klt_irrefl k this
theorem take_lbn (k : Key) {r : List (Key × V)} (h : Rising r) : r.take (lbn k r) = lo k r := by
  obtain ⟨m, e, _⟩ := rising_split k h
  have : (lo k r ++ m ++ hi k r).take (lbn k r) = lo k r := by rw [List.append_assoc]; exact List.take_left' rfl
  rwa [← e] at this
theorem drop_lbn (k : Key) {r : List (Key × V)} (h : Rising r) : r.drop (if fnd k r then lbn k r + 1 else lbn k r) = hi k r := by
  obtain ⟨m, e, hm⟩ := rising_split k h
  rcases hm with ⟨f, rfl⟩ | ⟨f, v, rfl⟩
  · rw [f]
    have : (lo k r ++ [] ++ hi k r).drop (lbn k r) = hi k r := by rw [List.append_assoc]; exact List.drop_left' rfl
    rwa [← e] at this
  · rw [f]
    have : (lo k r ++ [(k, v)] ++ hi k r).drop (lbn k r + 1) = hi k r := List.drop_left' (by simp [lbn])
    rwa [← e] at this
theorem ins_eq (k : Key) (v : V) {r : List (Key × V)} (h : Rising r) : r.take (lbn k r) ++ [(k, v)] ++ r.drop (if fnd k r then lbn k r + 1 else lbn k r) = ins k v r := by
  rw [take_lbn k h, drop_lbn k h]; simp [ins]
theorem del_eq (k : Key) {r : List (Key × V)} (h : Rising r) : (if fnd k r then r.take (lbn k r) ++ r.drop (lbn k r + 1) else r) = del k r := by
  have h1 := take_lbn k h
  have h2 := drop_lbn k h
  split
  · rename_i f
    rw [if_pos f] at h2
    rw [h1, h2]; rfl
  · rename_i f
    rw [if_neg f] at h2
    rw [del, ← h1, ← h2, List.take_append_drop]
theorem lbn_found {k : Key} {r : List (Key × V)} (h : Rising r) (f : fnd k r = true) : ∃ v, r[lbn k r]? = some (k, v) := by
  obtain ⟨m, e, hm⟩ := rising_split k h
  rcases hm with ⟨g, _⟩ | ⟨_, v, rfl⟩
  · rw [f] at g; cases g
  · refine ⟨v, ?_⟩
    have : (lo k r ++ [(k, v)] ++ hi k r)[lbn k r]? = some (k, v) := by simp [lbn]
    rwa [← e] at this
theorem length_ins {k : Key} {v : V} {r : List (Key × V)} (h : Rising r) : (ins k v r).length = if fnd k r then r.length else r.length + 1 := by
  obtain ⟨m, e, hm⟩ := rising_split k h
  have hl : r.length = (lo k r).length + m.length + (hi k r).length := by have := congrArg List.length e; simp only [List.length_append] at this; exact this
  rcases hm with ⟨f, rfl⟩ | ⟨f, v, rfl⟩ <;> rw [f] <;> simp [ins] <;> simp at hl <;> omega
theorem length_del {k : Key} {r : List (Key × V)} (h : Rising r) : (del k r).length = if fnd k r then r.length - 1 else r.length := by
  obtain ⟨m, e, hm⟩ := rising_split k h
  have hl : r.length = (lo k r).length + m.length + (hi k r).length := by have := congrArg List.length e; simp only [List.length_append] at this; exact this
  rcases hm with ⟨f, rfl⟩ | ⟨f, v, rfl⟩ <;> rw [f] <;> simp [del] <;> simp at hl <;> omega
end
end Go.Proofs.YtdgbgmffpcooeaaGreat
end
section
/- Plain facts on the tree: nodes, trees of nodes in sectors, and a change that is made in memory. -/
namespace Go.Proofs.YtdgbgmffpcooeaaGreat

/-- A value, no room, or what is no tree. -/
inductive Res (α : Type) where
  | ok (a : α)
  | space
  | bad
def Res.bind {α β : Type} : Res α → (α → Res β) → Res β
  | .ok a, f => f a
  | .space, _ => .space
  | .bad, _ => .bad

theorem Res.ok_bind {α β : Type} (a : α) (f : α → Res β) : (Res.ok a).bind f = f a := rfl
theorem Res.space_bind {α β : Type} (f : α → Res β) : (Res.space).bind f = .space := rfl
/-- A node: entries, or the sectors of other nodes by their least keys. -/
inductive Node (V : Type) where
  | leaf (r : List (Key × V))
  | branch (r : List (Key × Nat))
namespace Node
variable {V : Type}
def size : Node V → Nat
  | leaf r => r.length
  | branch r => r.length
def most : Node V → Nat
  | leaf _ => 10
  | branch _ => 14
def poor (n : Node V) : Bool := decide (n.size < n.most / 2)
def fk : Node V → Key
  | leaf r => (r.head?.map (·.1)).getD (0, 0)
  | branch r => (r.head?.map (·.1)).getD (0, 0)
def tk (j : Nat) : Node V → Node V
  | leaf r => leaf (r.take j)
  | branch r => branch (r.take j)
def dp (j : Nat) : Node V → Node V
  | leaf r => leaf (r.drop j)
  | branch r => branch (r.drop j)
def parts (n : Node V) : List (Node V) := if n.size = 0 then [] else if n.size ≤ n.most then [n] else [n.tk (n.size / 2), n.dp (n.size / 2)]
def join : Node V → Node V → Node V
  | leaf a, leaf b => leaf (a ++ b)
  | branch a, branch b => branch (a ++ b)
  | a, _ => a
theorem most_tk (j : Nat) (n : Node V) : (n.tk j).most = n.most := by cases n <;> rfl
theorem most_dp (j : Nat) (n : Node V) : (n.dp j).most = n.most := by cases n <;> rfl
theorem size_tk (j : Nat) (n : Node V) : (n.tk j).size = min j n.size := by cases n <;> simp [tk, size]
theorem size_dp (j : Nat) (n : Node V) : (n.dp j).size = n.size - j := by cases n <;> simp [dp, size]
theorem most_cases (n : Node V) : n.most = 10 ∨ n.most = 14 := by cases n <;> simp [most]
end Node

def upd2 {α : Type} (f : Nat → α) (i : Nat) (b : α) : Nat → α := fun j => if j = i then b else f j

/-- A change in memory. -/
structure CS (V : Type) where
  free : List Nat
  left : List Nat
  made : Nat → Option (Node V)
  reads : Nat
  puts : Nat

section
variable {V : Type}
def takeF (D : Nat → Option (Node V)) (s : CS V) (sec : Nat) : Res (Node V × CS V) :=
  if sec = 0 then .ok (.leaf [], s) else
  match s.made sec with
  | some nd => .ok (nd, { s with made := upd2 s.made sec none, free := s.free ++ [sec] })
  | none => match D sec with
    | some nd => .ok (nd, { s with left := s.left ++ [sec], reads := s.reads + 1 })
    | none => .bad
def keep1 (s : CS V) (p : Node V) : Res ((Key × Nat) × CS V) :=
  match s.free.getLast? with
  | none => .space
  | some sec => .ok ((p.fk, sec), { s with free := s.free.dropLast, made := upd2 s.made sec (some p), puts := s.puts + 1 })
def keepL : List (Node V) → CS V → Res (List (Key × Nat) × CS V)
  | [], s => .ok ([], s)
  | p :: ps, s => (keep1 s p).bind fun x => (keepL ps x.2).bind fun y => .ok (x.1 :: y.1, y.2)

/-- The place of the node under which a key is. -/
def undr (k : Key) (r : List (Key × Nat)) : Nat := if fnd k r then lbn k r else lbn k r - 1
instance : Decidable (Rising (V := V) []) := .isTrue Rising.nil
open Classical in
noncomputable def editF (D : Nat → Option (Node V)) (k : Key) (op : List (Key × V) → List (Key × V)) : Nat → CS V → Nat → Res (Node V × CS V)
  | 0, _, _ => .bad
  | f + 1, s, sec => (takeF D s sec).bind fun x =>
    match x.1 with
    | .leaf r => if Rising r then .ok (.leaf (op r), x.2) else .bad
    | .branch r => if Rising r then
        match r[undr k r]? with
        | none => .bad
        | some c => (editF D k op f x.2 c.2).bind fun y =>
          if y.1.poor = true then
            if 0 < undr k r then
              match r[undr k r - 1]? with
              | none => .bad
              | some a => (takeF D y.2 a.2).bind fun z => if z.1.most = y.1.most then (keepL (z.1.join y.1).parts z.2).bind fun q => .ok (.branch (r.take (undr k r - 1) ++ q.1 ++ r.drop (undr k r + 1)), q.2) else .bad
            else
              match r[undr k r + 1]? with
              | none => .bad
              | some b => (takeF D y.2 b.2).bind fun z => if z.1.most = y.1.most then (keepL (y.1.join z.1).parts z.2).bind fun q => .ok (.branch (r.take (undr k r) ++ q.1 ++ r.drop (undr k r + 2)), q.2) else .bad
          else (keepL y.1.parts y.2).bind fun q => .ok (.branch (r.take (undr k r) ++ q.1 ++ r.drop (undr k r + 1)), q.2)
      else .bad
def rowRoot (g : CS V → Node V → Res (Nat × CS V)) (q : List (Key × Nat) × CS V) : Res (Nat × CS V) :=
  match q.1 with
  | [] => .ok (0, q.2)
  | [c] => .ok (c.2, q.2)
  | row => g q.2 (.branch row)
def plantF : Nat → CS V → Node V → Res (Nat × CS V)
  | 0, _, _ => .bad
  | f + 1, s, n =>
    match n with
    | .branch [c] => .ok (c.2, s)
    | n => (keepL n.parts s).bind (rowRoot (plantF f))
theorem plant_unf (f : Nat) (s : CS V) (n : Node V) (h : ∀ c, n ≠ .branch [c]) : plantF (f + 1) s n = (keepL n.parts s).bind (rowRoot (plantF f)) := by
  match n, h with
  | .leaf r, _ => rfl
  | .branch [], _ => rfl
  | .branch [c], h => exact absurd rfl (h c)
  | .branch (a :: b :: r), _ => rfl

/-- A node under a branch. -/
structure Kid (V : Type) where
  key : Key
  sec : Nat
  nd : Node V
  es : List (Key × V)
  us : List Nat
abbrev Kid.pr (c : Kid V) : Key × Nat := (c.key, c.sec)
abbrev Kid.all (c : Kid V) : List Nat := c.sec :: c.us
/-- A node has these entries, and these sectors below it. -/
def Tre (M : Nat → Option (Node V)) : Nat → Node V → List (Key × V) → List Nat → Prop
  | 0, n, es, us => n = .leaf es ∧ us = []
  | h + 1, n, es, us => ∃ ks : List (Kid V), n = .branch (ks.map Kid.pr) ∧
      (∀ c ∈ ks, M c.sec = some c.nd ∧ Tre M h c.nd c.es c.us ∧ c.nd.poor = false ∧ c.nd.size ≤ c.nd.most ∧ c.es.head?.map (·.1) = some c.key) ∧
      es = ks.flatMap Kid.es ∧ us = ks.flatMap Kid.all
structure KidOk (M : Nat → Option (Node V)) (h : Nat) (c : Kid V) : Prop where
  at_ : M c.sec = some c.nd
  tre : Tre M h c.nd c.es c.us
  rich : c.nd.poor = false
  fits : c.nd.size ≤ c.nd.most
  hd : c.es.head?.map (·.1) = some c.key
theorem tre_succ {M : Nat → Option (Node V)} {h : Nat} {n : Node V} {es : List (Key × V)} {us : List Nat} :
    Tre M (h + 1) n es us ↔ ∃ ks : List (Kid V), n = .branch (ks.map Kid.pr) ∧ (∀ c ∈ ks, KidOk M h c) ∧ es = ks.flatMap Kid.es ∧ us = ks.flatMap Kid.all := by
  constructor
  · rintro ⟨ks, e1, e2, e3, e4⟩
    exact ⟨ks, e1, fun c hc => by obtain ⟨a, b, c, d, e⟩ := e2 c hc; exact ⟨a, b, c, d, e⟩, e3, e4⟩
  · rintro ⟨ks, e1, e2, e3, e4⟩
    exact ⟨ks, e1, fun c hc => ⟨(e2 c hc).at_, (e2 c hc).tre, (e2 c hc).rich, (e2 c hc).fits, (e2 c hc).hd⟩, e3, e4⟩
theorem tre_congr {M M' : Nat → Option (Node V)} : ∀ (h : Nat) {n : Node V} {es : List (Key × V)} {us : List Nat}, Tre M h n es us → (∀ t ∈ us, M' t = M t) → Tre M' h n es us
  | 0, _, _, _, ht, _ => ht
  | h + 1, n, es, us, ht, hm => by
    obtain ⟨ks, e1, e2, e3, e4⟩ := tre_succ.1 ht
    refine tre_succ.2 ⟨ks, e1, fun c hc => ?_, e3, e4⟩
    have k := e2 c hc
    have hs : ∀ t ∈ c.all, t ∈ us := fun t ht => by rw [e4]; exact List.mem_flatMap.2 ⟨c, hc, ht⟩
    exact ⟨(hm _ (hs _ List.mem_cons_self)).trans k.at_, tre_congr h k.tre fun t ht => hm t (hs t (List.mem_cons_of_mem _ ht)), k.rich, k.fits, k.hd⟩
theorem KidOk.congr {M M' : Nat → Option (Node V)} {h : Nat} {c : Kid V} (k : KidOk M h c) (hm : ∀ t ∈ c.all, M' t = M t) : KidOk M' h c :=
  ⟨(hm _ List.mem_cons_self).trans k.at_, tre_congr h k.tre fun t ht => hm t (List.mem_cons_of_mem _ ht), k.rich, k.fits, k.hd⟩
theorem KidOk.ne {M : Nat → Option (Node V)} {h : Nat} {c : Kid V} (k : KidOk M h c) : ∃ v t, c.es = (c.key, v) :: t := by
  have := k.hd
  cases he : c.es with
  | nil => rw [he] at this; cases this
  | cons x t => rw [he] at this; simp at this; exact ⟨x.2, t, by rw [← this]⟩
/-- The kind of a node is told by its height. -/
theorem tre_most {M : Nat → Option (Node V)} {h : Nat} {n n' : Node V} {es es' : List (Key × V)} {us us' : List Nat} (a : Tre M h n es us) (b : Tre M h n' es' us') : n.most = n'.most := by
  cases h with
  | zero => rw [a.1, b.1]; rfl
  | succ h => obtain ⟨ks, e, _⟩ := a; obtain ⟨ks', e', _⟩ := b; rw [e, e']; rfl
theorem tre_join {M : Nat → Option (Node V)} {h : Nat} {n n' : Node V} {es es' : List (Key × V)} {us us' : List Nat} (a : Tre M h n es us) (b : Tre M h n' es' us') : Tre M h (n.join n') (es ++ es') (us ++ us') ∧ (n.join n').size = n.size + n'.size ∧ (n.join n').most = n.most := by
  cases h with
  | zero =>
    obtain ⟨rfl, rfl⟩ := a
    obtain ⟨rfl, rfl⟩ := b
    exact ⟨⟨rfl, rfl⟩, by simp [Node.join, Node.size], rfl⟩
  | succ h =>
    obtain ⟨ks, rfl, e2, rfl, rfl⟩ := tre_succ.1 a
    obtain ⟨ks', rfl, f2, rfl, rfl⟩ := tre_succ.1 b
    refine ⟨tre_succ.2 ⟨ks ++ ks', by simp [Node.join], fun c hc => ?_, by simp, by simp⟩, by simp [Node.join, Node.size], rfl⟩
    rcases List.mem_append.1 hc with hc | hc
    · exact e2 c hc
    · exact f2 c hc
theorem tre_cut {M : Nat → Option (Node V)} {h : Nat} {n : Node V} {es : List (Key × V)} {us : List Nat} (a : Tre M h n es us) (j : Nat) :
    ∃ e1 e2 u1 u2, es = e1 ++ e2 ∧ us = u1 ++ u2 ∧ Tre M h (n.tk j) e1 u1 ∧ Tre M h (n.dp j) e2 u2 := by
  cases h with
  | zero =>
    obtain ⟨rfl, rfl⟩ := a
    exact ⟨es.take j, es.drop j, [], [], by simp, rfl, ⟨rfl, rfl⟩, ⟨rfl, rfl⟩⟩
  | succ h =>
    obtain ⟨ks, rfl, e2, rfl, rfl⟩ := tre_succ.1 a
    refine ⟨(ks.take j).flatMap Kid.es, (ks.drop j).flatMap Kid.es, (ks.take j).flatMap Kid.all, (ks.drop j).flatMap Kid.all, ?_, ?_, tre_succ.2 ⟨ks.take j, ?_, fun c hc => e2 c (List.mem_of_mem_take hc), rfl, rfl⟩, tre_succ.2 ⟨ks.drop j, ?_, fun c hc => e2 c (List.mem_of_mem_drop hc), rfl, rfl⟩⟩
    · rw [← List.flatMap_append, List.take_append_drop]
    · rw [← List.flatMap_append, List.take_append_drop]
    · simp [Node.tk, List.map_take]
    · simp [Node.dp, List.map_drop]
theorem tre_head {M : Nat → Option (Node V)} {h : Nat} {n : Node V} {es : List (Key × V)} {us : List Nat} (a : Tre M h n es us) (hs : 0 < n.size) : es.head?.map (·.1) = some n.fk := by
  cases h with
  | zero =>
    obtain ⟨rfl, rfl⟩ := a
    cases es with
    | nil => simp [Node.size] at hs
    | cons x t => simp [Node.fk]
  | succ h =>
    obtain ⟨ks, rfl, e2, rfl, rfl⟩ := tre_succ.1 a
    cases ks with
    | nil => simp [Node.size] at hs
    | cons c t =>
      obtain ⟨v, t', e⟩ := (e2 c List.mem_cons_self).ne
      simp [Node.fk, e]

/-- What a change's lists say, where L tells the sectors of its state and U those of the state ahead. -/
structure Ok (n : Nat) (U L : Nat → Prop) (s : CS V) : Prop where
  made : ∀ t, (s.made t).isSome = true ↔ L t ∧ ¬ U t
  left : ∀ t, t ∈ s.left ↔ U t ∧ ¬ L t
  free : ∀ t, t ∈ s.free ↔ 1 ≤ t ∧ t < n ∧ ¬ U t ∧ ¬ L t
  fnd : s.free.Nodup
  lnd : s.left.Nodup
  inL : ∀ t, L t → 1 ≤ t ∧ t < n
  inU : ∀ t, U t → 1 ≤ t ∧ t < n
theorem Ok.congr {n : Nat} {U L L' : Nat → Prop} {s : CS V} (h : Ok n U L s) (e : ∀ t, L t ↔ L' t) : Ok n U L' s := by
  have : L = L' := funext fun t => propext (e t)
  rw [← this]; exact h
def cur (D : Nat → Option (Node V)) (s : CS V) (t : Nat) : Option (Node V) := (s.made t).or (D t)

theorem take_ok {n : Nat} {U L : Nat → Prop} {D : Nat → Option (Node V)} {s : CS V} {sec : Nat} {nd : Node V} (h : Ok n U L s) (hl : L sec) (hc : cur D s sec = some nd) :
    ∃ s1, takeF D s sec = .ok (nd, s1) ∧ Ok n U (fun t => L t ∧ t ≠ sec) s1 ∧ (∀ t, t ≠ sec → cur D s1 t = cur D s t) ∧ s1.reads ≤ s.reads + 1 := by
  have h0 : sec ≠ 0 := by have := h.inL sec hl; omega
  unfold takeF
  rw [if_neg h0]
  unfold cur at hc
  cases hm : s.made sec with
  | some m =>
    rw [hm] at hc
    simp only [Option.some_or, Option.some.injEq] at hc
    subst hc
    have hU : ¬ U sec := ((h.made sec).1 (by rw [hm]; rfl)).2
    refine ⟨_, rfl, ⟨fun t => ?_, fun t => ?_, fun t => ?_, ?_, h.lnd, fun t ht => h.inL t ht.1, h.inU⟩, fun t ht => by simp [cur, upd2, ht], by simp⟩
    · by_cases e : t = sec
      · subst e; simp [upd2]
      · simp only [upd2, e, if_false, h.made t]; simp [e]
    · simp only [h.left t]
      by_cases e : t = sec
      · subst e; simp [hU]
      · simp [e]
    · simp only [List.mem_append, List.mem_singleton, h.free t]
      by_cases e : t = sec
      · subst e; have := h.inL t hl; simp [hU]; omega
      · simp [e]
    · refine List.nodup_append.2 ⟨h.fnd, by simp, fun a ha b hb e => ?_⟩
      simp at hb
      subst hb e
      exact ((h.free a).1 ha).2.2.2 hl
  | none =>
    have hU : U sec := Classical.byContradiction fun g => by have := (h.made sec).2 ⟨hl, g⟩; rw [hm] at this; cases this
    rw [hm] at hc
    simp only [Option.none_or] at hc
    rw [hc]
    refine ⟨_, rfl, ⟨fun t => ?_, fun t => ?_, fun t => ?_, h.fnd, ?_, fun t ht => h.inL t ht.1, h.inU⟩, fun t ht => rfl, by simp⟩
    · simp only [h.made t]
      by_cases e : t = sec
      · subst e; simp [hU]
      · simp [e]
    · simp only [List.mem_append, List.mem_singleton, h.left t]
      by_cases e : t = sec
      · subst e; simp [hU]
      · simp [e]
    · simp only [h.free t]
      by_cases e : t = sec
      · subst e; simp [hU]
      · simp [e]
    · refine List.nodup_append.2 ⟨h.lnd, by simp, fun a ha b hb e => ?_⟩
      simp at hb
      subst hb e
      exact ((h.left a).1 ha).2 hl
theorem keep1_ok {n : Nat} {U L : Nat → Prop} (D : Nat → Option (Node V)) {s : CS V} (h : Ok n U L s) (p : Node V) :
    keep1 s p = .space ∨ ∃ sec s1, keep1 s p = .ok ((p.fk, sec), s1) ∧ ¬ L sec ∧ Ok n U (fun t => L t ∨ t = sec) s1 ∧ cur D s1 sec = some p ∧ (∀ t, t ≠ sec → cur D s1 t = cur D s t) ∧ s1.reads = s.reads := by
  unfold keep1
  cases hg : s.free.getLast? with
  | none => exact .inl rfl
  | some sec =>
    have hne : s.free ≠ [] := fun e => by rw [e] at hg; cases hg
    have hd : s.free = s.free.dropLast ++ [sec] := by
      have := List.dropLast_concat_getLast hne
      rw [List.getLast?_eq_some_getLast hne, Option.some.injEq] at hg
      rw [hg] at this
      exact this.symm
    have hf := (h.free sec).1 (by rw [hd]; simp)
    have hnd := h.fnd
    rw [hd] at hnd
    have hnd := List.nodup_append.1 hnd
    refine .inr ⟨sec, _, rfl, hf.2.2.2, ⟨fun t => ?_, fun t => ?_, fun t => ?_, hnd.1, h.lnd, fun t ht => ?_, h.inU⟩, by simp [cur, upd2], fun t ht => by simp [cur, upd2, ht], rfl⟩
    · by_cases e : t = sec
      · subst e; simp [upd2, hf.2.2.1]
      · simp only [upd2, e, if_false, h.made t]; simp
    · simp only [h.left t]
      by_cases e : t = sec
      · subst e; simp [hf.2.2.1]
      · simp [e]
    · have : t ∈ s.free ↔ t ∈ s.free.dropLast ∨ t = sec := by
        constructor
        · intro g; rw [hd] at g; simpa using g
        · intro g; rw [hd]; simpa using g
      by_cases e : t = sec
      · subst e
        constructor
        · intro g; exact absurd rfl (hnd.2.2 t g t (by simp))
        · intro g; simp at g
      · have g := h.free t
        rw [this] at g
        simp only [e, or_false] at g ⊢
        exact g
    · rcases ht with ht | rfl
      · exact h.inL t ht
      · exact ⟨hf.1, hf.2.1⟩
end
end Go.Proofs.YtdgbgmffpcooeaaGreat
end
