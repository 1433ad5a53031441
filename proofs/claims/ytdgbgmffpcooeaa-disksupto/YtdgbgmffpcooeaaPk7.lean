/- What the program's disk answers at Image. -/
import Derived.Test.YtdgbgmffpcooeaaPk6
namespace Go.Proofs.Ytdgbgmffpcooeaa
open Go.RowKit Go.Lib Go.Maps

/-- What is safe of a sector. -/
def PS.safe (s : PS) (t : Nat) : ByteArray := (s.old t).getD (s.now t)
theorem there_of_new {W : World} {b : ByteArray} (hb : b.size = 256) : ((W.alloc (.cells Try.zeroCells107 107)).setCells W.heap.size 0 (strCells b)).rangeAt W.heap.size 0 (strCells b) ∧ ((W.alloc (.cells Try.zeroCells107 107)).setCells W.heap.size 0 (strCells b)).there W.heap.size 0 256 :=
  ⟨World.rangeAt_setCells_same _ _ _ _ (by rw [strCells_length, hb]; exact there_new W), World.there_setCells (there_new W) _ _ _⟩
theorem there_lt {W : World} {b o n : Nat} (h : W.there b o n) (hn : 0 < n) : b < W.heap.size := by
  obtain ⟨u, hu⟩ := Option.isSome_iff_exists.1 (h 0 hn).1
  exact World.block_lt_of_cell? W _ hu
theorem news_of {W : World} {g : Nat} {cs : List Value} (h : W.rangeAt g 0 cs) : ∀ j u, cs[j]? = some u → W.cell? ((⟨g, 0, none⟩ : Addr).add j) = some u := fun j u hu => by
  rw [Addr.add_mid]; exact h j u hu

set_option maxRecDepth 100000 in
set_option maxHeartbeats 2000000 in
theorem pimage_any (w : World) (base : Nat) (A : PA) (s : PS) (h : PD w base A s) :
    Calls Try.prog 67 #[.pointer (some ⟨A.q, 0, none⟩)] w fun e w' => e = .returned (.string ⟨(joined s.safe s.n).toArray⟩) ∧ Below w.heap.size w w' := by
  obtain ⟨i5, hi5, hz5a, hz5b, hz5c⟩ := info_parts info5
  have hn1 := h.n1
  have hn2 := h.n2
  obtain ⟨km, D, hm1, hm2, hm3⟩ := h.map
  have hok : ∀ t, t < s.n → (s.safe t).size = 256 := fun t ht => by
    unfold PS.safe
    cases ho : s.old t with
    | none => exact h.sec.size t ht
    | some b => exact hm3.size t b ht ho
  obtain ⟨c0, c1, c2, c3, c4⟩ := h.cells
  have hm : wrap64 ((s.n : Int) * 256) = ((s.n * 256 : Nat) : Int) := by unfold wrap64; omega
  go_enter Try.func67, Try.ntmps67
  go_wp2_with (at_make; refine wpList_make_own _ rfl _ (.tmp 13) 81 rfl w.heap.size 5 i5 _ 1 Try.underlying81 hi5 hz5a hz5b _ _ _ (s.n * 256) rfl rfl (by omega) (by rw [hz5c]; omega) (by unfold maxLen; omega) (Nat.le_refl _) ?_; intro w1 hown hgrow; have hB1 : Below w.heap.size w w1 := (Below.refl _ _).grown hgrow (Nat.le_refl _) (fun k hk => (by cases hk)); have d0 : w1.cell? ⟨A.q, 0, none⟩ = some (.slice (some ⟨A.g, 0, none⟩) s.n s.n) := (h.below hB1).cells.1)
  clear hgrow d0
  go_loopw [3, 20] (fun v x wr => ∃ j : Nat, x = .int .i64 (j : Int) ∧ j ≤ s.n ∧ wr.ownsRow w.heap.size 5 1 v (j * 256) (byteCells (joined s.safe j)) ∧ Below w.heap.size w wr) (fun _ x _ => s.n - (intOf x).toNat)
  case atStart => exact ⟨0, rfl, by omega, by rw [joined_zero]; simpa [byteCells] using hown, hB1⟩
  case round =>
    obtain ⟨j, rfl, hj, hv, hB⟩ := hrel
    clear hown hB1 c0 c1 c2 c3 c4
    have hRw := h.below hB
    have hs := hB.size
    by_cases hlt : j < s.n
    · have hlt' : (j : Int) < (s.n : Int) := by omega
      have hrg := hRw.sec.at_ j hlt
      have hgl := hRw.sec.lt
      have hnj : (s.now j).size = 256 := h.sec.size j hlt
      have hsj := hok j hlt
      go_upto_region 5 with (first
        | (refine wpList_load_mid rfl 107 (.tmp 23) rfl A.g (j * 256) rfl (strCells (s.now j)) _ hrg Try.underlying107 rfl (by rw [size107, strCells_length, hnj]) ?_)
        | (refine wpList_store_mid rfl 107 (.tmp 5) (.tmp 24) rfl wr.heap.size 0 (strCells (s.now j)).toArray rfl rfl (by rw [size_strCells hnj]; exact there_new wr) (by rw [size107, size_strCells hnj]) (all_strCells (s.now j)) ?_))
      have hbW1 : Below wr.heap.size wr ((wr.alloc (.cells Try.zeroCells107 107)).setCells wr.heap.size 0 (strCells (s.now j))) := below_setCells (Nat.le_refl _) _ _ _ ((Below.refl _ _).alloc (Nat.le_refl _) _)
      have hn5 := there_of_new (W := wr) hnj
      have hlt5 := there_lt hn5.2 (by omega)
      obtain ⟨W1, hW1⟩ : ∃ W1, (wr.alloc (.cells Try.zeroCells107 107)).setCells wr.heap.size 0 (strCells (s.now j)) = W1 := ⟨_, rfl⟩
      rw [hW1] at hbW1 hn5 hlt5 ⊢
      clear hW1
      have hR1 := hRw.below hbW1
      obtain ⟨n5a, n5b⟩ := hn5
      have c1 : W1.cell? ⟨A.q, 1, none⟩ = some (.map (some A.m)) := hR1.cells.2.1
      have hmW := map_off hm1 (Off.of_below (F := fun _ => False) (hB.trans (hbW1.mono hs))) (fun h => h)
      have hkey := key_of j (by omega)
      have hhas := hm3.has_ j hlt
      cases ho : s.old j with
      | none =>
        rw [ho] at hhas
        have HS : Hid (s.safe j = s.now j) := by show _ = _; unfold PS.safe; rw [ho]; rfl
        clear ho
        go_upto_region 8 with (first
          | (at_lookup; refine wpList_lookup_own_ok _ rfl (.tmp 29) (.tmp 30) 103 rfl 3 107 keyed3 Try.underlying103 secR (zero107 _) (.lit (.string (zeros 256).data.toList)) [] (secR_mk size_zero256) A.m km D rfl hmW _ (kl j) rfl hkey ?_; intro v ps hv1; obtain ⟨b0, hb0, rfl, _⟩ := secR_inv hv1; clear hv1)
          | (refine wpList_store_mid rfl 107 (.tmp 6) (.tmp 32) rfl W1.heap.size 0 (strCells b0).toArray rfl rfl (by rw [size_strCells hb0]; exact there_new W1) (by rw [size107, size_strCells hb0]) (all_strCells b0) ?_))
        have hbW2 : Below W1.heap.size W1 ((W1.alloc (.cells Try.zeroCells107 107)).setCells W1.heap.size 0 (strCells b0)) := below_setCells (Nat.le_refl _) _ _ _ ((Below.refl _ _).alloc (Nat.le_refl _) _)
        obtain ⟨W2, hW2⟩ : ∃ W2, (W1.alloc (.cells Try.zeroCells107 107)).setCells W1.heap.size 0 (strCells b0) = W2 := ⟨_, rfl⟩
        rw [hW2] at hbW2 ⊢
        clear hW2
        have hnews := news_of (rangeAt_off n5a (Off.of_below (F := fun _ => False) hbW2) (fun h => h) hlt5)
        have hvW := own_below (own_below hv hbW1) hbW2
        have hBW : Below w.heap.size w W2 := (hB.trans (hbW1.mono hs)).trans (hbW2.mono (Nat.le_trans hs hbW1.size))
        have hl5 : (strCells (s.now j)).length = 256 * 1 := by rw [strCells_length, hnj]
        have ho5 := strCells_oneCell (s.now j)
        have hsW := hBW.size
        clear n5a n5b c1 hmW hhas hkey
        go_wp2_with (at_builtin; refine wpList_append_lies _ rfl (.tmp 36) (.tmp 37) 81 rfl w.heap.size 5 i5 _ 1 1 Try.underlying81 hi5 hz5a hz5b hz5c rfl (by omega) _ (j * 256) _ rfl hvW ⟨wr.heap.size, 0, none⟩ 256 256 (strCells (s.now j)) rfl hl5 hnews ho5 (by omega) (by unfold maxLen; omega) (by omega) hsW _ rfl ?_; intro gg capp w4 hown4 hgrow4 hat4 hlt4)
        go_wp2
        go_roundw
        case rel =>
          refine ⟨j + 1, by go_num, by omega, ?_, ?_⟩
          · rw [byteCells_succ, HS.out, show (j + 1) * 256 = j * 256 + 256 by omega]; exact hown4
          · exact hBW.grown hgrow4 hsW (fun k hk => own_ge hvW hk)
        case measure => simp [intOf]; omega
      | some ob =>
        rw [ho] at hhas
        have HS : Hid (s.safe j = ob) := by show _ = _; unfold PS.safe; rw [ho]; rfl
        have hobs := hm3.size j ob hlt ho
        have hval := hm3.val j ob hlt ho
        clear ho
        go_upto_region 7 with (first
          | (at_lookup; refine wpList_lookup_own_ok _ rfl (.tmp 29) (.tmp 30) 103 rfl 3 107 keyed3 Try.underlying103 secR (zero107 _) (.lit (.string (zeros 256).data.toList)) [] (secR_mk size_zero256) A.m km D rfl hmW _ (kl j) rfl hkey ?_; intro v ps hv1; obtain ⟨b0, hb0, rfl, hy⟩ := secR_inv hv1; rw [hval, Prod.mk.injEq] at hy; obtain rfl := lit_inj hy.1; clear hv1 hy)
          | (refine wpList_store_mid rfl 107 (.tmp 6) (.tmp 32) rfl W1.heap.size 0 (strCells ob).toArray rfl rfl (by rw [size_strCells hobs]; exact there_new W1) (by rw [size107, size_strCells hobs]) (all_strCells ob) ?_))
        have hbW2 : Below W1.heap.size W1 ((W1.alloc (.cells Try.zeroCells107 107)).setCells W1.heap.size 0 (strCells ob)) := below_setCells (Nat.le_refl _) _ _ _ ((Below.refl _ _).alloc (Nat.le_refl _) _)
        have hn6 := there_of_new (W := W1) hobs
        obtain ⟨W2, hW2⟩ : ∃ W2, (W1.alloc (.cells Try.zeroCells107 107)).setCells W1.heap.size 0 (strCells ob) = W2 := ⟨_, rfl⟩
        rw [hW2] at hbW2 hn6 ⊢
        clear hW2
        have hth5 : W2.there wr.heap.size 0 256 := fun i hi => by
          have hc := hbW2.cell (p := ⟨wr.heap.size, 0 + i, none⟩) hlt5
          have hf := hbW2.frozen (p := ⟨wr.heap.size, 0 + i, none⟩) hlt5
          rw [hc, hf]; exact n5b i hi
        have hrg6 := hn6.1
        have hrg7 := World.rangeAt_setCells_same W2 wr.heap.size 0 (strCells ob) (by rw [strCells_length, hobs]; exact hth5)
        have hbW3 : Below wr.heap.size wr (W2.setCells wr.heap.size 0 (strCells ob)) := below_setCells (Nat.le_refl _) _ _ _ (hbW1.trans (hbW2.mono (by omega)))
        clear n5a n5b c1 hmW hhas hkey hn6
        go_upto_region 8 with (first
          | (refine wpList_load_mid rfl 107 (.tmp 6) rfl W1.heap.size 0 rfl (strCells ob) _ hrg6 Try.underlying107 rfl (by rw [size107, strCells_length, hobs]) ?_)
          | (refine wpList_store_mid rfl 107 (.tmp 5) (.tmp 35) rfl wr.heap.size 0 (strCells ob).toArray rfl rfl (by rw [size_strCells hobs]; exact hth5) (by rw [size107, size_strCells hobs]) (all_strCells ob) ?_))
        obtain ⟨W3, hW3⟩ : ∃ W3, W2.setCells wr.heap.size 0 (strCells ob) = W3 := ⟨_, rfl⟩
        rw [hW3] at hrg7 hbW3 ⊢
        clear hW3 hth5 hrg6 hbW2 hbW1 hlt5
        have hnews := news_of hrg7
        have hvW := own_below hv hbW3
        have hBW : Below w.heap.size w W3 := hB.trans (hbW3.mono hs)
        have hl5 : (strCells ob).length = 256 * 1 := by rw [strCells_length, hobs]
        have ho5 := strCells_oneCell ob
        have hsW := hBW.size
        go_wp2_with (at_builtin; refine wpList_append_lies _ rfl (.tmp 36) (.tmp 37) 81 rfl w.heap.size 5 i5 _ 1 1 Try.underlying81 hi5 hz5a hz5b hz5c rfl (by omega) _ (j * 256) _ rfl hvW ⟨wr.heap.size, 0, none⟩ 256 256 (strCells ob) rfl hl5 hnews ho5 (by omega) (by unfold maxLen; omega) (by omega) hsW _ rfl ?_; intro gg capp w4 hown4 hgrow4 hat4 hlt4)
        go_wp2
        go_roundw
        case rel =>
          refine ⟨j + 1, by go_num, by omega, ?_, ?_⟩
          · rw [byteCells_succ, HS.out, show (j + 1) * 256 = j * 256 + 256 by omega]; exact hown4
          · exact hBW.grown hgrow4 hsW (fun k hk => own_ge hvW hk)
        case measure => simp [intOf]; omega
    · have hlt' : decide ((j : Int) < (s.n : Int)) = false := by simp; omega
      have hlt2 : decide (j < s.n) = false := by simp; omega
      have hjn : j = s.n := by omega
      rw [hjn] at hv
      obtain ⟨g, cap, hvv, _, _⟩ := hv.form (by omega)
      subst hvv
      have hcv := conv_own (length_joined s.safe s.n hok) hv
      clear hjn
      go_wp2
      go_ret
      exact ⟨rfl, hB⟩
end Go.Proofs.Ytdgbgmffpcooeaa
