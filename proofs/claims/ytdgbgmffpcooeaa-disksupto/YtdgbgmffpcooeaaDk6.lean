/- What the document's LoadDisk and NewDisk make. -/
import Derived.Test.YtdgbgmffpcooeaaDk5
import Derived.Deep.Cut
import Derived.Deep.AppendLies
namespace Go.Proofs.Ytdgbgmffpcooeaa
open Go.RowKit Go.Lib

theorem info9 : (Try.prog.info? 9).map (fun i => (i.zero, i.size, i.bytes)) = some (some (.string ByteArray.empty), 1, 16) := by kernel_rfl
theorem info4 : (Try.prog.info? 4).map (fun i => (i.zero, i.size, i.bytes)) = some (some (.bool false), 1, 1) := by kernel_rfl

/-- Sector t of an image. -/
def cut (b : ByteArray) (t : Nat) : ByteArray := b.extract (t * 256) ((t + 1) * 256)
def RS.fresh (b : ByteArray) (n : Nat) : RS := ⟨n, cut b, cut b, fun _ => false, false, false, 0, 0⟩
theorem size_cut {b : ByteArray} {n t : Nat} (hb : b.size = n * 256) (ht : t < n) : (cut b t).size = 256 := by
  have h1 : (t + 1) * 256 ≤ n * 256 := Nat.mul_le_mul_right _ ht
  unfold cut
  rw [ByteArray.size_extract]; omega
theorem made_false (n : Nat) : (madeCells (Value.bool false).cells (n * 1)).toList = (List.range n).map fun _ => Value.bool false := by
  apply List.ext_getElem?
  intro i
  by_cases h : i < n
  · rw [List.getElem?_map, List.getElem?_range h]
    simp [madeCells, Value.cells, h, Nat.mod_one]
  · rw [List.getElem?_eq_none (by simp [madeCells]; omega), List.getElem?_eq_none (by simp; omega)]

/-- What stands while the sectors are laid. -/
structure L3 (w W : World) (b : ByteArray) (n r di j : Nat) (vS vN : Value) : Prop where
  blk : Blk W r 86 #[vS, vN, .slice (some ⟨di, 0, none⟩) n n, .bool false, .bool false, .int .i64 0, .int .i64 0]
  rowS : W.ownsRow w.heap.size 9 1 vS j ((List.range j).map fun t => .string (cut b t))
  rowN : W.ownsRow w.heap.size 9 1 vN j ((List.range j).map fun t => .string (cut b t))
  rowD : W.ownsRow w.heap.size 4 1 (.slice (some ⟨di, 0, none⟩) n n) n ((List.range n).map fun _ => .bool false)
  ne : ∀ i, vS.ownBlock = some i → vN.ownBlock ≠ some i
  bel : Below w.heap.size w W

set_option maxRecDepth 100000 in
set_option maxHeartbeats 2000000 in
theorem rload_ok (w : World) (b : ByteArray) (n : Nat) (hn : b.size = n * 256) (h1 : 256 ≤ n) (h2 : n ≤ 4096) :
    Calls Try.prog 23 #[.string b] w fun e w' => ∃ A : RA, e = .returned (.tuple #[.pointer (some ⟨A.r, 0, none⟩), .int .i64 0]) ∧ RD w' w.heap.size A (RS.fresh b n) ∧ Below w.heap.size w w' := by
  obtain ⟨i9, hi9, hz9a, hz9b, hz9c⟩ := info_parts info9
  obtain ⟨i4, hi4, hz4a, hz4b, hz4c⟩ := info_parts info4
  have q1 : (((b.size : Nat) : Int).tdiv 256) = (n : Int) := by rw [hn]; simp
  have q2 : (((b.size : Nat) : Int) / 256) = (n : Int) := by rw [hn]; omega
  have q3 : (((b.size : Nat) : Int) != wrap64 ((n : Int) * 256)) = false := by rw [hn]; unfold wrap64; simp; omega
  have q4 : (((b.size : Nat) : Int) != ((n : Int) * 256)) = false := by rw [hn]; simp
  have t1 : decide ((n : Int) < 256) = false := by simp; omega
  have t2 : decide ((4096 : Int) < (n : Int)) = false := by simp; omega
  have HN : Hid (b.size = n * 256) := hn
  have hbs : (b.size : Int) = (n : Int) * 256 := by omega
  have HBS : Hid ((b.size : Int) = (n : Int) * 256) := hbs
  clear hn hbs
  go_enter Try.func23, Try.ntmps23
  go_wp2_with (at_make; refine wpList_make_full _ rfl (.tmp 24) (.tmp 24) 83 rfl w.heap.size 4 i4 _ 1 Try.underlying83 hi4 hz4a hz4b _ _ _ _ n rfl rfl rfl rfl (by rw [hz4c]; omega) (by unfold maxLen; omega) (Nat.le_refl _) ?_; intro w1 hown hgrow)
  rw [made_false] at hown
  have hB1 : Below w.heap.size w w1 := (Below.refl _ _).grown hgrow (Nat.le_refl _) (fun k hk => by cases hk)
  have hs1 := hB1.size
  have hdi := (own_lt hown).2
  have st : L3 w (w1.alloc (.cells #[.slice none 0 0, .slice none 0 0, .slice (some ⟨w.heap.size, 0, none⟩) n n, .bool false, .bool false, .int .i64 0, .int .i64 0] 86)) b n w1.heap.size w.heap.size 0 (.slice none 0 0) (.slice none 0 0) :=
    ⟨Blk.new w1 86 _, World.ownsRow_nil _ _ _ _, World.ownsRow_nil _ _ _ _, hown.alloc _, fun i hi => (by cases hi), hB1.alloc hs1 _⟩
  clear hown hgrow hB1 q1 q2 q3 q4 t1 t2
  obtain ⟨W0, hW0⟩ : ∃ W0, w1.alloc (.cells #[.slice none 0 0, .slice none 0 0, .slice (some ⟨w.heap.size, 0, none⟩) n n, .bool false, .bool false, .int .i64 0, .int .i64 0] 86) = W0 := ⟨_, rfl⟩
  rw [hW0] at st ⊢
  clear hW0
  go_loopw [6] (fun x wr => ∃ (j : Nat) (vS vN : Value), x = .int .i64 (j : Int) ∧ j ≤ n ∧ L3 w wr b n w1.heap.size w.heap.size j vS vN) (fun x _ => n - (intOf x).toNat)
  case atStart => exact ⟨0, _, _, rfl, by omega, st⟩
  case round =>
    clear st
    obtain ⟨j, vS, vN, rfl, hj, st⟩ := hrel
    have hs := st.bel.size
    have hblk := st.blk
    have hrl := hblk.lt
    by_cases hlt : j < n
    · have hlt' : (j : Int) < (n : Int) := by omega
      have g1 : (j : Int) * 256 ≤ ((j : Int) + 1) * 256 := by omega
      have g2 : ((j : Int) + 1) * 256 ≤ (b.size : Int) := by have := HBS.out; omega
      have c0 : wr.cell? ⟨w1.heap.size, 0, none⟩ = some vS := hblk.cell 0
      have hrowS := st.rowS
      have hneS : ∀ i, vS.ownBlock = some i → i ≠ w1.heap.size := fun i hi => by
        obtain ⟨_, cs, h⟩ := own_tagged hrowS hi
        exact tag_ne hblk h (by decide)
      go_upto_region 10 with (at_builtin; refine wpList_append_lies _ rfl (.tmp 44) (.tmp 46) 84 rfl w.heap.size 9 i9 _ 1 16 Try.underlying84 hi9 hz9a hz9b hz9c rfl (by omega) _ j _ rfl (hrowS.alloc _) ⟨wr.heap.size, 0, none⟩ 1 1 [.string (b.extract (j * 256) ((j + 1) * 256))] rfl rfl (World.news_of_block (cs := #[.string (b.extract (j * 256) ((j + 1) * 256))]) (t := 9) (fr := (0, 0)) (heap_alloc_new wr _)) (by simp [Value.oneCell']) (by omega) (by unfold maxLen; omega) (by omega) (by simp; omega) (wr.heap.size + 1) (by simp) ?_; intro gS capS w2 hS2 hgS hatS hltS; have hB2 : Blk w2 w1.heap.size 86 #[vS, vN, .slice (some ⟨w.heap.size, 0, none⟩) n n, .bool false, .bool false, .int .i64 0, .int .i64 0] := (hblk.alloc _).grown hgS hneS; have d0 : w2.cell? ⟨w1.heap.size, 0, none⟩ = some vS := hB2.cell 0; have g0 : w2.frozen? ⟨w1.heap.size, 0, none⟩ = false := hB2.frozen 0)
      obtain ⟨newS, hnS⟩ : ∃ newS, Value.slice (some ⟨gS, 0, none⟩) (j + 1) capS = newS := ⟨_, rfl⟩
      have hnewS : ∀ i, newS.ownBlock = some i → vN.ownBlock ≠ some i := fun i hi h => by
        rw [← hnS] at hi
        simp only [Value.ownBlock, Option.some.injEq] at hi
        subst hi
        rcases hatS with h3 | h3
        · exact st.ne gS h3 h
        · have := (st.rowN.lt gS h).2; omega
      rw [hnS] at hS2 ⊢
      have hB3 : Blk (w2.setCell ⟨w1.heap.size, 0, none⟩ newS) w1.heap.size 86 #[newS, vN, .slice (some ⟨w.heap.size, 0, none⟩) n n, .bool false, .bool false, .int .i64 0, .int .i64 0] := hB2.set 0 newS
      have hS3 := own_other (i := 0) hS2 hB2 (by decide) newS
      have hN3 := own_other (i := 0) ((st.rowN.alloc (.cells #[.string (b.extract (j * 256) ((j + 1) * 256))] 9)).kept hgS (by
        cases hvn : vN.ownBlock with
        | none => exact .inl rfl
        | some x => exact .inr (fun e => st.ne x e.symm hvn))) hB2 (by decide) newS
      have hD3 := own_other (i := 0) (own_grown (st.rowD.alloc (.cells #[.string (b.extract (j * 256) ((j + 1) * 256))] 9)) hgS (fun i hi => by
        obtain ⟨_, cs, h⟩ := own_tagged (st.rowS.alloc _) hi
        exact .inr ⟨cs, 9, (0, 0), h, by decide⟩)) hB2 (by decide) newS
      have hbel3 := ((st.bel.alloc hs (.cells #[.string (b.extract (j * 256) ((j + 1) * 256))] 9)).grown hgS (by simp; omega) (fun k hk => own_ge st.rowS hk)).setCell (p := ⟨w1.heap.size, 0, none⟩) hs1 newS
      obtain ⟨W2, hW2⟩ : ∃ W2, w2.setCell ⟨w1.heap.size, 0, none⟩ newS = W2 := ⟨_, rfl⟩
      have hs2 : wr.heap.size ≤ W2.heap.size := by rw [← hW2]; have := hgS.size; simp at this ⊢; omega
      rw [hW2] at hB3 hS3 hN3 hD3 hbel3 ⊢
      clear hW2 hnS hS2 hgS hatS hltS hB2 d0 g0 c0
      have c1 : W2.cell? ⟨w1.heap.size, 1, none⟩ = some vN := hB3.cell 1
      have hneN : ∀ i, vN.ownBlock = some i → i ≠ w1.heap.size := fun i hi => by
        obtain ⟨_, cs, h⟩ := own_tagged hN3 hi
        exact tag_ne hB3 h (by decide)
      go_wp2_with (at_builtin; refine wpList_append_lies _ rfl (.tmp 54) (.tmp 56) 84 rfl w.heap.size 9 i9 _ 1 16 Try.underlying84 hi9 hz9a hz9b hz9c rfl (by omega) _ j _ rfl (hN3.alloc _) ⟨W2.heap.size, 0, none⟩ 1 1 [.string (b.extract (j * 256) ((j + 1) * 256))] rfl rfl (World.news_of_block (cs := #[.string (b.extract (j * 256) ((j + 1) * 256))]) (t := 9) (fr := (0, 0)) (heap_alloc_new W2 _)) (by simp [Value.oneCell']) (by omega) (by unfold maxLen; omega) (by omega) (by simp; omega) (W2.heap.size + 1) (by simp) ?_; intro gN capN w4 hN4 hgN hatN hltN; have hB4 : Blk w4 w1.heap.size 86 #[newS, vN, .slice (some ⟨w.heap.size, 0, none⟩) n n, .bool false, .bool false, .int .i64 0, .int .i64 0] := (hB3.alloc _).grown hgN hneN; have d1 : w4.cell? ⟨w1.heap.size, 1, none⟩ = some vN := hB4.cell 1; have g1' : w4.frozen? ⟨w1.heap.size, 1, none⟩ = false := hB4.frozen 1)
      go_wp2
      go_roundw
      case rel =>
        have hmap : (List.range j).map (fun t => Value.string (cut b t)) ++ [.string (b.extract (j * 256) ((j + 1) * 256))] = (List.range (j + 1)).map fun t => Value.string (cut b t) := by rw [List.range_succ, List.map_append]; rfl
        have htag : ∀ i, vN.ownBlock = some i → ∃ cs, (W2.alloc (.cells #[.string (b.extract (j * 256) ((j + 1) * 256))] 9)).heap[i]? = some (.cells cs 9 (0, 0)) := fun i hi => (own_tagged (hN3.alloc _) hi).2
        refine ⟨j + 1, newS, .slice (some ⟨gN, 0, none⟩) (j + 1) capN, by go_num, by omega, ?_⟩
        refine ⟨hB4.set 1 _, ?_, ?_, ?_, ?_, ?_⟩
        · rw [← hmap]
          refine own_other ((hS3.alloc _).kept hgN ?_) hB4 (by decide) _
          cases hvs : newS.ownBlock with
          | none => exact .inl rfl
          | some x => exact .inr (fun e => hnewS x hvs e.symm)
        · rw [← hmap]; exact own_other hN4 hB4 (by decide) _
        · refine own_other (own_grown (hD3.alloc _) hgN fun i hi => ?_) hB4 (by decide) _
          obtain ⟨cs, h⟩ := htag i hi
          exact .inr ⟨cs, 9, (0, 0), h, by decide⟩
        · intro i hi h
          simp only [Value.ownBlock, Option.some.injEq] at h
          subst h
          rcases hatN with h3 | h3
          · exact hnewS gN hi h3
          · have := (hS3.lt gN hi).2; omega
        · exact (((hbel3.alloc (by omega) _).grown hgN (by simp; omega) (fun k hk => own_ge hN3 hk)).setCell (p := ⟨w1.heap.size, 1, none⟩) hs1 _)
      case measure => simp [intOf]; omega
    · have hlt' : decide ((j : Int) < (n : Int)) = false := by simp; omega
      have hlt2 : decide (j < n) = false := by simp; omega
      have hjn : j = n := by omega
      rw [hjn] at st
      obtain ⟨gS, cS, eS, _, _⟩ := st.rowS.form (by omega)
      obtain ⟨gN, cN, eN, _, _⟩ := st.rowN.form (by omega)
      subst eS
      subst eN
      clear hjn
      go_wp2
      go_ret2
      exact ⟨⟨w1.heap.size, gS, gN, w.heap.size, cS, cN, n⟩, rfl, ⟨hs1, st.blk, st.rowS, st.rowN, st.rowD, fun e => st.ne gS rfl (by simp only at e; rw [e]; rfl), h1, h2⟩, st.bel⟩

set_option maxRecDepth 100000 in
set_option maxHeartbeats 1000000 in
theorem rload_no (w : World) (b : ByteArray) (hb : b.size ≤ 1099511627776) (h : ¬ (b.size % 256 = 0 ∧ 256 ≤ b.size / 256 ∧ b.size / 256 ≤ 4096)) :
    Calls Try.prog 23 #[.string b] w fun e w' => e = .returned (.tuple #[.pointer none, .int .i64 2]) ∧ w' = w := by
  obtain ⟨n, hn⟩ : ∃ n, n = b.size / 256 := ⟨_, rfl⟩
  have q1 : (((b.size : Nat) : Int).tdiv 256) = (n : Int) := by rw [hn, Int.tdiv_eq_ediv_of_nonneg (by omega)]; omega
  have q2 : (((b.size : Nat) : Int) / 256) = (n : Int) := by rw [hn]; omega
  by_cases h1 : b.size = n * 256
  · have q3 : (((b.size : Nat) : Int) != wrap64 ((n : Int) * 256)) = false := by rw [h1]; unfold wrap64; simp; omega
    have q4 : (((b.size : Nat) : Int) != ((n : Int) * 256)) = false := by rw [h1]; simp
    by_cases h2 : n < 256
    · have t1 : (n : Int) < 256 := by omega
      clear h h1 hn
      go_enter Try.func23, Try.ntmps23
      go_wp2
      go_ret2
      exact ⟨rfl, rfl⟩
    · have t1 : decide ((n : Int) < 256) = false := by simp; omega
      have t2 : (4096 : Int) < (n : Int) := by omega
      clear h h1 hn
      go_enter Try.func23, Try.ntmps23
      go_wp2
      go_ret2
      exact ⟨rfl, rfl⟩
  · have q3 : (((b.size : Nat) : Int) != wrap64 ((n : Int) * 256)) = true := by unfold wrap64; simp; omega
    have q4 : (((b.size : Nat) : Int) != ((n : Int) * 256)) = true := by simp; omega
    clear h h1 hn
    go_enter Try.func23, Try.ntmps23
    go_wp2
    go_ret2
    exact ⟨rfl, rfl⟩

/-- Bytes that are all 0. -/
def zeros (n : Nat) : ByteArray := ⟨(List.replicate n (0 : UInt8)).toArray⟩
theorem size_zeros (n : Nat) : (zeros n).size = n := by unfold zeros; show (List.replicate n (0 : UInt8)).toArray.size = n; simp
theorem made_zero (n : Nat) : (madeCells (Value.int .u8 0).cells (n * 1)).toList = byteCells (List.replicate n 0) := by
  apply List.ext_getElem?
  intro i
  by_cases h : i < n
  · simp [madeCells, byteCells, Value.cells, h, Nat.mod_one]
  · rw [List.getElem?_eq_none (by simp [madeCells]; omega), List.getElem?_eq_none (by simp [byteCells]; omega)]

set_option maxRecDepth 100000 in
set_option maxHeartbeats 1000000 in
theorem rnew_no (w : World) (a : Int) (h : a < 256 ∨ 4096 < a) :
    Calls Try.prog 21 #[.int .i64 a] w fun e w' => e = .returned (.tuple #[.pointer none, .int .i64 2]) ∧ w' = w := by
  rcases h with h | h
  · go_enter Try.func21, Try.ntmps21
    go_wp2
    go_ret2
    exact ⟨rfl, rfl⟩
  · have h0 : decide (a < 256) = false := by simp; omega
    go_enter Try.func21, Try.ntmps21
    go_wp2
    go_ret2
    exact ⟨rfl, rfl⟩

set_option maxRecDepth 100000 in
set_option maxHeartbeats 1000000 in
theorem rnew_ok (w : World) (n : Nat) (h1 : 256 ≤ n) (h2 : n ≤ 4096) :
    Calls Try.prog 21 #[.int .i64 (n : Int)] w fun e w' => ∃ A : RA, e = .returned (.tuple #[.pointer (some ⟨A.r, 0, none⟩), .int .i64 0]) ∧ RD w' w.heap.size A (RS.fresh (zeros (n * 256)) n) ∧ Below w.heap.size w w' := by
  obtain ⟨i5, hi5, hz5a, hz5b, hz5c⟩ := info_parts info5
  have t1 : decide ((n : Int) < 256) = false := by simp; omega
  have t2 : decide ((4096 : Int) < (n : Int)) = false := by simp; omega
  go_enter Try.func21, Try.ntmps21
  go_wp2_with (first
    | (at_make; refine wpList_make_full _ rfl (.tmp 11) (.tmp 11) 81 rfl w.heap.size 5 i5 _ 1 Try.underlying81 hi5 hz5a hz5b _ _ _ _ (n * 256) rfl rfl (by omega) (by omega) (by rw [hz5c]; omega) (by unfold maxLen; omega) (Nat.le_refl _) ?_; intro w1 hown hgrow; rw [made_zero] at hown; have hcv := conv_own (l := List.replicate (n * 256) 0) (by simp) hown)
    | (go_at_call 23; refine (rload_ok w1 (zeros (n * 256)) n (size_zeros _) h1 h2).mono ?_; rintro e w2 ⟨A, rfl, hR, hb⟩))
  go_ret2
  have hB1 : Below w.heap.size w w1 := (Below.refl _ _).grown hgrow (Nat.le_refl _) (fun k hk => by cases hk)
  exact ⟨A, rfl, ⟨Nat.le_trans hB1.size hR.le, hR.blk, own_mono hR.rowS hB1.size, own_mono hR.rowN hB1.size, own_mono hR.rowD hB1.size, hR.ne, hR.n1, hR.n2⟩, hB1.trans (hb.mono hB1.size)⟩
end Go.Proofs.Ytdgbgmffpcooeaa
