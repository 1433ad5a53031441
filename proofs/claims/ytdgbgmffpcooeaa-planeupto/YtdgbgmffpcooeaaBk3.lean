/- What markC does to the books. -/
import Derived.Test.YtdgbgmffpcooeaaBk2
import Derived.Deep.RegionHeld3
import Derived.Deep.RegionLaw
import Derived.Deep.DeepCutAuto
namespace Go.Proofs.Ytdgbgmffpcooeaa
open Go.RowKit

theorem info25 : (Try.prog.info? 25).map (fun i => (i.zero, i.size, i.bytes)) = some (some (.slice none 0 0), 1, 24) := by kernel_rfl
theorem info3 : (Try.prog.info? 3).map (fun i => (i.zero, i.size, i.bytes)) = some (some (.int .i64 0), 1, 8) := by kernel_rfl

theorem neg_wrap (n : Nat) (hn : n ≤ 1073741824) : IntKind.i64.wrap (-((n : Int) + 1)) = -((n : Int) + 1) ∧ wrap64 (-((n : Int) + 1)) = -((n : Int) + 1) := by
  constructor
  · rw [IntKind.wrap_i64]; omega
  · unfold wrap64; omega
/-- What stands while the marked list is made longer, k times. -/
structure L2 (w W : World) (base B came m : Nat) (n1 μ : Int) (kc yc v : Value) (E E1 : List (Value × Int)) (k : Nat) (u cv cn : Value) (ys : List Value) : Prop where
  len : E1.length = k
  row : W.ownsRow base 34 2 u (m + k) ys
  marks : Marks ys (m + k) μ
  far : ∀ j, u.ownBlock = some j → v.ownBlock = some j ∨ w.heap.size < j
  book : Blk W B 39 (bkCells n1 came kc yc cv cn)
  mark : Blk W w.heap.size 34 #[.int .i64 μ, .int .i64 0]
  rowC : W.ownsRow base 25 1 cv (E.length + k) ((E ++ E1).map (·.1))
  rowN : W.ownsRow base 3 1 cn (E.length + k) ((E ++ E1).map fun e => .int .i64 e.2)
  ent : ∀ e ∈ E1, e.2 = μ ∧ Ent W (m + k) e ∧ ∀ j, e.1.ownBlock = some j → v.ownBlock = some j ∨ w.heap.size < j
  fr : Fr base v w W
  size : w.heap.size + 1 ≤ W.heap.size

set_option maxRecDepth 100000 in
set_option maxHeartbeats 4000000 in
theorem markC_any (w : World) (base B n came : Nat) (kc yc cv cn : Value) (E : List (Value × Int)) (hb : Bk w base B n came kc yc cv cn E) (v : Value) (m : Nat) (xs : List Value) (hv : w.ownsRow base 34 2 v m xs) (hm : m ≤ 4)
    (hfar : ∀ e ∈ E, ∀ j, e.1.ownBlock = some j → v.ownBlock ≠ some j) (hn : n ≤ 1073741824) (hE : E.length ≤ 1073741824) :
    Calls Try.prog 34 #[.pointer (some ⟨B, 0, none⟩), v] w fun e w' => e = .returned (.tuple #[]) ∧ ∃ cv' cn' E1, Bk w' base B (n + 1) came kc yc cv' cn' (E ++ E1) ∧ E1.length = 4 ∧ (∀ e ∈ E1, ∀ j, e.1.ownBlock = some j → v.ownBlock = some j ∨ w.heap.size ≤ j) ∧ Fr base v w w' := by
  obtain ⟨i34, hi34, hz34a, hz34b, hz34c⟩ := info_parts info34
  obtain ⟨i25, hi25, hz25a, hz25b, hz25c⟩ := info_parts info25
  obtain ⟨i3, hi3, hz3a, hz3b, hz3c⟩ := info_parts info3
  have hBb := hb.blk
  have hBlt := hBb.lt
  have hle := hb.le
  have c0 : w.cell? ⟨B, 0, none⟩ = some (.int .i64 (n : Int)) := hBb.cell 0
  have f0 : w.frozen? ⟨B, 0, none⟩ = false := hBb.frozen 0
  obtain ⟨a, cap, rfl, _, hmax, hcap⟩ := own_shape hv
  obtain ⟨v, hvv⟩ : ∃ v, Value.slice a m cap = v := ⟨_, rfl⟩
  rw [hvv] at hv hfar
  have HVV : Hid (Value.slice a m cap = v) := hvv
  clear hvv
  have hfr0 := ((Fr.refl base v w).setCell (B := B) (i := 0) (.int .i64 ((n : Int) + 1)) hle (.inr (.inr ⟨_, _, _, hBb, by decide⟩))).alloc (by simp; omega) (.cells #[.int .i64 (-((n : Int) + 1)), .int .i64 0] 34)
  have hbB0 : Blk ((w.setCell ⟨B, 0, none⟩ (.int .i64 ((n : Int) + 1))).alloc (.cells #[.int .i64 (-((n : Int) + 1)), .int .i64 0] 34)) B 39 (bkCells ((n : Int) + 1) came kc yc cv cn) := (hBb.set 0 _).alloc _
  have hbM0 := Blk.new (w.setCell ⟨B, 0, none⟩ (.int .i64 ((n : Int) + 1))) 34 #[.int .i64 (-((n : Int) + 1)), .int .i64 0]
  have hv0 := (own_other (i := 0) hv hBb (by decide) (.int .i64 ((n : Int) + 1))).alloc (.cells #[.int .i64 (-((n : Int) + 1)), .int .i64 0] 34)
  have hC0 := (own_other (i := 0) hb.rowC hBb (by decide) (.int .i64 ((n : Int) + 1))).alloc (.cells #[.int .i64 (-((n : Int) + 1)), .int .i64 0] 34)
  have hN0 := (own_other (i := 0) hb.rowN hBb (by decide) (.int .i64 ((n : Int) + 1))).alloc (.cells #[.int .i64 (-((n : Int) + 1)), .int .i64 0] 34)
  have hsz : (w.setCell ⟨B, 0, none⟩ (.int .i64 ((n : Int) + 1))).heap.size = w.heap.size := by simp
  rw [hsz] at hbM0
  have hvM : ∀ j, v.ownBlock = some j → j < w.heap.size := fun j hj => (hv.lt j hj).2
  go_enter Try.func34, Try.ntmps34
  go_wp2
  obtain ⟨W1, hW1⟩ : ∃ W1, ((w.setCell ⟨B, 0, none⟩ (.int .i64 ((n : Int) + 1))).alloc (.cells #[.int .i64 (-((n : Int) + 1)), .int .i64 0] 34)) = W1 := ⟨_, rfl⟩
  rw [hW1] at hfr0 hbB0 hbM0 hv0 hC0 hN0 ⊢
  have hs1 : W1.heap.size = w.heap.size + 1 := by rw [← hW1]; simp
  clear hW1 c0 f0 hsz
  have HENT : Hid (∀ e ∈ E, Ent w 8 e) := hb.ent
  have HFAR : Hid (∀ e ∈ E, ∀ j, e.1.ownBlock = some j → v.ownBlock ≠ some j) := hfar
  clear hBb hb hv hfar
  obtain ⟨μ, hμ⟩ : ∃ μ : Int, -((n : Int) + 1) = μ := ⟨_, rfl⟩
  rw [hμ] at hbM0 ⊢
  have HMU : Hid (-((n : Int) + 1) = μ) := hμ
  clear hμ
  obtain ⟨n1, hn1⟩ : ∃ n1 : Int, (n : Int) + 1 = n1 := ⟨_, rfl⟩
  rw [hn1] at hbB0 ⊢
  have HN1 : Hid ((n : Int) + 1 = n1) := hn1
  clear hn1
  go_loopw [5] (fun x wr => ∃ (i : Nat) (ys : List Value), x = .int .i64 (i : Int) ∧ i ≤ m ∧ wr.ownsRow base 34 2 v m ys ∧ Hid (Marks ys i μ) ∧ Blk wr B 39 (bkCells n1 came kc yc cv cn) ∧ Blk wr w.heap.size 34 #[.int .i64 μ, .int .i64 0] ∧ wr.ownsRow base 25 1 cv E.length (E.map (·.1)) ∧ wr.ownsRow base 3 1 cn E.length (E.map fun e => .int .i64 e.2) ∧ Fr base v w wr ∧ w.heap.size + 1 ≤ wr.heap.size) (fun x _ => m - (intOf x).toNat)
  case atStart => exact ⟨0, xs, rfl, by omega, hv0, fun j h => by omega, hbB0, hbM0, hC0, hN0, hfr0, by omega⟩
  case round =>
    clear hv0 hbB0 hbM0 hC0 hN0 hfr0
    obtain ⟨i, ys, rfl, hi, hvr, hmk, hbB, hbM, hC, hN, hfr, hsz⟩ := hrel
    have m0 : wr.cell? ⟨w.heap.size, 0, none⟩ = some (.int .i64 μ) := hbM.cell 0
    have m1 : wr.cell? ⟨w.heap.size, 1, none⟩ = some (.int .i64 0) := hbM.cell 1
    by_cases hlt : i < m
    · have hlt' : (i : Int) < (m : Int) := by omega
      obtain ⟨g, c1, e1, hg0, hg⟩ := hvr.form (by omega)
      rw [← HVV.out] at e1
      cases e1
      have hgM : g < w.heap.size := hvM g (by rw [← HVV.out]; rfl)
      rw [← HVV.out] at hvr
      have hyl := hvr.1
      obtain ⟨x0, h0⟩ : ∃ x0, ys[i * 2]? = some x0 := ⟨_, List.getElem?_eq_getElem (by omega)⟩
      obtain ⟨x1, h1⟩ : ∃ x1, ys[i * 2 + 1]? = some x1 := ⟨_, List.getElem?_eq_getElem (by omega)⟩
      have a0 := (own_cell hvr (i * 2) (by omega)).1
      have a1 := (own_cell hvr (i * 2 + 1) (by omega)).1
      have fa0 := (own_cell hvr (i * 2) (by omega)).2
      have fa1 := (own_cell hvr (i * 2 + 1) (by omega)).2
      rw [h0] at a0
      rw [h1] at a1
      have hown2 := own_set (own_set hvr (i * 2) (.int .i64 μ)) (i * 2 + 1) (.int .i64 0)
      have hmk2 : Hid (Marks ((ys.set (i * 2) (.int .i64 μ)).set (i * 2 + 1) (.int .i64 0)) (i + 1) μ) := hmk.out.step (by omega)
      clear h0 h1 hmk
      go_wp2
      go_roundw
      case rel =>
        have hgB : g ≠ B := fun e => by
          obtain ⟨_, cs, h⟩ := own_tagged hvr (j := g) rfl
          exact tag_ne hbB h (by decide) e
        refine ⟨i + 1, _, by go_num, by omega, by rw [← HVV.out]; exact hown2, hmk2, (hbB.other (Ne.symm hgB) _ _).other (Ne.symm hgB) _ _, (hbM.other (by omega) _ _).other (by omega) _ _, ?_, ?_, ?_, by simp; omega⟩
        · obtain ⟨_, cs, h⟩ := own_tagged hvr (j := g) rfl
          exact own_other (own_other hC h (by decide) _) (Blk.set h _ _) (by decide) _
        · obtain ⟨_, cs, h⟩ := own_tagged hvr (j := g) rfl
          exact own_other (own_other hN h (by decide) _) (Blk.set h _ _) (by decide) _
        · exact (hfr.setCell _ hg0 (.inl (by rw [← HVV.out]; rfl))).setCell _ hg0 (.inl (by rw [← HVV.out]; rfl))
      case measure => simp [intOf]; omega
    · have hlt' : decide ((i : Int) < (m : Int)) = false := by simp; omega
      have hlt2 : decide (i < m) = false := by simp; omega
      have hmk2 : Hid (Marks ys m μ) := by
        have : i = m := by omega
        rw [this] at hmk; exact hmk
      have HNEG : Hid (IntKind.i64.wrap (-n1) = μ ∧ wrap64 (-n1) = μ) := by show _ ∧ _; rw [← HN1.out, ← HMU.out]; exact neg_wrap n hn
      clear hmk m0 m1 hlt
      have st : L2 w wr base B came m n1 μ kc yc v E [] 0 (.slice a m cap) cv cn ys :=
        ⟨rfl, by rw [HVV.out]; exact hvr, hmk2.out, fun j hj => .inl (by rw [← HVV.out]; exact hj), hbB, hbM, by rw [List.append_nil]; exact hC, by rw [List.append_nil]; exact hN, fun e he => by (cases he), hfr, hsz⟩
      clear hvr hmk2 hbB hbM hC hN hfr hsz
      go_wp2
      clear hlt' hlt2
      go_loopw [1, 6] (fun s x wr => ∃ (k : Nat) (E1 : List (Value × Int)) (cv cn : Value) (ys : List Value), x = .int .i64 (k : Int) ∧ k ≤ 4 ∧ L2 w wr base B came m n1 μ kc yc v E E1 k s cv cn ys) (fun _ x _ => 4 - (intOf x).toNat)
      case atStart => exact ⟨0, [], cv, cn, ys, rfl, by omega, st⟩
      case round =>
        clear st ys
        obtain ⟨k, E1, cv, cn, ys, rfl, hk, st⟩ := hrel
        by_cases hlt : k < 4
        · have hlt' : (k : Int) < 4 := by omega
          have hwr := st.size
          have hbB := st.book
          have hC := st.rowC
          obtain ⟨a', cap', hu, _, _, _⟩ := own_shape st.row
          subst hu
          have c7 : wr.cell? ⟨B, 7, none⟩ = some cv := hbB.cell 7
          have hneC : ∀ j, cv.ownBlock = some j → j ≠ B := fun j hj => by
            obtain ⟨_, cs, h⟩ := own_tagged hC hj
            exact tag_ne hbB h (by decide)
          go_wp2_with (at_builtin; refine wpList_append_lies _ rfl (.tmp 38) (.tmp 40) 36 rfl base 25 i25 _ 1 24 Try.underlying36 hi25 hz25a hz25b hz25c rfl (by omega) _ (E.length + k) _ rfl (hC.alloc _) ⟨wr.heap.size, 0, none⟩ 1 1 [.slice a' (m + k) cap'] rfl rfl (World.news_of_block (cs := #[.slice a' (m + k) cap']) (t := 25) (fr := (0, 0)) (heap_alloc_new wr _)) (by simp [Value.oneCell']) (by omega) (by unfold maxLen; omega) (by omega) (by simp; omega) (wr.heap.size + 1) (by simp) ?_; intro gC capC w2 hC2 hgC hatC hltC; have hB2 : Blk w2 B 39 (bkCells n1 came kc yc cv cn) := (hbB.alloc _).grown hgC hneC; have d7 : w2.cell? ⟨B, 7, none⟩ = some cv := hB2.cell 7; have g7 : w2.frozen? ⟨B, 7, none⟩ = false := hB2.frozen 7)
          obtain ⟨newC, hnC⟩ : ∃ newC, Value.slice (some ⟨gC, 0, none⟩) (E.length + k + 1) capC = newC := ⟨_, rfl⟩
          rw [hnC] at hC2 ⊢
          clear hnC
          have hfrA := (((Fr.refl base (.slice none 0 0) wr).alloc (by omega) (.cells #[.slice a' (m + k) cap'] 25)).grown hgC (by simp; omega) (fun j hj => by
            obtain ⟨hbj, cs, h⟩ := own_tagged hC hj
            exact ⟨hbj, .inr (.inr ⟨cs, 25, (0, 0), (Below.heap_alloc wr _ j (Array.getElem?_eq_some_iff.1 h).1).trans h, by decide⟩)⟩)).setCell (B := B) (i := 7) newC hle (.inr (.inr ⟨_, _, _, hB2, by decide⟩))
          have hbB2 : Blk (w2.setCell ⟨B, 7, none⟩ newC) B 39 (bkCells n1 came kc yc newC cn) := hB2.set 7 newC
          have hC3 := own_other (i := 7) hC2 hB2 (by decide) newC
          have hN2 := own_other (i := 7) (own_grown (st.rowN.alloc (.cells #[.slice a' (m + k) cap'] 25)) hgC (fun j hj => by
            obtain ⟨_, cs, h⟩ := own_tagged hC hj
            exact .inr ⟨cs, 25, (0, 0), (Below.heap_alloc wr _ j (Array.getElem?_eq_some_iff.1 h).1).trans h, by decide⟩)) hB2 (by decide) newC
          clear hC2 hgC hatC hltC hB2 d7 g7 c7 hneC hC hbB
          obtain ⟨W2, hW2⟩ : ∃ W2, w2.setCell ⟨B, 7, none⟩ newC = W2 := ⟨_, rfl⟩
          rw [hW2] at hfrA hbB2 hC3 hN2 ⊢
          clear hW2
          have hs2 : wr.heap.size ≤ W2.heap.size := hfrA.low.size
          have hneN : ∀ j, cn.ownBlock = some j → j ≠ B := fun j hj => by
            obtain ⟨_, cs, h⟩ := own_tagged hN2 hj
            exact tag_ne hbB2 h (by decide)
          have hBW2 : B < W2.heap.size := hbB2.lt
          have c8 : W2.cell? ⟨B, 8, none⟩ = some cn := hbB2.cell 8
          have c0 : W2.cell? ⟨B, 0, none⟩ = some (.int .i64 n1) := hbB2.cell 0
          go_cut [6] (fun x wx => x = .int .i64 (k : Int) ∧ ∃ newN, Blk wx B 39 (bkCells n1 came kc yc newC newN) ∧ wx.ownsRow base 25 1 newC (E.length + k + 1) ((E ++ E1).map (·.1) ++ [.slice a' (m + k) cap']) ∧ wx.ownsRow base 3 1 newN (E.length + k + 1) (((E ++ E1).map fun e => .int .i64 e.2) ++ [.int .i64 μ]) ∧ Fr base (.slice none 0 0) wr wx)
          case first =>
            go_region_law (refine step_append_lies _ (by rfl) _ _ _ (by rfl) base 3 i3 _ 1 8 Try.underlying23 hi3 hz3a hz3b hz3c rfl (by omega) cn (E.length + k) _ (by rfl) ((hN2.alloc _).drew) ⟨W2.heap.size, 0, none⟩ 1 1 [.int .i64 (IntKind.i64.wrap (-n1))] (by rfl) (by rfl) (World.news_of_block (cs := #[.int .i64 (IntKind.i64.wrap (-n1))]) (t := 3) (fr := (0, 0)) (heap_alloc_new W2 _)) (by simp [Value.oneCell']) (by omega) (by unfold maxLen; omega) (by omega) (by simp; omega) (W2.heap.size + 1) (by simp) ?_; intro gN capN w3 hN3 hgN hatN hltN; have hB3 : Blk w3 B 39 (bkCells n1 came kc yc newC cn) := ((hbB2.alloc _).drew).grown hgN hneN; have d0 : w3.cell? ⟨B, 0, none⟩ = some (.int .i64 n1) := hB3.cell 0; have d8 : w3.cell? ⟨B, 8, none⟩ = some cn := hB3.cell 8; have g8 : w3.frozen? ⟨B, 8, none⟩ = false := hB3.frozen 8)
            all_goals
              go_wp2_with fail
              go_meet
              case rel =>
                refine ⟨rfl, _, hB3.set 8 _, ?_, ?_, ?_⟩
                · refine own_other (own_grown ((hC3.alloc _).drew) hgN fun j hj => ?_) hB3 (by decide) _
                  obtain ⟨_, cs, h⟩ := own_tagged ((hN2.alloc _).drew) hj
                  exact .inr ⟨cs, 3, (0, 0), h, by decide⟩
                · rw [← HNEG.out.1]
                  exact own_other hN3 hB3 (by decide) _
                · refine Fr.setCell (((hfrA.alloc (by omega) _).drew).grown hgN (by simp; omega) fun j hj => ?_) _ hle (.inr (.inr ⟨_, _, _, hB3, by decide⟩))
                  obtain ⟨hbj, cs, h⟩ := own_tagged ((hN2.alloc _).drew) hj
                  exact ⟨hbj, .inr (.inr ⟨cs, 3, (0, 0), h, by decide⟩)⟩
          case rest =>
            clear hfrA hbB2 hC3 hN2 hneN c8 c0 hBW2
            obtain ⟨rfl, newN, hbB3, hC4, hN4, hfrB⟩ := hcut
            have hrow := own_fr hfrB st.row (fun j _ => by simp [Value.ownBlock])
            have hM : Blk wc w.heap.size 34 #[.int .i64 μ, .int .i64 0] := hfrB.cells _ _ st.mark (by simp [Value.ownBlock])
            have hMlt := hM.lt
            have hsc : wr.heap.size ≤ wc.heap.size := hfrB.low.size
            have m0 : wc.cell? ⟨w.heap.size, 0, none⟩ = some (.int .i64 μ) := hM.cell 0
            have m1 : wc.cell? ⟨w.heap.size, 1, none⟩ = some (.int .i64 0) := hM.cell 1
            go_wp2_with (at_builtin; refine wpList_append_old _ rfl (.tmp 58) (.tmp 60) 25 rfl base 34 i34 _ 2 16 Try.underlying25 hi34 hz34a hz34b hz34c rfl (by omega) _ (m + k) _ rfl (hrow.alloc _) ⟨wc.heap.size, 0, none⟩ 1 1 [.int .i64 μ, .int .i64 0] rfl rfl (World.news_of_block (cs := #[.int .i64 μ, .int .i64 0]) (t := 34) (fr := (0, 0)) (heap_alloc_new wc _)) (by simp [Value.oneCell']) (by omega) (by unfold maxLen; omega) (by omega) (by simp; omega) (wc.heap.size + 1) (by simp) ?_; intro gL capL w4 hL hgL hatL hltL holdL)
            go_wp2
            go_roundw
            case rel =>
              have htag : ∀ j, (Value.slice a' (m + k) cap').ownBlock = some j → base ≤ j ∧ ∃ cs, (wc.alloc (.cells #[.int .i64 μ, .int .i64 0] 34)).heap[j]? = some (.cells cs 34 (0, 0)) := fun j hj => own_tagged (hrow.alloc _) hj
              refine ⟨k + 1, E1 ++ [(.slice a' (m + k) cap', μ)], newC, newN, ys ++ [.int .i64 μ, .int .i64 0], by go_num, by omega, ?_⟩
              refine ⟨by simp [st.len], hL, st.marks.snoc st.row.1, ?_, ?_, ?_, ?_, ?_, ?_, ?_, ?_⟩
              · intro j hj
                simp only [Value.ownBlock, Option.some.injEq] at hj
                subst hj
                rcases hatL with h | h
                · exact st.far gL h
                · exact .inr (by omega)
              · exact (hbB3.alloc _).grown hgL fun j hj => by
                  obtain ⟨_, cs, h⟩ := htag j hj
                  exact tag_ne (hbB3.alloc _) h (by decide)
              · exact (hM.alloc _).grown hgL fun j hj => by
                  rcases st.far j hj with h | h
                  · have := hvM j h; omega
                  · omega
              · have := own_grown (hC4.alloc _) hgL fun j hj => by
                  obtain ⟨_, cs, h⟩ := htag j hj
                  exact .inr ⟨cs, 34, (0, 0), h, by decide⟩
                rw [← List.append_assoc, List.map_append (l₁ := E ++ E1)]
                exact this
              · have := own_grown (hN4.alloc _) hgL fun j hj => by
                  obtain ⟨_, cs, h⟩ := htag j hj
                  exact .inr ⟨cs, 34, (0, 0), h, by decide⟩
                rw [← List.append_assoc, List.map_append (l₁ := E ++ E1)]
                exact this
              · intro e he
                have hal : Below wc.heap.size wc (wc.alloc (.cells #[.int .i64 μ, .int .i64 0] 34)) := (Below.refl _ _).alloc (Nat.le_refl _) _
                rcases List.mem_append.1 he with he | he
                · obtain ⟨q1, q2, q3⟩ := st.ent e he
                  have q4 := ent_fr hfrB q2 (fun j _ => by simp [Value.ownBlock])
                  have q5 := q4.keep (W' := wc.alloc (.cells #[.int .i64 μ, .int .i64 0] 34)) (Nat.le_refl _) fun g _ _ h2 => (hal.block g (Array.getElem?_eq_some_iff.1 h2).1).trans h2
                  exact ⟨q1, ent_append q5 q1 (Nat.le_refl _) st.marks hgL holdL, q3⟩
                · rw [List.mem_singleton.1 he]
                  exact ⟨rfl, ent_append (ent_self (hrow.alloc _) st.marks) rfl (Nat.le_refl _) st.marks hgL holdL, st.far⟩
              · refine ((st.fr.trans hfrB.weaken).alloc (by omega) _).grown hgL (by simp; omega) fun j hj => ?_
                refine ⟨(htag j hj).1, ?_⟩
                rcases st.far j hj with h | h
                · exact .inl h
                · exact .inr (.inl (by omega))
              · have := hgL.size
                simp at this
                omega
            case measure => simp [intOf]; omega
        · have hk4 : k = 4 := by omega
          have hlt' : decide ((k : Int) < 4) = false := by simp; omega
          have hlt2 : decide (k < 4) = false := by simp; omega
          clear hlt
          go_wp2
          refine bodyPost_end (v := .tuple #[]) (by simp [results, Try.results34]) rfl ⟨rfl, cv, cn, E1, ?_, by rw [st.len, hk4], ?_, by rw [HVV.out]; exact st.fr⟩
          · refine ⟨hle, ?_, ?_, ?_, ?_⟩
            · have := st.book
              rw [← HN1.out] at this
              exact this
            · rw [List.length_append, st.len]; exact st.rowC
            · rw [List.length_append, st.len]; exact st.rowN
            · intro e he
              rcases List.mem_append.1 he with he | he
              · exact ent_fr st.fr (HENT.out e he) (HFAR.out e he)
              · exact (st.ent e he).2.1.keep (by omega) fun g cur _ h => h
          · intro e he j hj
            rw [HVV.out]
            rcases (st.ent e he).2.2 j hj with h | h
            · exact .inl h
            · exact .inr (by omega)
end Go.Proofs.Ytdgbgmffpcooeaa
