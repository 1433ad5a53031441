/- Xb2 -/
import Derived.Test.YtdgbgmffpcooeaaGreatU43
namespace Go.Proofs.YtdgbgmffpcooeaaGreat
open Go.RowKit
section
set_option maxRecDepth 100000 in
set_option maxHeartbeats 4000000 in
theorem markI_any (w : World) (base B n came : Nat) (ki yi iv inn : Value) (E : List (Value × Int)) (hb : BkI w base B n came ki yi iv inn E) (v : Value) (m : Nat) (xs : List Value) (hv : w.ownsRow base 3 1 v m xs) (hm : m ≤ 1000)
  (hfar : ∀ e ∈ E, ∀ j,e.1.ownBlock = some j → v.ownBlock ≠ some j) (hvn : ∀ j,inn.ownBlock = some j → v.ownBlock ≠ some j) (hn : n ≤ 1073741824) (hE : E.length ≤ 1073741824) :
  Calls Tryz.prog 69 #[.pointer (some ⟨B, 0,none⟩),v] w fun e w' => e = .returned (.tuple #[]) ∧ ∃ iv' in' E1,BkI w' base B (n + 1) came ki yi iv' in' (E ++ E1) ∧ E1.length = 4 ∧ (∀ e ∈ E1, ∀ j,e.1.ownBlock = some j → v.ownBlock = some j ∨ w.heap.size ≤ j) ∧ (∀ j,iv'.ownBlock = some j → iv.ownBlock = some j ∨ w.heap.size ≤ j) ∧ (∀ j,in'.ownBlock = some j → inn.ownBlock = some j ∨ w.heap.size ≤ j) ∧ Off (fun j => j = B ∨ v.ownBlock = some j ∨ iv.ownBlock = some j ∨ inn.ownBlock = some j) w w' := by
 obtain ⟨i35,hi35,hz35a,hz35b,hz35c⟩ := info_parts info35
 obtain ⟨i3,hi3,hz3a,hz3b,hz3c⟩ := info_parts info3
 have hBb := hb.blk
 have hBlt := hBb.lt
 have hle := hb.le
 have c0 : w.cell? ⟨B, 0,none⟩ = some (.int .i64 (n : Int)) := hBb.cell 0
 have f0 : w.frozen? ⟨B, 0,none⟩ = false := hBb.frozen 0
 obtain ⟨a,cap,rfl,_,hmax,hcap⟩ := own_shape hv
 obtain ⟨v,hvv⟩ : ∃ v,Value.slice a m cap = v := ⟨_,rfl⟩
 rw [hvv] at hv hfar hvn
 have HVV : Hid (Value.slice a m cap = v) := hvv
 clear hvv
 have ho0 : Off (fun j => j = B ∨ v.ownBlock = some j ∨ iv.ownBlock = some j ∨ inn.ownBlock = some j) w (w.setCell ⟨B, 0,none⟩ (.int .i64 ((n : Int) + 1))) := (Off.refl _ w).setCell _ (.inl (.inl rfl))
 have hbB0 : Blk (w.setCell ⟨B, 0,none⟩ (.int .i64 ((n : Int) + 1))) B 44 (bkI ((n : Int) + 1) came ki yi iv inn) := hBb.set 0 _
 have hv0 := own_other (i := 0) hv hBb (by decide) (.int .i64 ((n : Int) + 1))
 have hI0 := own_other (i := 0) hb.rowI hBb (by decide) (.int .i64 ((n : Int) + 1))
 have hN0 := own_other (i := 0) hb.rowN hBb (by decide) (.int .i64 ((n : Int) + 1))
 have hvM : ∀ j,v.ownBlock = some j → j < w.heap.size := fun j hj => own_lt2 hv hj
 have hIM : ∀ j,iv.ownBlock = some j → j < w.heap.size := fun j hj => own_lt2 hb.rowI hj
 have HBK : Hid (BkI w base B n came ki yi iv inn E) := hb
 have HNM : Hid (∀ j,inn.ownBlock = some j → j < w.heap.size) := fun j hj => own_lt2 hb.rowN hj
 have HFAR : Hid (∀ e ∈ E, ∀ j,e.1.ownBlock = some j → v.ownBlock ≠ some j) := hfar
 have HVN : Hid (∀ j,inn.ownBlock = some j → v.ownBlock ≠ some j) := hvn
 have HIT : Hid (∀ j,iv.ownBlock = some j → ∃ cs,w.heap[j]? = some (.cells cs 35 (0, 0))) := fun j hj => (own_tagged hb.rowI hj).2
 clear hBb hb hv hfar hvn
 go_enter Tryz.func69,Tryz.ntmps69
 go_wp2
 obtain ⟨W1,hW1⟩ : ∃ W1,w.setCell ⟨B, 0,none⟩ (.int .i64 ((n : Int) + 1)) = W1 := ⟨_,rfl⟩
 rw [hW1] at ho0 hbB0 hv0 hI0 hN0 ⊢
 clear hW1 c0 f0
 obtain ⟨μ,hμ⟩ : ∃ μ : Int, -((n : Int) + 1) = μ := ⟨_,rfl⟩
 have HMU : Hid (-((n : Int) + 1) = μ) := hμ
 clear hμ
 obtain ⟨n1,hn1⟩ : ∃ n1 : Int,(n : Int) + 1 = n1 := ⟨_,rfl⟩
 rw [hn1] at hbB0
 have HN1 : Hid ((n : Int) + 1 = n1) := hn1
 clear hn1
 have hneg : wrap64 (-n1) = μ := by rw [← HN1.out, ← HMU.out]; exact (neg_wrapI n hn).2
 have hneg2 : IntKind.i64.wrap (-n1) = μ := by rw [← HN1.out, ← HMU.out]; exact (neg_wrapI n hn).1
 go_loopw [4] (fun x wr => ∃ (i : Nat) (ys : List Value),x = .int .i64 (i : Int) ∧ i ≤ m ∧ wr.ownsRow base 3 1 v m ys ∧ Hid (MarkI ys i μ) ∧ Blk wr B 44 (bkI n1 came ki yi iv inn) ∧ wr.ownsRow base 35 1 iv E.length (E.map (·.1)) ∧ wr.ownsRow base 3 1 inn E.length (E.map fun e => .int .i64 e.2) ∧ Off (fun j => j = B ∨ v.ownBlock = some j ∨ iv.ownBlock = some j ∨ inn.ownBlock = some j) w wr) (fun x _ => m - (intOf x).toNat)
 case atStart => exact ⟨0,xs,rfl,by omega,hv0,fun j h => by omega,hbB0,hI0,hN0,ho0⟩
 case round =>
  clear hv0 hbB0 hI0 hN0 ho0
  obtain ⟨i,ys,rfl,hi,hvr,hmk,hbB,hI,hN,hoff⟩ := hrel
  have hsz := hoff.size
  by_cases hlt : i < m
  ·have hlt' : (i : Int) < (m : Int) := by omega
   have m0 : wr.cell? ⟨B, 0,none⟩ = some (.int .i64 n1) := hbB.cell 0
   have hBw := hbB.lt
   obtain ⟨g,c1,e1,hg0,hg⟩ := hvr.form (by omega)
   rw [← HVV.out] at e1
   cases e1
   have hgM : g < w.heap.size := hvM g (by rw [← HVV.out]; rfl)
   rw [← HVV.out] at hvr
   have hyl := hvr.1
   obtain ⟨x0,h0⟩ : ∃ x0,ys[i]? = some x0 := ⟨_,List.getElem?_eq_getElem (by omega)⟩
   have a0 := (own_cell hvr i (by omega)).1
   have fa0 := (own_cell hvr i (by omega)).2
   rw [h0] at a0
   have hown2 := own_set hvr i (.int .i64 μ)
   have hmk2 : Hid (MarkI (ys.set i (.int .i64 μ)) (i + 1) μ) := hmk.out.step (by omega)
   clear h0 hmk
   go_wp2
   go_roundw
   case rel =>
    have hgB : g ≠ B := fun e => by
     obtain ⟨_,cs,h⟩ := own_tagged hvr (j := g) rfl
     exact tag_ne hbB h (by decide) e
    refine ⟨i + 1,_,by go_num,by omega,by rw [← HVV.out]; exact hown2,hmk2,hbB.other (Ne.symm hgB) _ _, ?_, ?_, ?_⟩
    ·obtain ⟨_,cs,h⟩ := own_tagged hvr (j := g) rfl
     exact own_other hI h (by decide) _
    ·exact own_far hN (fun e => HVN.out g e (by rw [← HVV.out]; rfl)) _
    ·exact hoff.setCell _ (.inl (.inr (.inl (by rw [← HVV.out]; rfl))))
   case measure => simp [intOf]; omega
  ·have hlt' : decide ((i : Int) < (m : Int)) = false := by simp; omega
   have hlt2 : decide (i < m) = false := by simp; omega
   have hmk2 : Hid (MarkI ys m μ) := by
    have : i = m := by omega
    rw [this] at hmk; exact hmk
   clear hmk hlt
   have st : LI w wr base B came m n1 μ ki yi v iv inn E [] 0 (.slice a m cap) iv inn ys :=
    ⟨rfl,by rw [HVV.out]; exact hvr,hmk2.out,fun j hj => .inl (by rw [← HVV.out]; exact hj),fun j hj => .inl hj,fun j hj => .inl hj,fun j hj => by rw [HVV.out]; exact HVN.out j hj,fun e he => by (cases he),hbB,by rw [List.append_nil]; exact hI,by rw [List.append_nil]; exact hN,fun e he => by (cases he),hoff⟩
   clear hvr hmk2 hbB hI hN hoff hsz
   go_wp2
   clear hlt' hlt2
   go_loopw [1, 5] (fun s x wr => ∃ (k : Nat) (E1 : List (Value × Int)) (iv' in' : Value) (ys : List Value),x = .int .i64 (k : Int) ∧ k ≤ 4 ∧ LI w wr base B came m n1 μ ki yi v iv inn E E1 k s iv' in' ys) (fun _ x _ => 4 - (intOf x).toNat)
   case atStart => exact ⟨0, [],iv,inn,ys,rfl,by omega,st⟩
   case round =>
    clear st ys
    obtain ⟨k,E1,cv,cn,ys,rfl,hk,st⟩ := hrel
    by_cases hlt : k < 4
    ·have hlt' : (k : Int) < 4 := by omega
     have hwr := st.off.size
     have hbB := st.book
     have hC := st.rowI
     obtain ⟨a',cap',hu,_,_,_⟩ := own_shape st.row
     subst hu
     have c9 : wr.cell? ⟨B, 9,none⟩ = some cv := hbB.cell 9
     have hneC : ∀ j,cv.ownBlock = some j → j ≠ B := fun j hj => by
      obtain ⟨_,cs,h⟩ := own_tagged hC hj
      exact tag_ne hbB h (by decide)
     have hBw := hbB.lt
     have HST : Hid (LI w wr base B came m n1 μ ki yi v iv inn E E1 k (.slice a' (m + k) cap') cv cn ys) := st
     clear st
     go_upto_region 9 with (at_builtin; refine wpList_append_lies _ rfl (.tmp 35) (.tmp 37) 42 rfl base 35 i35 _ 1 24 Tryz.underlying42 hi35 hz35a hz35b hz35c rfl (by omega) _ (E.length + k) _ rfl (hC.alloc _) ⟨wr.heap.size, 0,none⟩ 1 1 [.slice a' (m + k) cap'] rfl rfl (World.news_of_block (cs := #[.slice a' (m + k) cap']) (t := 35) (fr := (0, 0)) (heap_alloc_new wr _)) (by simp [Value.oneCell']) (by omega) (by unfold maxLen; omega) (by omega) (by simp; omega) (wr.heap.size + 1) (by simp) ?_; intro gC capC w2 hC2 hgC hatC hltC; have hB2 : Blk w2 B 44 (bkI n1 came ki yi cv cn) := (hbB.alloc _).grown hgC hneC; have d9 : w2.cell? ⟨B, 9,none⟩ = some cv := hB2.cell 9; have g9 : w2.frozen? ⟨B, 9,none⟩ = false := hB2.frozen 9)
     obtain ⟨newC,hnC⟩ : ∃ newC,Value.slice (some ⟨gC, 0,none⟩) (E.length + k + 1) capC = newC := ⟨_,rfl⟩
     have hnewC : ∀ j,newC.ownBlock = some j → cv.ownBlock = some j ∨ wr.heap.size ≤ j := fun j hj => by
      rw [← hnC] at hj
      simp only [Value.ownBlock,Option.some.injEq] at hj
      subst hj
      exact hatC.imp id (fun h => by omega)
     rw [hnC] at hC2 ⊢
     clear hnC
     have oA : Off (fun j => cv.ownBlock = some j) wr w2 := ((Off.refl _ wr).alloc _).grown hgC (fun j hj => .inl hj)
     have oB : Off (fun j => j = B ∨ cv.ownBlock = some j) wr (w2.setCell ⟨B, 9,none⟩ newC) := (oA.mono (fun j _ h => .inr h)).setCell _ (.inl (.inl rfl))
     have hbB2 : Blk (w2.setCell ⟨B, 9,none⟩ newC) B 44 (bkI n1 came ki yi newC cn) := hB2.set 9 newC
     have hC3 := own_other (i := 9) hC2 hB2 (by decide) newC
     have nN : ∀ j,cn.ownBlock = some j → ¬ (j = B ∨ cv.ownBlock = some j) := fun j hj h => by
      obtain ⟨_,cs,h1⟩ := own_tagged HST.out.rowN hj
      rcases h with h | h
      ·exact tag_ne hbB h1 (by decide) h
      ·obtain ⟨_,cs',h2⟩ := own_tagged hC h
       rw [h1] at h2; simp at h2
     have hN2 := own_offv HST.out.rowN oB nN
     have nU : ∀ j,(Value.slice a' (m + k) cap').ownBlock = some j → ¬ (j = B ∨ cv.ownBlock = some j) := fun j hj h => by
      obtain ⟨_,cs,h1⟩ := own_tagged HST.out.row hj
      rcases h with h | h
      ·exact tag_ne hbB h1 (by decide) h
      ·obtain ⟨_,cs',h2⟩ := own_tagged hC h
       rw [h1] at h2; simp at h2
     have hU2 := own_offv HST.out.row oB nU
     clear hC2 hgC hatC hltC hB2 d9 g9 c9 hneC oA
     obtain ⟨W2,hW2⟩ : ∃ W2,w2.setCell ⟨B, 9,none⟩ newC = W2 := ⟨_,rfl⟩
     rw [hW2] at oB hbB2 hC3 hN2 hU2 ⊢
     clear hW2
     have hs2 : wr.heap.size ≤ W2.heap.size := oB.size
     have hneN : ∀ j,cn.ownBlock = some j → j ≠ B := fun j hj => by
      obtain ⟨_,cs,h⟩ := own_tagged hN2 hj
      exact tag_ne hbB2 h (by decide)
     have hBW2 : B < W2.heap.size := hbB2.lt
     have c10 : W2.cell? ⟨B, 10,none⟩ = some cn := hbB2.cell 10
     have c0 : W2.cell? ⟨B, 0,none⟩ = some (.int .i64 n1) := hbB2.cell 0
     have HOB : Hid (Off (fun j => j = B ∨ cv.ownBlock = some j) wr W2) := oB
     have HC3 : Hid (W2.ownsRow base 35 1 newC (E.length + k + 1) ((E ++ E1).map (·.1) ++ [.slice a' (m + k) cap'])) := hC3
     have HU2 : Hid (W2.ownsRow base 3 1 (.slice a' (m + k) cap') (m + k) ys) := hU2
     have HNC : Hid (∀ j,newC.ownBlock = some j → cv.ownBlock = some j ∨ wr.heap.size ≤ j) := hnewC
     clear oB hC3 hU2 hnewC nN nU hbB hC
     go_cut [5] (fun x wx => x = .int .i64 (k : Int) ∧ ∃ newN,Blk wx B 44 (bkI n1 came ki yi newC newN) ∧ wx.ownsRow base 3 1 newN (E.length + k + 1) (((E ++ E1).map fun e => .int .i64 e.2) ++ [.int .i64 μ]) ∧ (∀ j,newN.ownBlock = some j → cn.ownBlock = some j ∨ W2.heap.size ≤ j) ∧ Off (fun j => j = B ∨ cn.ownBlock = some j) W2 wx)
     case first =>
      go_region_law (refine step_append_lies _ (by rfl) _ _ _ (by rfl) base 3 i3 _ 1 8 Tryz.underlying35 hi3 hz3a hz3b hz3c rfl (by omega) cn (E.length + k) _ (by rfl) ((hN2.alloc _).drew) ⟨W2.heap.size, 0,none⟩ 1 1 [.int .i64 μ] (by rfl) (by rfl) (World.news_of_block (cs := #[.int .i64 μ]) (t := 3) (fr := (0, 0)) (heap_alloc_new W2 _)) (by simp [Value.oneCell']) (by omega) (by unfold maxLen; omega) (by omega) (by simp; omega) (W2.heap.size + 1) (by simp) ?_; intro gN capN w3 hN3 hgN hatN hltN; have hB3 : Blk w3 B 44 (bkI n1 came ki yi newC cn) := ((hbB2.alloc _).drew).grown hgN hneN; have d0 : w3.cell? ⟨B, 0,none⟩ = some (.int .i64 n1) := hB3.cell 0; have d10 : w3.cell? ⟨B, 10,none⟩ = some cn := hB3.cell 10; have g10 : w3.frozen? ⟨B, 10,none⟩ = false := hB3.frozen 10)
      all_goals
       go_wp2_with fail
       go_meet
       case rel =>
        refine ⟨rfl,_,hB3.set 10 _, ?_, ?_, ?_⟩
        ·exact own_other hN3 hB3 (by decide) _
        ·intro j hj
         simp only [Value.ownBlock,Option.some.injEq] at hj
         subst hj
         exact hatN.imp id (fun h => by omega)
        ·exact (((((Off.refl _ W2).alloc _).drew).grown hgN (fun j hj => .inl (.inr hj)))).setCell _ (.inl (.inl rfl))
     case rest =>
      clear hbB2 hN2 hneN c10 c0 hBW2
      obtain ⟨rfl,newN,hbB3,hN4,hnewN,hoC⟩ := hcut
      have nU2 : ∀ j,(Value.slice a' (m + k) cap').ownBlock = some j → ¬ (j = B ∨ cn.ownBlock = some j) := fun j hj h => by
       rcases h with h | h
       ·obtain ⟨_,cs,h1⟩ := own_tagged HST.out.row hj
        exact tag_ne HST.out.book h1 (by decide) h
       ·exact HST.out.sep j h hj
      have hrow := own_offv HU2.out hoC nU2
      have hC4 := own_offv HC3.out hoC (fun j hj h => by
       rcases h with h | h
       ·obtain ⟨_,cs,h1⟩ := own_tagged HC3.out hj
        have h2 : wc.heap[B]? = _ := hbB3
        rcases HNC.out j hj with h3 | h3
        ·obtain ⟨_,cs',h4⟩ := own_tagged HST.out.rowI h3
         exact tag_ne HST.out.book h4 (by decide) h
        ·have := HST.out.book.lt; omega
       ·obtain ⟨_,cs,h1⟩ := own_tagged HC3.out hj
        rcases HNC.out j hj with h3 | h3
        ·obtain ⟨_,cs',h4⟩ := own_tagged HST.out.rowI h3
         obtain ⟨_,cs2,h5⟩ := own_tagged HST.out.rowN h
         rw [h4] at h5; simp at h5
        ·have := own_lt2 HST.out.rowN h; omega)
      have hsc : W2.heap.size ≤ wc.heap.size := hoC.size
      have m0 : wc.cell? ⟨B, 0,none⟩ = some (.int .i64 n1) := hbB3.cell 0
      have hBwc := hbB3.lt
      have hsepU : ∀ j,newN.ownBlock = some j → (Value.slice a' (m + k) cap').ownBlock ≠ some j := fun j hj h => by
       rcases hnewN j hj with h1 | h1
       ·exact HST.out.sep j h1 h
       ·have := own_lt2 HU2.out h; omega
      have HSU : Hid (∀ j,newN.ownBlock = some j → (Value.slice a' (m + k) cap').ownBlock ≠ some j) := hsepU
      have HNN : Hid (∀ j,newN.ownBlock = some j → cn.ownBlock = some j ∨ W2.heap.size ≤ j) := hnewN
      have HC4 : Hid (wc.ownsRow base 35 1 newC (E.length + k + 1) ((E ++ E1).map (·.1) ++ [.slice a' (m + k) cap'])) := hC4
      have HN4 : Hid (wc.ownsRow base 3 1 newN (E.length + k + 1) (((E ++ E1).map fun e => .int .i64 e.2) ++ [.int .i64 μ])) := hN4
      have HOC : Hid (Off (fun j => j = B ∨ cn.ownBlock = some j) W2 wc) := hoC
      have HBB3 : Hid (Blk wc B 44 (bkI n1 came ki yi newC newN)) := hbB3
      clear hsepU hnewN hC4 hN4 hoC hbB3 nU2
      go_wp2_with (at_builtin; refine wpList_append_old _ rfl (.tmp 55) (.tmp 61) 35 rfl base 3 i3 _ 1 8 Tryz.underlying35 hi3 hz3a hz3b hz3c rfl (by omega) _ (m + k) _ rfl (hrow.alloc _) ⟨wc.heap.size, 0,none⟩ 1 1 [.int .i64 μ] rfl rfl (World.news_of_block (cs := #[.int .i64 μ]) (t := 3) (fr := (0, 0)) (heap_alloc_new wc _)) (by simp [Value.oneCell']) (by omega) (by unfold maxLen; omega) (by omega) (by simp; omega) (wc.heap.size + 1) (by simp) ?_; intro gL capL w4 hL hgL hatL hltL holdL)
      go_roundw
      case rel =>
       have oL : Off (fun j => (Value.slice a' (m + k) cap').ownBlock = some j) wc w4 := ((Off.refl _ wc).alloc _).grown hgL (fun j hj => .inl hj)
       have hw2 := HST.out.off.size
       have hul : ∀ j,(Value.slice a' (m + k) cap').ownBlock = some j → ∃ cs,wc.heap[j]? = some (.cells cs 3 (0, 0)) := fun j hj => (own_tagged hrow hj).2
       refine ⟨k + 1,E1 ++ [(.slice a' (m + k) cap', μ)],newC,newN,ys ++ [.int .i64 μ],by go_num,by omega, ?_⟩
       refine ⟨by simp [HST.out.len],hL,HST.out.marks.snoc (by have := HST.out.row.1; omega), ?_, ?_, ?_, ?_, ?_, ?_, ?_, ?_, ?_, ?_⟩
       ·intro j hj
        simp only [Value.ownBlock,Option.some.injEq] at hj
        subst hj
        rcases hatL with h | h
        ·exact HST.out.far gL h
        ·exact .inr (by omega)
       ·intro j hj
        rcases HNC.out j hj with h | h
        ·exact HST.out.farI j h
        ·exact .inr (by omega)
       ·intro j hj
        rcases HNN.out j hj with h | h
        ·exact HST.out.farN j h
        ·exact .inr (by omega)
       ·intro j hj h
        simp only [Value.ownBlock,Option.some.injEq] at h
        subst h
        rcases hatL with h | h
        ·exact HSU.out gL hj h
        ·have := own_lt2 HN4.out hj; omega
       ·intro e he j hj
        rcases List.mem_append.1 he with he | he
        ·intro h
         rcases HNN.out j h with h1 | h1
         ·exact HST.out.sepE e he j hj h1
         ·have := ((HST.out.ent e he).2.1.lt j hj).1; omega
        ·rw [List.mem_singleton.1 he] at hj
         exact fun h => HSU.out j h hj
       ·refine HBB3.out.off oL (fun h => ?_)
        obtain ⟨cs,h1⟩ := hul B h
        exact tag_ne HBB3.out h1 (by decide) rfl
       ·have := own_offv HC4.out oL (fun j hj h => by
         obtain ⟨cs,h1⟩ := hul j h
         obtain ⟨_,cs',h2⟩ := own_tagged HC4.out hj
         rw [h1] at h2; simp at h2)
        rw [← List.append_assoc,List.map_append (l₁ := E ++ E1)]
        exact this
       ·have := own_offv HN4.out oL (fun j hj h => HSU.out j hj h)
        rw [← List.append_assoc,List.map_append (l₁ := E ++ E1)]
        exact this
       ·intro e he
        have hal : Below wc.heap.size wc (wc.alloc (.cells #[.int .i64 μ] 3)) := (Below.refl _ _).alloc (Nat.le_refl _) _
        rcases List.mem_append.1 he with he | he
        ·obtain ⟨q1,q2,q3⟩ := HST.out.ent e he
         have q4 := (q2.off HOB.out (fun j hj h => by
          obtain ⟨_,cs,h1⟩ := q2.lt j hj
          rcases h with h | h
          ·exact tag_ne HST.out.book h1 (by decide) h
          ·obtain ⟨_,cs',h2⟩ := own_tagged HST.out.rowI h
           rw [h1] at h2; simp at h2)).off HOC.out (fun j hj h => by
          obtain ⟨_,cs,h1⟩ := q2.lt j hj
          rcases h with h | h
          ·exact tag_ne HST.out.book h1 (by decide) h
          ·exact HST.out.sepE e he j hj h)
         have q5 := q4.keep (W' := wc.alloc (.cells #[.int .i64 μ] 3)) (Nat.le_refl _) fun g _ _ h2 => (hal.block g (Array.getElem?_eq_some_iff.1 h2).1).trans h2
         exact ⟨q1,entI_append q5 q1 (Nat.le_refl _) HST.out.marks hgL holdL,q3⟩
        ·rw [List.mem_singleton.1 he]
         exact ⟨rfl,entI_append (entI_self (hrow.alloc _) HST.out.marks) rfl (Nat.le_refl _) HST.out.marks hgL holdL,HST.out.far⟩
       ·refine ((HST.out.off.step HOB.out (fun j hj h => ?_)).step HOC.out (fun j hj h => ?_)).step oL (fun j hj h => ?_)
        ·rcases h with h | h
         ·exact .inl h
         ·rcases HST.out.farI j h with h | h
          ·exact .inr (.inr (.inl h))
          ·omega
        ·rcases h with h | h
         ·exact .inl h
         ·rcases HST.out.farN j h with h | h
          ·exact .inr (.inr (.inr h))
          ·omega
        ·rcases HST.out.far j h with h | h
         ·exact .inr (.inl h)
         ·omega
      case measure => simp [intOf]; omega
    ·have hk4 : k = 4 := by omega
     have hlt' : decide ((k : Int) < 4) = false := by simp; omega
     have hlt2 : decide (k < 4) = false := by simp; omega
     have HST : Hid (LI w wr base B came m n1 μ ki yi v iv inn E E1 k _ cv cn ys) := st
     clear hlt st
     go_wp2
     refine bodyPost_end (v := .tuple #[]) (by simp [results,Tryz.results69]) rfl ⟨rfl,cv,cn,E1, ?_,by rw [HST.out.len,hk4], ?_,HST.out.farI,HST.out.farN,by rw [HVV.out]; exact HST.out.off⟩
     ·refine ⟨hle, ?_, ?_, ?_, ?_, ?_⟩
      ·have := HST.out.book
       rw [← HN1.out] at this
       exact this
      ·rw [List.length_append,HST.out.len]; exact HST.out.rowI
      ·rw [List.length_append,HST.out.len]; exact HST.out.rowN
      ·intro e he
       rcases List.mem_append.1 he with he | he
       ·have hE1 := HBK.out.ent e he
        refine hE1.off HST.out.off (fun j hj h => ?_)
        obtain ⟨_,cs,h1⟩ := hE1.lt j hj
        rcases h with h | h | h | h
        ·exact tag_ne HBK.out.blk h1 (by decide) h
        ·exact HFAR.out e he j hj h
        ·obtain ⟨cs',h2⟩ := HIT.out j h
         rw [h1] at h2; simp at h2
        ·exact HBK.out.far e he j hj h
       ·exact (HST.out.ent e he).2.1.keep (by omega) fun g cur _ h => h
      ·intro e he j hj h
       rcases List.mem_append.1 he with he | he
       ·rcases HST.out.farN j h with h1 | h1
        ·exact HBK.out.far e he j hj h1
        ·have := ((HBK.out.ent e he).lt j hj).1; omega
       ·exact HST.out.sepE e he j hj h
     ·intro e he j hj
      rw [HVV.out]
      exact (HST.out.ent e he).2.2 j hj
end
end Go.Proofs.YtdgbgmffpcooeaaGreat
