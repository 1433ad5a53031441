/- Rt Im1 Nv0 Nv1 -/
import Derived.Test.YtdgbgmffpcooeaaGreatI47
import Derived.Deep.CutBlock
import Derived.Deep.RegionLawGrows
namespace Go.Proofs.YtdgbgmffpcooeaaGreat
open Go.RowKit Go.Lib
section
set_option maxRecDepth 100000 in
set_option maxHeartbeats 1000000 in
theorem right2_any (a b c d : Int) (w : World) :
    Calls Tryz.prog 56 #[.agg #[.int .i64 a, .int .i64 b, .int .i64 c, .int .i64 d]] w fun e w' => e = .returned (.bool (rightB a b c d)) ∧ Below w.heap.size w w' := by
  have hs : (¬ 0 ≤ a) ∨ (0 ≤ a ∧ ¬ a ≤ c) ∨ (0 ≤ a ∧ a ≤ c ∧ ¬ c < 65536) ∨ (0 ≤ a ∧ a ≤ c ∧ c < 65536 ∧ ¬ 0 ≤ b) ∨ (0 ≤ a ∧ a ≤ c ∧ c < 65536 ∧ 0 ≤ b ∧ ¬ b ≤ d) ∨ (0 ≤ a ∧ a ≤ c ∧ c < 65536 ∧ 0 ≤ b ∧ b ≤ d ∧ ¬ d < 65536) ∨ (0 ≤ a ∧ a ≤ c ∧ c < 65536 ∧ 0 ≤ b ∧ b ≤ d ∧ d < 65536) := by omega
  rcases hs with h1 | ⟨h1, h2⟩ | ⟨h1, h2, h3⟩ | ⟨h1, h2, h3, h4⟩ | ⟨h1, h2, h3, h4, h5⟩ | ⟨h1, h2, h3, h4, h5, h6⟩ | ⟨h1, h2, h3, h4, h5, h6⟩
  all_goals
    go_enter Tryz.func56, Tryz.ntmps56
    go_wp2
    go_ret
    refine ⟨ret_bool ?_, (Below.refl _ _).alloc (Nat.le_refl _) _⟩
    unfold rightB
    simp only [Bool.true_eq, Bool.false_eq, decide_eq_true_eq, decide_eq_false_iff_not]
    omega
end
section
theorem grown_off {W W' : World} {v : Value} (hg : W.grownBy W' v.ownBlock) : Off (fun k => v.ownBlock = some k) W W' := (Off.refl _ W).grown hg (fun _ hj => .inl hj)
theorem LiveX.grown {W W' : World} {N : Nat → Prop} {p X n : Nat} {σ : PS} {tb : List (Int × Box)} (h : LiveX W N p X n σ tb) {base : Nat} {v : Value} {m : Nat} {xs : List Value} (hown : W.ownsRow base 106 5 v m xs) (hg : W.grownBy W' v.ownBlock) : LiveX W' N p X n σ tb := by
  cases hv : v.ownBlock with
  | none => exact h.below ((grown_off hg).below (Nat.le_refl _) (fun k hk => by rw [hv] at hk; cases hk))
  | some j =>
    obtain ⟨_, cs, hc⟩ := own_tagged hown hv
    exact h.off (B := j) (T := 106) (vs := cs) hc (by unfold own5; omega) (by decide) (by decide) ((grown_off hg).mono (fun k _ hk => by rw [hv] at hk; cases hk; rfl))
set_option maxRecDepth 100000 in
set_option maxHeartbeats 8000000 in
theorem listed_any (w : World) (N : Nat → Prop) (G p X n : Nat) (σ : PS) (sv : Value) (room : Int) (tb : List (Int × Box)) (hGw : Blk w G 62 (gameC p X sv room)) (hLw : LiveX w N p X n σ tb) (hbG : ¬ N G) :
    Calls Tryz.prog 28 #[.pointer (some ⟨G, 0, none⟩)] w fun e w' => e = .returned (.bool true) ∧ Keep N w w' ∧ ∃ σ', GameX w' N G p X n σ' room tb := by
  obtain ⟨i0, hi0, hz0, hz1, hz2⟩ := info_parts infoM
  have hup := hLw.up
  have hlen := hup.2.2.2.1
  have hnN : ∀ k, N k → k < w.heap.size := by
    obtain ⟨A, x, t, f, fr, root, es, us, h1, h2, h3, h4, h5, h6⟩ := hLw
    exact h6.2.2.2.2
  have HUP : Hid (Ups tb ∧ ∀ t ∈ tb, t.2.ok ∧ 0 ≤ t.1 ∧ t.1 ≤ 4611686018427387904) := ⟨hup.1, hup.2.2.2.2⟩
  have HN : Hid (∀ k, N k → k < w.heap.size) := hnN
  have hmx : Tryz.prog.follows .mixedOrders = true := by kernel_rfl
  have hc := live_win hLw (r := ⟨0, 0, 65535, 65535⟩) ⟨by simp, by simp, by simp, by simp⟩
  rw [winL_all (fun t ht => (HUP.out.2 t ht).1)] at hc
  simp only [boxC, List.length_map] at hc
  have qX : w.cell? ⟨G, 1, none⟩ = some (.pointer (some ⟨X, 0, none⟩)) := hGw.cell 1
  have HG0 : Hid (Blk w G 62 (gameC p X sv room)) := hGw
  clear hGw hLw hup hnN
  go_enter Tryz.func28, Tryz.ntmps28
  go_upto_region 2 with (go_at_call 11; refine hc.mono ?_; rintro e w1 ⟨lv, rfl, hrow1, hC1, σ1, hL1, _⟩; obtain ⟨la, lc, rfl, _, _, _⟩ := own_shape hrow1)
  have g1 := hC1.blk HG0.out (by unfold own5; omega)
  have c1 : w1.cell? ⟨G, 2, none⟩ = some sv := g1.cell 2
  have f1 : w1.frozen? ⟨G, 2, none⟩ = false := g1.frozen 2
  obtain ⟨W1, hW1⟩ : ∃ W1, w1.setCell ⟨G, 2, none⟩ (.slice none 0 0) = W1 := ⟨_, rfl⟩
  have o1 : Off (fun k => k = G) w1 W1 := by rw [← hW1]; exact Off.one w1 _
  have HG1 : Hid (Blk W1 G 62 (gameC p X (.slice none 0 0) room)) := by rw [← hW1]; exact g1.set 2 _
  have HL1 : Hid (LiveX W1 N p X n σ1 tb) := hL1.off g1 (by unfold own5; omega) (by decide) (by decide) o1
  have HR1 : Hid (W1.ownsRow w.heap.size 3 1 (.slice la tb.length lc) tb.length (intsV (tb.map (·.1)))) := own_offv hrow1 o1 (fun g hg e => own_ne hrow1 g1 (by decide) g hg e)
  have HK1 : Hid (Keep N w W1) := hC1.keep.trans (Keep.off o1 (fun k h => h ▸ hbG))
  have HT1 : Hid (TabV W1 w.heap.size (.slice none 0 0) []) := ⟨rfl, .inl ⟨rfl, rfl⟩⟩
  have HW1 : Hid (w1.setCell ⟨G, 2, none⟩ (.slice none 0 0) = W1) := hW1
  clear hc qX hrow1 hC1 hL1 hW1 o1 g1
  go_upto_region 5 with fail
  rw [HW1.out]
  clear HW1 c1 f1
  go_wp2
  go_loopw [5] (fun x wr => ∃ (i : Nat) (σ' : PS) (mv : Value), x = .int .i64 (i : Int) ∧ i ≤ tb.length ∧ Keep N w wr ∧ LiveX wr N p X n σ' tb ∧ Blk wr G 62 (gameC p X mv room) ∧ TabV wr w.heap.size mv (tb.take i) ∧ wr.ownsRow w.heap.size 3 1 (.slice la tb.length lc) tb.length (intsV (tb.map (·.1)))) (fun x _ => tb.length - (intOf x).toNat)
  case atStart => exact ⟨0, σ1, _, rfl, Nat.zero_le _, HK1.out, HL1.out, HG1.out, HT1.out, HR1.out⟩
  case round =>
    obtain ⟨i, σ', mv, rfl, hi, hK, hL, hG, hT, hR⟩ := hrel
    have HK : Hid (Keep N w wr) := hK
    have HL : Hid (LiveX wr N p X n σ' tb) := hL
    have HG : Hid (Blk wr G 62 (gameC p X mv room)) := hG
    have HT : Hid (TabV wr w.heap.size mv (tb.take i)) := hT
    have HR : Hid (wr.ownsRow w.heap.size 3 1 (.slice la tb.length lc) tb.length (intsV (tb.map (·.1)))) := hR
    clear HL1 HG1 HT1 HR1 HK1
    by_cases hlt : i < tb.length
    rotate_left
    · have hlt' : ¬ (i : Int) < (tb.length : Int) := by omega
      have hie : tb.take i = tb := List.take_of_length_le (by omega)
      rw [hie] at hT
      have HGX : Hid (GameX wr N G p X n σ' room tb) := ⟨mv, hG, own_mono hT (Nat.zero_le _), hL, hbG⟩
      obtain ⟨sa, sc, rfl, _, _, _⟩ := own_shape hT
      have cS : wr.cell? ⟨G, 2, none⟩ = some (.slice sa tb.length sc) := hG.cell 2
      have hal := alike_any wr N G p X n σ' room tb HGX.out (.slice sa tb.length sc) (own_mono hT (Nat.zero_le _))
      clear hK hL hG hT hR hie
      go_wp2_with (go_at_call 17; refine hal.mono ?_; rintro e w9 ⟨rfl, hC9, σ9, hG9⟩)
      go_ret
      exact ⟨rfl, HK.out.trans hC9.keep, σ9, hG9⟩
    have hlt' : (i : Int) < (tb.length : Int) := by omega
    obtain ⟨x, hx⟩ : ∃ x, tb[i]? = some x := ⟨_, List.getElem?_eq_getElem hlt⟩
    have hxm := List.mem_of_getElem? hx
    have hget := live_get (hL.below ((Below.refl _ wr).drew)) (id := x.1) (HUP.out.2 x hxm).2
    have htg : tget x.1 tb = some x.2 := (tget_some HUP.out.1).2 hxm
    rw [htg] at hget
    simp only [foundR] at hget
    have hmap : (tb.map (·.1))[i]? = some x.1 := by rw [List.getElem?_map, hx]; rfl
    have hRl : wr.ownsRow w.heap.size 3 1 (.slice la (tb.map (·.1)).length lc) (tb.map (·.1)).length (intsV (tb.map (·.1))) := by rw [List.length_map]; exact hR
    have hla : ∃ g, la = some ⟨g, 0, none⟩ := by
      obtain ⟨_, ⟨e, hn⟩ | ⟨g, cap, cur, e, _⟩⟩ := hR
      · omega
      · cases e; exact ⟨g, rfl⟩
    obtain ⟨lg, rfl⟩ := hla
    have z0 : wr.cell? ⟨lg, i, none⟩ = some (.int .i64 x.1) := own_int hRl hmap
    have qX : wr.cell? ⟨G, 1, none⟩ = some (.pointer (some ⟨X, 0, none⟩)) := hG.cell 1
    have HX : Hid (tb[i]? = some x) := hx
    have HRL : Hid (wr.ownsRow w.heap.size 3 1 (.slice (some ⟨lg, 0, none⟩) (tb.map (·.1)).length lc) (tb.map (·.1)).length (intsV (tb.map (·.1)))) := hRl
    have HMAP : Hid ((tb.map (·.1))[i]? = some x.1) := hmap
    have HTG : Hid (tget x.1 tb = some x.2) := htg
    have HID : Hid ((0 ≤ x.1 ∧ x.1 ≤ 4611686018427387904) ∧ x.2.ok) := ⟨(HUP.out.2 x hxm).2, (HUP.out.2 x hxm).1⟩
    clear hK hL hG hT hR hRl hmap hx hxm htg
    go_upto_region 8 with fail
    have hba : Below wr.heap.size wr ((wr.alloc (.cells #[.int .i64 0, .int .i64 0, .int .i64 0, .int .i64 0] 34)).drew) := ((Below.refl _ wr).alloc (Nat.le_refl _) _).drew
    have hget2 := live_get (HL.out.below hba) (id := x.1) HID.out.1
    rw [HTG.out] at hget2
    simp only [foundR] at hget2
    have hBa : Blk ((wr.alloc (.cells #[.int .i64 0, .int .i64 0, .int .i64 0, .int .i64 0] 34)).drew) wr.heap.size 34 #[.int .i64 0, .int .i64 0, .int .i64 0, .int .i64 0] := (Blk.new wr 34 _).drew
    have qXl : G < wr.heap.size := HG.out.lt
    have z0l : lg < wr.heap.size := (own_lt HRL.out).2
    have HKs : Hid (∀ W', CalmW N wr W' → W'.cell? ⟨G, 1, none⟩ = some (.pointer (some ⟨X, 0, none⟩)) ∧ W'.cell? ⟨lg, i, none⟩ = some (.int .i64 x.1)) := fun W' hc => ⟨Blk.cell (hc.blk HG.out (by unfold own5; omega)) 1, own_int (hc.row HRL.out (by unfold own5; omega)) HMAP.out⟩
    go_cut [6, 7] (fun s6 s7 wx => ∃ B σ3, s6 = .pointer (some ⟨B, 0, none⟩) ∧ s7 = .int .i64 0 ∧ Blk wx B 34 (boxC x.2) ∧ CalmW N wr wx ∧ LiveX wx N p X n σ3 tb)
    case first =>
      go_region_held3 (fun W' => W'.cell? ⟨G, 1, none⟩ = some (.pointer (some ⟨X, 0, none⟩)) ∧ W'.cell? ⟨lg, i, none⟩ = some (.int .i64 x.1))
        (first
          | exact ⟨qX, z0⟩
          | exact HKs.out _ hC3'
          | exact HKs.out _ (CalmW.below ((Below.refl _ wr).alloc (Nat.le_refl _) _))
          | exact HKs.out _ (hC3'.trans (CalmW.below ((Below.refl _ w3).alloc (Nat.le_refl _) _)))
          | exact HKs.out _ (hC3'.new (B := wr.heap.size) (((((Off.refl (fun k => k = wr.heap.size) _).setCell _ (.inl rfl)).setCell _ (.inl rfl)).setCell _ (.inl rfl)).setCell _ (.inl rfl)) (Nat.le_refl _))
          | go_keep)
        (first
          | (go_at_call 37; refine hget.mono ?_; rintro e w3 ⟨rfl, hC3, σ3, hL3, hA3⟩; have hC3' : CalmW N wr w3 := (CalmW.below ((Below.refl _ wr).drew)).trans hC3)
          | (go_at_call 37; refine hget2.mono ?_; rintro e w3 ⟨rfl, hC3, σ3, hL3, hA3⟩; have hC3' : CalmW N wr w3 := (CalmW.below hba).trans hC3; have k3 := hC3.blk hBa (by unfold own5; omega); have e0 : w3.cell? ⟨wr.heap.size, 0, none⟩ = some (.int .i64 0) := k3.cell 0; have e1 : w3.cell? ⟨wr.heap.size, 1, none⟩ = some (.int .i64 0) := k3.cell 1; have e2 : w3.cell? ⟨wr.heap.size, 2, none⟩ = some (.int .i64 0) := k3.cell 2; have e3 : w3.cell? ⟨wr.heap.size, 3, none⟩ = some (.int .i64 0) := k3.cell 3; have f0 : w3.frozen? ⟨wr.heap.size, 0, none⟩ = false := k3.frozen 0; have f1 : w3.frozen? ⟨wr.heap.size, 1, none⟩ = false := k3.frozen 1; have f2 : w3.frozen? ⟨wr.heap.size, 2, none⟩ = false := k3.frozen 2; have f3 : w3.frozen? ⟨wr.heap.size, 3, none⟩ = false := k3.frozen 3))
      · go_wp2
        go_meet
        have hb4 : Below w3.heap.size w3 (w3.alloc (.cells #[.int .i64 (x.2.a : Int), .int .i64 (x.2.b : Int), .int .i64 (x.2.c : Int), .int .i64 (x.2.d : Int)] 34)) := (Below.refl _ w3).alloc (Nat.le_refl _) _
        exact ⟨w3.heap.size, σ3, rfl, rfl, Blk.new w3 34 _, hC3'.trans (CalmW.below hb4), hL3.below hb4⟩
      · go_wp2
        go_meet
        obtain ⟨qb, qo⟩ := put4 k3 (.int .i64 (x.2.a : Int)) (.int .i64 (x.2.b : Int)) (.int .i64 (x.2.c : Int)) (.int .i64 (x.2.d : Int))
        exact ⟨wr.heap.size, σ3, rfl, rfl, qb, hC3'.new qo (Nat.le_refl _), hL3.off k3 (by unfold own5; omega) (by decide) (by decide) qo⟩
    case rest =>
      obtain ⟨B, σ3, rfl, rfl, B4, hC4, hL4⟩ := hcut
      obtain ⟨W4, rfl⟩ : ∃ W4, W4 = wc := ⟨_, rfl⟩
      have hri := right2_any (x.2.a : Int) (x.2.b : Int) (x.2.c : Int) (x.2.d : Int) W4
      rw [right_of_ok HID.out.2] at hri
      have t0 : W4.cell? ⟨B, 0, none⟩ = some (.int .i64 (x.2.a : Int)) := B4.cell 0
      have t1 : W4.cell? ⟨B, 1, none⟩ = some (.int .i64 (x.2.b : Int)) := B4.cell 1
      have t2 : W4.cell? ⟨B, 2, none⟩ = some (.int .i64 (x.2.c : Int)) := B4.cell 2
      have t3 : W4.cell? ⟨B, 3, none⟩ = some (.int .i64 (x.2.d : Int)) := B4.cell 3
      have HB4 : Hid (Blk W4 B 34 (boxC x.2)) := B4
      have HC4 : Hid (CalmW N wr W4) := hC4
      have HL4 : Hid (LiveX W4 N p X n σ3 tb) := hL4
      clear B4 hC4 hL4 hget hget2 z0 qX hba hBa HL
      go_upto_region 10 with (go_at_call 56; refine hri.mono ?_; rintro e w5 ⟨rfl, hb5⟩)
      have hC5 : CalmW N wr w5 := HC4.out.trans (CalmW.below hb5)
      have HG5 : Hid (Blk w5 G 62 (gameC p X mv room)) := hC5.blk HG.out (by unfold own5; omega)
      have HT5 : Hid (TabV w5 w.heap.size mv (tb.take i)) := hC5.row HT.out (by unfold own5; omega)
      have HR5 : Hid (w5.ownsRow w.heap.size 3 1 (.slice (some ⟨lg, 0, none⟩) (tb.map (·.1)).length lc) (tb.map (·.1)).length (intsV (tb.map (·.1)))) := hC5.row HRL.out (by unfold own5; omega)
      have HB5 : Hid (Blk w5 B 34 (boxC x.2)) := HB4.out.below hb5 HB4.out.lt
      have HL5 : Hid (LiveX w5 N p X n σ3 tb) := HL4.out.below hb5
      have HK5 : Hid (Keep N w w5) := HK.out.trans hC5.keep
      have z5 : w5.cell? ⟨lg, i, none⟩ = some (.int .i64 x.1) := own_int HR5.out HMAP.out
      have hi0' : ¬ x.1 < 0 := by have := HID.out.1; omega
      have hi1' : ¬ 4611686018427387904 < x.1 := by have := HID.out.1; omega
      have hd0 : decide (x.1 < 0) = false := by simpa using hi0'
      have hd1 : decide (4611686018427387904 < x.1) = false := by simpa using hi1'
      clear hri t0 t1 t2 t3 HB4 HC4 HL4 hb5 hC5
      go_cut [79] (fun s79 wx => s79 = .bool false ∧ Below w5.heap.size w5 wx)
      case first =>
        by_cases hi00 : i = 0
        · subst hi00
          go_quiet (fail)
          go_wp2
          go_meet
          exact ⟨rfl, below_drewN w5 nq _⟩
        · obtain ⟨j, rfl⟩ : ∃ j, i = j + 1 := ⟨i - 1, by omega⟩
          have hip : (0 : Int) < (j : Int) + 1 := by omega
          obtain ⟨y, hy⟩ : ∃ y, tb[j]? = some y := ⟨_, List.getElem?_eq_getElem (by omega)⟩
          have hmy : (tb.map (·.1))[j]? = some y.1 := by rw [List.getElem?_map, hy]; rfl
          have zy : w5.cell? ⟨lg, j, none⟩ = some (.int .i64 y.1) := own_int HR5.out hmy
          have hyx : y.1 < x.1 := by
            have h1 := HX.out
            obtain ⟨hi1, e1⟩ := List.getElem?_eq_some_iff.1 h1
            obtain ⟨hi2, e2⟩ := List.getElem?_eq_some_iff.1 hy
            have := List.pairwise_iff_getElem.1 HUP.out.1 j (j + 1) hi2 hi1 (by omega)
            rw [e1, e2] at this
            exact this
          have hd2 : decide (x.1 ≤ y.1) = false := by simp; omega
          have hjl : (j : Int) < (tb.length : Int) := by omega
          have hjl2 : (j : Int) + 1 < (tb.length : Int) := by omega
          have hip2 : ¬ j + 1 = 0 := by omega
          clear hy hmy hyx hi00
          go_quiet (fail)
          go_wp2
          go_meet
          exact ⟨rfl, below_drewN w5 nq _⟩
      case rest =>
        obtain ⟨rfl, hb6⟩ := hcut
        obtain ⟨W6, rfl⟩ : ∃ W6, W6 = wc := ⟨_, rfl⟩
        have hti : (tb.take i).length = i := by rw [List.length_take]; omega
        have HG6 : Hid (Blk W6 G 62 (gameC p X mv room)) := HG5.out.below hb6 HG5.out.lt
        have HR6 : Hid (W6.ownsRow w.heap.size 3 1 (.slice (some ⟨lg, 0, none⟩) (tb.map (·.1)).length lc) (tb.map (·.1)).length (intsV (tb.map (·.1)))) := own_below HR5.out hb6
        have HL6 : Hid (LiveX W6 N p X n σ3 tb) := HL5.out.below hb6
        have HK6 : Hid (Keep N w W6) := HK5.out.trans (Keep.below hb6)
        have hB6 := HB5.out.below hb6 HB5.out.lt
        have hT6 := own_below HT5.out hb6
        obtain ⟨ma, mc, rfl, _, _, _⟩ := own_shape hT6
        have hown : W6.ownsRow w.heap.size 106 5 (.slice ma i mc) i (rowM (tb.take i)) := by
          have h := hT6
          unfold TabV at h
          rw [hti] at h
          exact h
        have cG : W6.cell? ⟨G, 2, none⟩ = some (.slice ma i mc) := by
          have h : W6.cell? ⟨G, 2, none⟩ = some (.slice ma (tb.take i).length mc) := HG6.out.cell 2
          rw [hti] at h
          exact h
        have HG7 : Hid (Blk W6 G 62 (gameC p X (.slice ma i mc) room)) := by
          have h := HG6.out
          rw [hti] at h
          exact h
        have z6 : W6.cell? ⟨lg, i, none⟩ = some (.int .i64 x.1) := own_int HR6.out HMAP.out
        have t0 : W6.cell? ⟨B, 0, none⟩ = some (.int .i64 (x.2.a : Int)) := hB6.cell 0
        have t1 : W6.cell? ⟨B, 1, none⟩ = some (.int .i64 (x.2.b : Int)) := hB6.cell 1
        have t2 : W6.cell? ⟨B, 2, none⟩ = some (.int .i64 (x.2.c : Int)) := hB6.cell 2
        have t3 : W6.cell? ⟨B, 3, none⟩ = some (.int .i64 (x.2.d : Int)) := hB6.cell 3
        have hws : w.heap.size ≤ W6.heap.size := HK6.out.size
        have HTI : Hid ((tb.take i).length = i) := hti
        have hGl : G < W6.heap.size := HG7.out.lt
        clear hb6 hT6 hB6 HG5 HT5 HR5 HB5 HL5 HK5 z5 hi0' hi1' hd0 hd1 HG6 hti
        go_upto_region 12 with fail
        go_region_law_o (first
          | (refine step_append_lies _ (by rfl) _ _ _ (by rfl) w.heap.size 106 i0 _ 5 40 Tryz.underlying58 hi0 hz0 hz1 hz2 rfl (by omega) (.slice ma i mc) i _ (by rfl) ((hown.alloc _).drew) ⟨W6.heap.size, 0, none⟩ 1 1 [.int .i64 x.1, .int .i64 (x.2.a : Int), .int .i64 (x.2.b : Int), .int .i64 (x.2.c : Int), .int .i64 (x.2.d : Int)] (by rfl) (by rfl) (World.news_of_block (cs := #[.int .i64 x.1, .int .i64 (x.2.a : Int), .int .i64 (x.2.b : Int), .int .i64 (x.2.c : Int), .int .i64 (x.2.d : Int)]) (t := 106) (fr := (0, 0)) (heap_alloc_new W6 _)) (by simp [Value.oneCell']) (by omega) (by unfold maxLen; omega) (by omega) (by simp; omega) (W6.heap.size + 1) (by simp) ?_; intro gg cap w2 hown2 hgrow hat hlt3; have hGw : Blk w2 G 62 (gameC p X (.slice ma i mc) room) := ((HG7.out.alloc _).drew).grown hgrow (fun j hj e => own_ne hown HG7.out (by decide) j hj e); have g2c : w2.cell? ⟨G, 2, none⟩ = some (.slice ma i mc) := hGw.cell 2; have g2f : w2.frozen? ⟨G, 2, none⟩ = false := hGw.frozen 2))
        all_goals
          go_wp2
          have hW7 : Below W6.heap.size W6 ((W6.alloc (.cells #[.int .i64 x.1, .int .i64 (x.2.a : Int), .int .i64 (x.2.b : Int), .int .i64 (x.2.c : Int), .int .i64 (x.2.d : Int)] 106)).drew) := ((Below.refl _ W6).alloc (Nat.le_refl _) _).drew
          have hown7 := own_below hown hW7
          have hR7 := own_below HR6.out hW7
          have o8 := grown_off hgrow
          have hL8 := (HL6.out.below hW7).grown hown7 hgrow
          have hK8 := (HK6.out.trans (Keep.below hW7)).trans (Keep.off o8 (fun k hk hN => by have := (own_tagged hown7 hk).1; have := HN.out k hN; omega))
          have hR8 := own_offv hR7 o8 (fun g hg hk => by
            obtain ⟨_, c1, e1⟩ := own_tagged hR7 hg
            obtain ⟨_, c2, e2⟩ := own_tagged hown7 hk
            rw [e1] at e2
            simp at e2)
          have o9 : Off (fun k => k = G) w2 (w2.setCell ⟨G, 2, none⟩ (.slice (some ⟨gg, 0, none⟩) (i + 1) cap)) := Off.one w2 _
          refine ⟨⟨i + 1, σ3, .slice (some ⟨gg, 0, none⟩) (i + 1) cap, by go_num, by omega, hK8.trans (Keep.off o9 (fun k h => h ▸ hbG)), hL8.off hGw (by unfold own5; omega) (by decide) (by decide) o9, hGw.set 2 _, ?_, ?_⟩, by simp [intOf]; omega⟩
          · have h := own_offv hown2 o9 (fun g hg e => own_ne hown2 hGw (by decide) g hg e)
            unfold TabV
            rw [take_get HX.out, rowM_append, List.length_append, HTI.out]
            exact h
          · have h := own_offv hR8 o9 (fun g hg e => own_ne hR8 hGw (by decide) g hg e)
            rw [List.length_map] at h
            exact h
end
section
def pickI (c m : Int) : Int := (if c < 0 then -(c + 1) else c) % m
theorem pickI_lt (c m : Int) (h : 0 < m) : 0 ≤ pickI c m ∧ pickI c m < m := ⟨Int.emod_nonneg _ (by omega), Int.emod_lt_of_pos _ h⟩
theorem pickI_neg (c m : Int) (h : (Lit.int .i64 c).wf = true) (hc : c < 0) : (wrap64 (-wrap64 (c + 1))).tmod m = pickI c m := by
  have hb := bounds_i64 h
  have e1 : wrap64 (c + 1) = c + 1 := by unfold wrap64; omega
  have e2 : wrap64 (-(c + 1)) = -(c + 1) := by unfold wrap64; omega
  rw [e1, e2, Int.tmod_eq_emod_of_nonneg (by omega), pickI, if_pos hc]
set_option maxHeartbeats 400000 in
theorem pick_eq (c m : Int) (w : World) (hm : 0 < m) (h : (Lit.int .i64 c).wf = true) :
    Calls Tryz.prog 24 #[.int .i64 c, .int .i64 m] w fun e w' => e = .returned (.int .i64 (pickI c m)) ∧ w' = w := by
  by_cases hc : c < 0
  · have H : Hid ((wrap64 (-wrap64 (c + 1))).tmod m = pickI c m) := pickI_neg c m h hc
    go_enter Tryz.func24, Tryz.ntmps24
    go_wp2
    go_ret
    exact ⟨ret_int H.out, rfl⟩
  · have H : Hid (c % m = pickI c m) := by show c % m = _; unfold pickI; rw [if_neg hc]
    go_enter Tryz.func24, Tryz.ntmps24
    go_wp2
    go_ret
    exact ⟨ret_int H.out, rfl⟩
def MoveP (w : World) (N : Nat → Prop) (G p n : Nat) (σ : PS) (cheap : Prop) (e : Ending) (w' : World) : Prop :=
  e = .returned (.bool true) ∧ Keep N w w' ∧ ∃ X' σ' tb', GameX w' N G p X' n σ' (((n - 200) / 4 : Nat) : Int) tb' ∧ tb'.length ≤ (n - 200) / 4 ∧ (cheap → Adds σ σ' 400)
end
section
set_option maxRecDepth 100000 in
set_option maxHeartbeats 4000000 in
theorem moves_put (w : World) (N : Nat → Prop) (G p X n : Nat) (σ : PS) (tb : List (Int × Box)) (h : GameX w N G p X n σ (((n - 200) / 4 : Nat) : Int) tb) (hrm : tb.length ≤ (n - 200) / 4) (K A B : Int) (wK : (Lit.int .i64 K).wf = true) (wA : (Lit.int .i64 A).wf = true) (wB : (Lit.int .i64 B).wf = true) (hk : 0 ≤ pickI K 10 ∧ pickI K 10 < 4) :
    Calls Tryz.prog 16 #[.pointer (some ⟨G, 0, none⟩), .agg #[.int .i64 K, .int .i64 A, .int .i64 B]] w (MoveP w N G p n σ (True)) := by
  obtain ⟨W0, hW0⟩ : ∃ W0, w.alloc (.cells #[.int .i64 K, .int .i64 A, .int .i64 B] 56) = W0 := ⟨_, rfl⟩
  have hb0 : Below w.heap.size w W0 := by rw [← hW0]; exact (Below.refl _ w).alloc (Nat.le_refl _) _
  have B0 : Blk W0 w.heap.size 56 #[.int .i64 K, .int .i64 A, .int .i64 B] := by rw [← hW0]; exact Blk.new w 56 _
  have HW0 : Hid (w.alloc (.cells #[.int .i64 K, .int .i64 A, .int .i64 B] 56) = W0) := hW0
  obtain ⟨sv, hG, hT, hL, hbG⟩ := h.below hb0
  have HBW : Hid (Keep N w W0) := Keep.below hb0
  have hup := hL.up
  have HUP : Hid (Ups tb ∧ 256 ≤ n ∧ n ≤ 4096 ∧ tb.length ≤ 1000000 ∧ ∀ t ∈ tb, t.2.ok ∧ 0 ≤ t.1 ∧ t.1 ≤ 4611686018427387904) := hup
  have hnum := number_any A W0 wA
  have hpk := pick_eq K 10 W0 (by omega) wK
  have q0 : W0.cell? ⟨w.heap.size, 0, none⟩ = some (.int .i64 K) := B0.cell 0
  have q1 : W0.cell? ⟨w.heap.size, 1, none⟩ = some (.int .i64 A) := B0.cell 1
  have q2 : W0.cell? ⟨w.heap.size, 2, none⟩ = some (.int .i64 B) := B0.cell 2
  obtain ⟨sa, sc, rfl, _, _, _⟩ := own_shape hT
  have qS : W0.cell? ⟨G, 2, none⟩ = some (.slice sa tb.length sc) := hG.cell 2
  have HG0 : Hid (Blk W0 G 62 (gameC p X (.slice sa tb.length sc) (((n - 200) / 4 : Nat) : Int))) := hG
  have HT0 : Hid (TabV W0 0 (.slice sa tb.length sc) tb) := hT
  have HL0 : Hid (LiveX W0 N p X n σ tb) := hL
  have HB0 : Hid (Blk W0 w.heap.size 56 #[.int .i64 K, .int .i64 A, .int .i64 B]) := B0
  have hn1 := hup.2.1
  have hn2 := hup.2.2.1
  have hlen := hup.2.2.2.1
  clear hW0 h hG hT hL B0 hb0 hup
  go_enter Tryz.func16, Tryz.ntmps16
  go_upto_region 1 with fail
  rw [HW0.out]
  clear HW0
  go_upto_region 2 with (go_at_call 43; refine hnum.mono ?_; rintro e w9 ⟨⟨id, hid, rfl⟩, rfl⟩)
  have hge := mget_any w9 0 (.slice sa tb.length sc) tb HT0.out HUP.out.1 HUP.out.2.2.2.1 (id : Int)
  have hid2 : 0 ≤ (id : Int) ∧ (id : Int) ≤ 4611686018427387904 := by omega
  go_upto_region 3 with (go_at_call 44; refine hge.mono ?_; rintro e w1 ⟨rfl, hb1⟩)
  obtain ⟨W1, hW1⟩ : ∃ W1, w1.alloc (.cells #[.int .i64 ((rectOf (tget (id : Int) tb)).a : Int), .int .i64 ((rectOf (tget (id : Int) tb)).b : Int), .int .i64 ((rectOf (tget (id : Int) tb)).c : Int), .int .i64 ((rectOf (tget (id : Int) tb)).d : Int)] 34) = W1 := ⟨_, rfl⟩
  have hbW : Below w9.heap.size w9 W1 := by rw [← hW1]; exact hb1.alloc hb1.size _
  have B6 : Blk W1 w1.heap.size 34 (boxA (rectOf (tget (id : Int) tb))) := by rw [← hW1]; exact Blk.new w1 34 _
  rw [hW1]
  have HBW1 : Hid (Keep N w W1) := HBW.out.trans (Keep.below hbW)
  have hG1 := HG0.out.below hbW HG0.out.lt
  have hT1 := own_below HT0.out hbW
  have hL1 := HL0.out.below hbW
  have hB1 := HB0.out.below hbW HB0.out.lt
  have p0 : W1.cell? ⟨w.heap.size, 0, none⟩ = some (.int .i64 K) := hB1.cell 0
  have p2 : W1.cell? ⟨w.heap.size, 2, none⟩ = some (.int .i64 B) := hB1.cell 2
  have pX : W1.cell? ⟨G, 1, none⟩ = some (.pointer (some ⟨X, 0, none⟩)) := hG1.cell 1
  have pS : W1.cell? ⟨G, 2, none⟩ = some (.slice sa tb.length sc) := hG1.cell 2
  have pR : W1.cell? ⟨G, 3, none⟩ = some (.int .i64 (((n - 200) / 4 : Nat) : Int)) := hG1.cell 3
  have pD : W1.cell? ⟨G, 0, none⟩ = some (.pointer (some ⟨p, 0, none⟩)) := hG1.cell 0
  have hpk1 := pick_eq K 10 W1 (by omega) wK
  obtain ⟨kk, hkk⟩ : ∃ kk, pickI K 10 = kk := ⟨_, rfl⟩
  rw [hkk] at hpk1 hk
  have HG1 : Hid (Blk W1 G 62 (gameC p X (.slice sa tb.length sc) (((n - 200) / 4 : Nat) : Int))) := hG1
  have HT1 : Hid (TabV W1 0 (.slice sa tb.length sc) tb) := hT1
  have HL1 : Hid (LiveX W1 N p X n σ tb) := hL1
  have HB1 : Hid (Blk W1 w.heap.size 56 #[.int .i64 K, .int .i64 A, .int .i64 B]) := hB1
  have HB6 : Hid (Blk W1 w1.heap.size 34 (boxA (rectOf (tget (id : Int) tb)))) := B6
  have GL1 := hG1.lt
  clear hW1 hbW hG1 hT1 hL1 hB1 B6 hge hnum hpk q0 q1 q2 qS HG0 HT0 HL0 HB0 hb1 hkk
  obtain ⟨hk1, hk2⟩ := hk
  have hrc := rect_any W1 B wB
  go_upto_region 6 with (first
    | (go_at_call 24; refine hpk1.mono ?_; rintro e w8 ⟨rfl, rfl⟩)
    | (go_at_call 26; refine hrc.mono ?_; rintro e w2 ⟨⟨v, hv, rfl⟩, hb2⟩))
  obtain ⟨W3, hW3⟩ : ∃ W3, w2.alloc (.cells #[.int .i64 (v.a : Int), .int .i64 (v.b : Int), .int .i64 (v.c : Int), .int .i64 (v.d : Int)] 34) = W3 := ⟨_, rfl⟩
  have hb3 : Below w2.heap.size w2 W3 := by rw [← hW3]; exact (Below.refl _ w2).alloc (Nat.le_refl _) _
  have B9 : Blk W3 w2.heap.size 34 (boxC v) := by rw [← hW3]; exact Blk.new w2 34 _
  have hG3 : GameX W3 N G p X n σ (((n - 200) / 4 : Nat) : Int) tb := (GameX.below ⟨_, HG1.out, HT1.out, HL1.out, hbG⟩ hb2).below hb3
  have g3 := (HG1.out.below hb2 HG1.out.lt).below hb3 (HG1.out.below hb2 HG1.out.lt).lt
  rw [hW3]
  have rS : W3.cell? ⟨G, 2, none⟩ = some (.slice sa tb.length sc) := g3.cell 2
  have rR : W3.cell? ⟨G, 3, none⟩ = some (.int .i64 (((n - 200) / 4 : Nat) : Int)) := g3.cell 3
  have s0 : W3.cell? ⟨w2.heap.size, 0, none⟩ = some (.int .i64 (v.a : Int)) := B9.cell 0
  have s1 : W3.cell? ⟨w2.heap.size, 1, none⟩ = some (.int .i64 (v.b : Int)) := B9.cell 1
  have s2 : W3.cell? ⟨w2.heap.size, 2, none⟩ = some (.int .i64 (v.c : Int)) := B9.cell 2
  have s3 : W3.cell? ⟨w2.heap.size, 3, none⟩ = some (.int .i64 (v.d : Int)) := B9.cell 3
  obtain ⟨rm, hrme⟩ : ∃ rm, (n - 200) / 4 = rm := ⟨_, rfl⟩
  have hrm0 : 0 < rm := by omega
  have hrm0' : (0 : Int) < (rm : Int) := by omega
  have HG3 : Hid (GameX W3 N G p X n σ (((n - 200) / 4 : Nat) : Int) tb) := hG3
  have HRM : Hid ((n - 200) / 4 = rm) := hrme
  have HBW3 : Hid (Keep N w W3) := (HBW1.out.trans (Keep.below hb2)).trans (Keep.below hb3)
  rw [hrme] at rR hrm
  clear hW3 hb3 B9 g3 hG3 hrc hrme p0 p2 pX pS pR pD HB6
  cases hg : tget (id : Int) tb with
  | none =>
    have HG : Hid (tget (id : Int) tb = none) := hg
    by_cases hfull : rm ≤ tb.length
    · have hf1 : (rm : Int) ≤ (tb.length : Int) := by omega
      go_quiet (fail)
      obtain ⟨W5, hW5⟩ : ∃ W5, W3.drewN nq = W5 := ⟨_, rfl⟩
      have hb5 : Below W3.heap.size W3 W5 := by rw [← hW5]; exact below_drewN W3 nq _
      have r5 : W5.cell? ⟨G, 3, none⟩ = some (.int .i64 (rm : Int)) := by rw [← hW5]; exact rR
      rw [hW5]
      clear hW5
      go_wp2
      go_ret
      exact ⟨rfl, HBW3.out.trans (Keep.below hb5), X, σ, tb, HG3.out.below hb5, by rw [HRM.out]; exact hrm, fun _ => (Adds.refl σ).mono (by omega)⟩
    · have hf1 : ¬ (rm : Int) ≤ (tb.length : Int) := by omega
      have hl2 : (tput (id : Int) v tb).length ≤ (n - 200) / 4 := by rw [tput_len_new hg, HRM.out]; omega
      go_quiet (fail)
      obtain ⟨W5, hW5⟩ : ∃ W5, W3.drewN nq = W5 := ⟨_, rfl⟩
      have hb5 : Below W3.heap.size W3 W5 := by rw [← hW5]; exact below_drewN W3 nq _
      have u0 : W5.cell? ⟨w2.heap.size, 0, none⟩ = some (.int .i64 (v.a : Int)) := by rw [← hW5]; exact s0
      have u1 : W5.cell? ⟨w2.heap.size, 1, none⟩ = some (.int .i64 (v.b : Int)) := by rw [← hW5]; exact s1
      have u2 : W5.cell? ⟨w2.heap.size, 2, none⟩ = some (.int .i64 (v.c : Int)) := by rw [← hW5]; exact s2
      have u3 : W5.cell? ⟨w2.heap.size, 3, none⟩ = some (.int .i64 (v.d : Int)) := by rw [← hW5]; exact s3
      have r5 : W5.cell? ⟨G, 3, none⟩ = some (.int .i64 (rm : Int)) := by rw [← hW5]; exact rR
      have hgp := gput_any W5 N G p X n σ _ tb (HG3.out.below hb5) (id : Int) hid2 v hv (by rw [HRM.out]; exact hrm) hl2
      rw [hW5]
      clear hW5 s0 s1 s2 s3 rR rS
      go_wp2_with (go_at_call 25; refine hgp.mono ?_; rintro e w6 ⟨rfl, hs6, σ6, hG6, hA6⟩)
      go_ret
      exact ⟨rfl, (HBW3.out.trans (Keep.below hb5)).trans hs6, X, σ6, _, hG6, hl2, fun _ => hA6⟩
  | some v0 =>
    have hl2 : (tput (id : Int) v tb).length ≤ (n - 200) / 4 := by rw [tput_len HUP.out.1 hg, HRM.out]; exact hrm
    by_cases hfull : rm ≤ tb.length
    · have hf1 : (rm : Int) ≤ (tb.length : Int) := by omega
      go_quiet (fail)
      obtain ⟨W5, hW5⟩ : ∃ W5, W3.drewN nq = W5 := ⟨_, rfl⟩
      have hb5 : Below W3.heap.size W3 W5 := by rw [← hW5]; exact below_drewN W3 nq _
      have u0 : W5.cell? ⟨w2.heap.size, 0, none⟩ = some (.int .i64 (v.a : Int)) := by rw [← hW5]; exact s0
      have u1 : W5.cell? ⟨w2.heap.size, 1, none⟩ = some (.int .i64 (v.b : Int)) := by rw [← hW5]; exact s1
      have u2 : W5.cell? ⟨w2.heap.size, 2, none⟩ = some (.int .i64 (v.c : Int)) := by rw [← hW5]; exact s2
      have u3 : W5.cell? ⟨w2.heap.size, 3, none⟩ = some (.int .i64 (v.d : Int)) := by rw [← hW5]; exact s3
      have r5 : W5.cell? ⟨G, 3, none⟩ = some (.int .i64 (rm : Int)) := by rw [← hW5]; exact rR
      have hgp := gput_any W5 N G p X n σ _ tb (HG3.out.below hb5) (id : Int) hid2 v hv (by rw [HRM.out]; exact hrm) hl2
      rw [hW5]
      clear hW5 s0 s1 s2 s3 rR rS
      go_wp2_with (go_at_call 25; refine hgp.mono ?_; rintro e w6 ⟨rfl, hs6, σ6, hG6, hA6⟩)
      go_ret
      exact ⟨rfl, (HBW3.out.trans (Keep.below hb5)).trans hs6, X, σ6, _, hG6, hl2, fun _ => hA6⟩
    · have hf1 : ¬ (rm : Int) ≤ (tb.length : Int) := by omega
      go_quiet (fail)
      obtain ⟨W5, hW5⟩ : ∃ W5, W3.drewN nq = W5 := ⟨_, rfl⟩
      have hb5 : Below W3.heap.size W3 W5 := by rw [← hW5]; exact below_drewN W3 nq _
      have u0 : W5.cell? ⟨w2.heap.size, 0, none⟩ = some (.int .i64 (v.a : Int)) := by rw [← hW5]; exact s0
      have u1 : W5.cell? ⟨w2.heap.size, 1, none⟩ = some (.int .i64 (v.b : Int)) := by rw [← hW5]; exact s1
      have u2 : W5.cell? ⟨w2.heap.size, 2, none⟩ = some (.int .i64 (v.c : Int)) := by rw [← hW5]; exact s2
      have u3 : W5.cell? ⟨w2.heap.size, 3, none⟩ = some (.int .i64 (v.d : Int)) := by rw [← hW5]; exact s3
      have r5 : W5.cell? ⟨G, 3, none⟩ = some (.int .i64 (rm : Int)) := by rw [← hW5]; exact rR
      have hgp := gput_any W5 N G p X n σ _ tb (HG3.out.below hb5) (id : Int) hid2 v hv (by rw [HRM.out]; exact hrm) hl2
      rw [hW5]
      clear hW5 s0 s1 s2 s3 rR rS
      go_wp2_with (go_at_call 25; refine hgp.mono ?_; rintro e w6 ⟨rfl, hs6, σ6, hG6, hA6⟩)
      go_ret
      exact ⟨rfl, (HBW3.out.trans (Keep.below hb5)).trans hs6, X, σ6, _, hG6, hl2, fun _ => hA6⟩
end
end Go.Proofs.YtdgbgmffpcooeaaGreat
