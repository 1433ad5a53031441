/- Nm4 Nm5 -/
import Derived.Test.YtdgbgmffpcooeaaGreatI42
import Derived.Test.YtdgbgmffpcooeaaGreatI45
import Derived.Shelf.RegionOpenPlain
namespace Go.Proofs.YtdgbgmffpcooeaaGreat
open Go.RowKit Go.Lib
section
abbrev gameC (p X : Nat) (sv : Value) (room : Int) : Array Value := #[.pointer (some ⟨p, 0, none⟩), .pointer (some ⟨X, 0, none⟩), sv, .int .i64 room]
def GameX (W : World) (N : Nat → Prop) (G p X n : Nat) (σ : PS) (room : Int) (tb : List (Int × Box)) : Prop :=
  ∃ sv, Blk W G 62 (gameC p X sv room) ∧ TabV W 0 sv tb ∧ LiveX W N p X n σ tb ∧ ¬ N G
theorem GameX.below {w W : World} {N : Nat → Prop} {G p X n : Nat} {σ : PS} {room : Int} {tb : List (Int × Box)} (h : GameX w N G p X n σ room tb) (hb : Below w.heap.size w W) : GameX W N G p X n σ room tb := by
  obtain ⟨sv, h1, h2, h3⟩ := h
  exact ⟨sv, (hb.block G h1.lt).trans h1, own_below h2 hb, h3.1.below hb, h3.2⟩
set_option maxRecDepth 100000 in
set_option maxHeartbeats 4000000 in
theorem gput_any (w : World) (N : Nat → Prop) (G p X n : Nat) (σ : PS) (room : Int) (tb : List (Int × Box)) (h : GameX w N G p X n σ room tb) (id : Int) (hid : 0 ≤ id ∧ id ≤ 4611686018427387904) (v : Box) (hv : v.ok) (hr1 : tb.length ≤ (n - 200) / 4) (hr2 : (tput id v tb).length ≤ (n - 200) / 4) :
    Calls Tryz.prog 25 #[.pointer (some ⟨G, 0, none⟩), .int .i64 id, .agg (boxC v)] w fun e w' => e = .returned (.int .i64 0) ∧ Keep N w w' ∧ ∃ σ', GameX w' N G p X n σ' room (tput id v tb) ∧ Adds σ σ' 400 := by
  obtain ⟨W0, hW0⟩ : ∃ W0, w.alloc (.cells #[.int .i64 (v.a : Int), .int .i64 (v.b : Int), .int .i64 (v.c : Int), .int .i64 (v.d : Int)] 34) = W0 := ⟨_, rfl⟩
  have hb0 : Below w.heap.size w W0 := by rw [← hW0]; exact (Below.refl _ w).alloc (Nat.le_refl _) _
  have B0 : Blk W0 w.heap.size 34 (boxC v) := by rw [← hW0]; exact Blk.new w 34 (boxC v)
  obtain ⟨sv, hG, hT, hL, hbG⟩ := h.below hb0
  have HBW : Hid (Keep N w W0) := Keep.below hb0
  have HW0 : Hid (w.alloc (.cells #[.int .i64 (v.a : Int), .int .i64 (v.b : Int), .int .i64 (v.c : Int), .int .i64 (v.d : Int)] 34) = W0) := hW0
  have HU : Hid (Ups tb ∧ tb.length ≤ 1000000) := ⟨hL.up.1, hL.up.2.2.2.1⟩
  have hc := live_put (hL.below ((Below.refl _ W0).drew)) hid hv hr1 hr2
  have q0 : W0.cell? ⟨w.heap.size, 0, none⟩ = some (.int .i64 (v.a : Int)) := B0.cell 0
  have q1 : W0.cell? ⟨w.heap.size, 1, none⟩ = some (.int .i64 (v.b : Int)) := B0.cell 1
  have q2 : W0.cell? ⟨w.heap.size, 2, none⟩ = some (.int .i64 (v.c : Int)) := B0.cell 2
  have q3 : W0.cell? ⟨w.heap.size, 3, none⟩ = some (.int .i64 (v.d : Int)) := B0.cell 3
  have qX : W0.cell? ⟨G, 1, none⟩ = some (.pointer (some ⟨X, 0, none⟩)) := hG.cell 1
  have HK : Hid (∀ W', CalmW N W0.drew W' → Blk W' G 62 (gameC p X sv room) ∧ Blk W' w.heap.size 34 (boxC v) ∧ TabV W' 0 sv tb) := fun W' hC => ⟨hC.blk hG.drew (by unfold own5; omega), hC.blk B0.drew (by unfold own5; omega), hC.row (own_below hT ((Below.refl _ W0).drew)) (by unfold own5; omega)⟩
  have HS : Hid (∀ W', Blk W' G 62 (gameC p X sv room) → Blk W' w.heap.size 34 (boxC v) → W'.cell? ⟨G, 1, none⟩ = some (.pointer (some ⟨X, 0, none⟩)) ∧ W'.cell? ⟨w.heap.size, 0, none⟩ = some (.int .i64 (v.a : Int)) ∧ W'.cell? ⟨w.heap.size, 1, none⟩ = some (.int .i64 (v.b : Int)) ∧ W'.cell? ⟨w.heap.size, 2, none⟩ = some (.int .i64 (v.c : Int)) ∧ W'.cell? ⟨w.heap.size, 3, none⟩ = some (.int .i64 (v.d : Int))) := fun W' a b => ⟨a.cell 1, b.cell 0, b.cell 1, b.cell 2, b.cell 3⟩
  have hs0 := hb0.size
  clear hW0 h hG B0 hb0 hT hL
  go_enter Tryz.func25, Tryz.ntmps25
  go_upto_region 1 with fail
  rw [HW0.out]
  go_region_held3 (fun W' => W'.cell? ⟨G, 1, none⟩ = some (.pointer (some ⟨X, 0, none⟩)) ∧ W'.cell? ⟨w.heap.size, 0, none⟩ = some (.int .i64 (v.a : Int)) ∧ W'.cell? ⟨w.heap.size, 1, none⟩ = some (.int .i64 (v.b : Int)) ∧ W'.cell? ⟨w.heap.size, 2, none⟩ = some (.int .i64 (v.c : Int)) ∧ W'.cell? ⟨w.heap.size, 3, none⟩ = some (.int .i64 (v.d : Int)))
    (first
      | exact ⟨qX, q0, q1, q2, q3⟩
      | exact HS.out _ (HK.out _ hC1).1 (HK.out _ hC1).2.1
      | go_keep)
    ((go_at_call 10; refine hc.mono ?_; rintro e w1 ⟨rfl, hC1, σ', hL1, hA1⟩))
  obtain ⟨g1, b1, t1⟩ := HK.out w1 hC1
  have hs1 : W0.heap.size ≤ w1.heap.size := hC1.size
  have HBW1 : Hid (Keep N w w1) := HBW.out.trans ((Keep.below ((Below.refl _ W0).drew)).trans hC1.keep)
  have HG1 : Hid (Blk w1 G 62 (gameC p X sv room)) := g1
  have HL1 : Hid (LiveX w1 N p X n σ' (tput id v tb)) := hL1
  obtain ⟨sa, sc, rfl, _, _, _⟩ := own_shape t1
  have hmp := mput_any w1.drew 0 (.slice sa tb.length sc) tb (own_below t1 ((Below.refl _ w1).drew)) HU.out.1 HU.out.2 id v
  have p0 : w1.cell? ⟨w.heap.size, 0, none⟩ = some (.int .i64 (v.a : Int)) := b1.cell 0
  have p1 : w1.cell? ⟨w.heap.size, 1, none⟩ = some (.int .i64 (v.b : Int)) := b1.cell 1
  have p2 : w1.cell? ⟨w.heap.size, 2, none⟩ = some (.int .i64 (v.c : Int)) := b1.cell 2
  have p3 : w1.cell? ⟨w.heap.size, 3, none⟩ = some (.int .i64 (v.d : Int)) := b1.cell 3
  have pS : w1.cell? ⟨G, 2, none⟩ = some (.slice sa tb.length sc) := g1.cell 2
  have hGl := g1.lt
  clear hc HK HS q0 q1 q2 q3 qX hL1 g1 b1 t1 hC1
  go_upto_region 3 with fail
  have hmx : Tryz.prog.follows .mixedOrders = true := by kernel_rfl
  go_region_with_o (first
    | (go_at_call 53; refine hmp.mono ?_; rintro e w2 ⟨ov, rfl, hT2, hb2⟩; obtain ⟨oa, oc, rfl, _, _, _⟩ := own_shape hT2; have hb2' : Below w1.heap.size w1 w2 := ((Below.refl _ w1).drew).trans hb2; have g2 := HG1.out.below hb2' hGl; have d2 : w2.cell? ⟨G, 2, none⟩ = some (.slice sa tb.length sc) := g2.cell 2; have f2 : w2.frozen? ⟨G, 2, none⟩ = false := g2.frozen 2))
  all_goals
    go_wp2
    go_ret
    have o2 : Off (fun k => k = G) w2 (w2.setCell ⟨G, 2, none⟩ (.slice oa (tput id v tb).length oc)) := Off.one w2 _
    have hbw2 : Keep N w w2 := HBW1.out.trans (Keep.below hb2')
    exact ⟨rfl, hbw2.trans (Keep.off o2 (fun k h => h ▸ hbG)), σ', ⟨_, g2.set 2 _, own_offv (own_mono hT2 (Nat.zero_le _)) o2 (fun g hg e => own_ne hT2 g2 (by decide) g hg e), (HL1.out.below hb2').off g2 (by unfold own5; omega) (by decide) (by decide) o2, hbG⟩, hA1⟩
end
section
theorem meet_both {s r : Box} (hs : s.ok) (hr : r.ok) : (decide (s.a ≤ r.c) && decide (r.a ≤ s.c) && decide (s.b ≤ r.d) && decide (r.b ≤ s.d)) = decide ((both s r).ok) := by
  obtain ⟨a1, a2, a3, a4⟩ := hs
  obtain ⟨b1, b2, b3, b4⟩ := hr
  have e : (both s r).ok ↔ (s.a ≤ r.c ∧ r.a ≤ s.c ∧ s.b ≤ r.d ∧ r.b ≤ s.d) := by
    constructor
    · rintro ⟨h1, h2, h3, h4⟩
      simp only [both] at h1 h2 h3 h4
      omega
    · rintro ⟨h1, h2, h3, h4⟩
      refine ⟨?_, ?_, ?_, ?_⟩ <;> simp only [both] <;> omega
  by_cases h : (both s r).ok
  · obtain ⟨h1, h2, h3, h4⟩ := e.1 h
    simp [h, h1, h2, h3, h4]
  · rw [decide_eq_false h]
    have h' := fun q => h (e.2 q)
    rw [Bool.eq_false_iff]
    intro q
    simp only [Bool.and_eq_true, decide_eq_true_eq] at q
    exact h' ⟨q.1.1.1, q.1.1.2, q.1.2, q.2⟩
theorem below_drewN (w : World) (q k : Nat) : Below k w (w.drewN q) := ⟨rfl, rfl, rfl, Nat.le_refl _, fun _ _ => rfl⟩
theorem winL_snoc {r : Box} {T : List (Int × Box)} {x : Int × Box} : winL r (T ++ [x]) = winL r T ++ (if (both x.2 r).ok then [x.1] else []) := by
  unfold winL
  rw [List.filter_append, List.map_append]
  congr 1
  by_cases h : (both x.2 r).ok
  · simp [h]
  · simp [h]
theorem winL_at {r : Box} {tb : List (Int × Box)} {i : Nat} {x : Int × Box} (h : tb[i]? = some x) (hm : (both x.2 r).ok) : (winL r tb)[(winL r (tb.take i)).length]? = some x.1 := by
  have e : tb = tb.take i ++ ([x] ++ tb.drop (i + 1)) := by
    have := drop_get h
    rw [List.singleton_append, ← this, List.take_append_drop]
  have e2 : winL r tb = winL r (tb.take i) ++ (x.1 :: winL r (tb.drop (i + 1))) := by
    conv => lhs; rw [e]
    unfold winL
    rw [List.filter_append, List.filter_append, List.map_append, List.map_append]
    simp [hm]
  rw [e2, List.getElem?_append_right (Nat.le_refl _), Nat.sub_self]
  rfl
theorem own_int {W : World} {base g cap : Nat} {l : List Int} (h : W.ownsRow base 3 1 (.slice (some ⟨g, 0, none⟩) l.length cap) l.length (intsV l)) {k : Nat} {x : Int} (hx : l[k]? = some x) : W.cell? ⟨g, k, none⟩ = some (.int .i64 x) := by
  have hk : k < l.length := (List.getElem?_eq_some_iff.1 hx).1
  have := (own_cell h k (by omega)).1
  rw [show (intsV l)[k]? = some (.int .i64 x) by simp [intsV, hx]] at this
  exact this
theorem own_int_form {W : World} {base : Nat} {l : List Int} {v : Value} (h : W.ownsRow base 3 1 v l.length (intsV l)) (hl : 0 < l.length) : ∃ g cap, v = .slice (some ⟨g, 0, none⟩) l.length cap := by
  obtain ⟨_, ⟨e, hn⟩ | ⟨g, cap, cur, e, _⟩⟩ := h
  · omega
  · exact ⟨g, cap, e⟩
set_option maxRecDepth 100000 in
set_option maxHeartbeats 4000000 in
theorem gwin_any (w : World) (N : Nat → Prop) (G p X n : Nat) (σ : PS) (room : Int) (tb : List (Int × Box)) (h : GameX w N G p X n σ room tb) (r : Box) (hr : r.ok) :
    Calls Tryz.prog 46 #[.pointer (some ⟨G, 0, none⟩), .agg (boxC r)] w fun e w' => e = .returned (.bool true) ∧ CalmW N w w' ∧ ∃ σ', GameX w' N G p X n σ' room tb := by
  obtain ⟨W0, hW0⟩ : ∃ W0, w.alloc (.cells #[.int .i64 (r.a : Int), .int .i64 (r.b : Int), .int .i64 (r.c : Int), .int .i64 (r.d : Int)] 34) = W0 := ⟨_, rfl⟩
  have hb0 : Below w.heap.size w W0 := by rw [← hW0]; exact (Below.refl _ w).alloc (Nat.le_refl _) _
  have B0 : Blk W0 w.heap.size 34 (boxC r) := by rw [← hW0]; exact Blk.new w 34 (boxC r)
  obtain ⟨sv, hG, hT, hL, hbG⟩ := h.below hb0
  have HW0 : Hid (w.alloc (.cells #[.int .i64 (r.a : Int), .int .i64 (r.b : Int), .int .i64 (r.c : Int), .int .i64 (r.d : Int)] 34) = W0) := hW0
  have hup := hL.up
  have HOK : Hid (∀ t ∈ tb, t.2.ok) := fun t ht => (hup.2.2.2.2 t ht).1
  have hlen := hup.2.2.2.1
  have hc := live_win (hL.below ((Below.refl _ W0).drew)) hr
  have HBW0 : Hid (Below w.heap.size w W0) := hb0
  have q0 : W0.cell? ⟨w.heap.size, 0, none⟩ = some (.int .i64 (r.a : Int)) := B0.cell 0
  have q1 : W0.cell? ⟨w.heap.size, 1, none⟩ = some (.int .i64 (r.b : Int)) := B0.cell 1
  have q2 : W0.cell? ⟨w.heap.size, 2, none⟩ = some (.int .i64 (r.c : Int)) := B0.cell 2
  have q3 : W0.cell? ⟨w.heap.size, 3, none⟩ = some (.int .i64 (r.d : Int)) := B0.cell 3
  have qX : W0.cell? ⟨G, 1, none⟩ = some (.pointer (some ⟨X, 0, none⟩)) := hG.cell 1
  have HK : Hid (∀ W', CalmW N W0.drew W' → Blk W' G 62 (gameC p X sv room) ∧ Blk W' w.heap.size 34 (boxC r) ∧ TabV W' 0 sv tb) := fun W' hC => ⟨hC.blk hG.drew (by unfold own5; omega), hC.blk B0.drew (by unfold own5; omega), hC.row (own_below hT ((Below.refl _ W0).drew)) (by unfold own5; omega)⟩
  have HS : Hid (∀ W', Blk W' G 62 (gameC p X sv room) → Blk W' w.heap.size 34 (boxC r) → W'.cell? ⟨G, 1, none⟩ = some (.pointer (some ⟨X, 0, none⟩)) ∧ W'.cell? ⟨w.heap.size, 0, none⟩ = some (.int .i64 (r.a : Int)) ∧ W'.cell? ⟨w.heap.size, 1, none⟩ = some (.int .i64 (r.b : Int)) ∧ W'.cell? ⟨w.heap.size, 2, none⟩ = some (.int .i64 (r.c : Int)) ∧ W'.cell? ⟨w.heap.size, 3, none⟩ = some (.int .i64 (r.d : Int))) := fun W' a b => ⟨a.cell 1, b.cell 0, b.cell 1, b.cell 2, b.cell 3⟩
  clear hW0 h hG B0 hb0 hT hL hup
  go_enter Tryz.func46, Tryz.ntmps46
  go_upto_region 1 with fail
  rw [HW0.out]
  go_region_held3 (fun W' => W'.cell? ⟨G, 1, none⟩ = some (.pointer (some ⟨X, 0, none⟩)) ∧ W'.cell? ⟨w.heap.size, 0, none⟩ = some (.int .i64 (r.a : Int)) ∧ W'.cell? ⟨w.heap.size, 1, none⟩ = some (.int .i64 (r.b : Int)) ∧ W'.cell? ⟨w.heap.size, 2, none⟩ = some (.int .i64 (r.c : Int)) ∧ W'.cell? ⟨w.heap.size, 3, none⟩ = some (.int .i64 (r.d : Int)))
    (first
      | exact ⟨qX, q0, q1, q2, q3⟩
      | exact HS.out _ (HK.out _ hC1).1 (HK.out _ hC1).2.1
      | go_keep)
    ((go_at_call 11; refine hc.mono ?_; rintro e w1 ⟨lv, rfl, hrow1, hC1, σ', hL1, _⟩; obtain ⟨la, lc, rfl, _, _, _⟩ := own_shape hrow1))
  obtain ⟨g1, b1, t1⟩ := HK.out w1 hC1
  have HG1 : Hid (Blk w1 G 62 (gameC p X sv room)) := g1
  have HB1 : Hid (Blk w1 w.heap.size 34 (boxC r)) := b1
  have HT1 : Hid (TabV w1 0 sv tb) := t1
  have HL1 : Hid (LiveX w1 N p X n σ' tb) := hL1
  have HR1 : Hid (w1.ownsRow W0.drew.heap.size 3 1 (.slice la (winL r tb).length lc) (winL r tb).length (intsV (winL r tb))) := hrow1
  have HC1 : Hid (CalmW N w w1) := (CalmW.below HBW0.out).trans ((CalmW.below ((Below.refl _ W0).drew)).trans hC1)
  obtain ⟨sa, sc, rfl, _, _, _⟩ := own_shape t1
  have hwl : (winL r tb).length ≤ tb.length := by unfold winL; rw [List.length_map]; exact List.length_filter_le ..
  clear hc HK HS q0 q1 q2 q3 qX hL1 g1 b1 t1 hC1 hrow1 HBW0 HW0
  go_upto_region 3 with fail
  go_wp2
  go_loopw [7, 8] (fun kx x wr => ∃ i : Nat, x = .int .i64 (i : Int) ∧ i ≤ tb.length ∧ kx = .int .i64 ((winL r (tb.take i)).length : Int) ∧ Below w1.heap.size w1 wr) (fun _ x _ => tb.length - (intOf x).toNat)
  case atStart => exact ⟨0, rfl, Nat.zero_le _, by simp [winL], Below.refl _ _⟩
  case round =>
    obtain ⟨i, rfl, hi, rfl, hbr⟩ := hrel
    have g2 := HG1.out.below hbr HG1.out.lt
    have b2 := HB1.out.below hbr HB1.out.lt
    have t2 := own_below HT1.out hbr
    have cS : wr.cell? ⟨G, 2, none⟩ = some (.slice sa tb.length sc) := g2.cell 2
    by_cases hlt : i < tb.length
    · have hlt' : (i : Int) < (tb.length : Int) := by omega
      obtain ⟨x, hx⟩ : ∃ x, tb[i]? = some x := ⟨_, List.getElem?_eq_getElem hlt⟩
      have hsa : ∃ g, sa = some ⟨g, 0, none⟩ := by
        obtain ⟨_, ⟨e, hn⟩ | ⟨g, cap, cur, e, _⟩⟩ := HT1.out
        · omega
        · cases e; exact ⟨g, rfl⟩
      obtain ⟨g, rfl⟩ := hsa
      have y := own_cellM t2 hx
      have y1 : wr.cell? ⟨g, i * 5 + 1, none⟩ = some (.int .i64 (x.2.a : Int)) := y 1 _ rfl
      have y2 : wr.cell? ⟨g, i * 5 + 2, none⟩ = some (.int .i64 (x.2.b : Int)) := y 2 _ rfl
      have y3 : wr.cell? ⟨g, i * 5 + 3, none⟩ = some (.int .i64 (x.2.c : Int)) := y 3 _ rfl
      have y4 : wr.cell? ⟨g, i * 5 + 4, none⟩ = some (.int .i64 (x.2.d : Int)) := y 4 _ rfl
      have q0 : wr.cell? ⟨w.heap.size, 0, none⟩ = some (.int .i64 (r.a : Int)) := b2.cell 0
      have q1 : wr.cell? ⟨w.heap.size, 1, none⟩ = some (.int .i64 (r.b : Int)) := b2.cell 1
      have q2 : wr.cell? ⟨w.heap.size, 2, none⟩ = some (.int .i64 (r.c : Int)) := b2.cell 2
      have q3 : wr.cell? ⟨w.heap.size, 3, none⟩ = some (.int .i64 (r.d : Int)) := b2.cell 3
      have hme := meet_any wr.drew x.2 r
      rw [meet_both (HOK.out x (List.mem_of_getElem? hx)) hr] at hme
      have HX : Hid (tb[i]? = some x) := hx
      have HS2 : Hid (∀ W', Below wr.heap.size wr W' → W'.cell? ⟨G, 2, none⟩ = some (.slice (some ⟨g, 0, none⟩) tb.length sc) ∧ W'.cell? ⟨g, i * 5 + 1, none⟩ = some (.int .i64 (x.2.a : Int)) ∧ W'.cell? ⟨g, i * 5 + 2, none⟩ = some (.int .i64 (x.2.b : Int)) ∧ W'.cell? ⟨g, i * 5 + 3, none⟩ = some (.int .i64 (x.2.c : Int)) ∧ W'.cell? ⟨g, i * 5 + 4, none⟩ = some (.int .i64 (x.2.d : Int)) ∧ W'.cell? ⟨w.heap.size, 0, none⟩ = some (.int .i64 (r.a : Int)) ∧ W'.cell? ⟨w.heap.size, 1, none⟩ = some (.int .i64 (r.b : Int)) ∧ W'.cell? ⟨w.heap.size, 2, none⟩ = some (.int .i64 (r.c : Int)) ∧ W'.cell? ⟨w.heap.size, 3, none⟩ = some (.int .i64 (r.d : Int))) := fun W' hb => by
        have g3 := g2.below hb g2.lt
        have b3 := b2.below hb b2.lt
        have y' := own_cellM (own_below t2 hb) hx
        exact ⟨g3.cell 2, y' 1 _ rfl, y' 2 _ rfl, y' 3 _ rfl, y' 4 _ rfl, b3.cell 0, b3.cell 1, b3.cell 2, b3.cell 3⟩
      have HBR : Hid (Below w1.heap.size w1 wr) := hbr
      clear y hx g2 b2 t2 hbr
      go_upto_region 6 with fail
      go_region_held3 (fun W' => W'.cell? ⟨G, 2, none⟩ = some (.slice (some ⟨g, 0, none⟩) tb.length sc) ∧ W'.cell? ⟨g, i * 5 + 1, none⟩ = some (.int .i64 (x.2.a : Int)) ∧ W'.cell? ⟨g, i * 5 + 2, none⟩ = some (.int .i64 (x.2.b : Int)) ∧ W'.cell? ⟨g, i * 5 + 3, none⟩ = some (.int .i64 (x.2.c : Int)) ∧ W'.cell? ⟨g, i * 5 + 4, none⟩ = some (.int .i64 (x.2.d : Int)) ∧ W'.cell? ⟨w.heap.size, 0, none⟩ = some (.int .i64 (r.a : Int)) ∧ W'.cell? ⟨w.heap.size, 1, none⟩ = some (.int .i64 (r.b : Int)) ∧ W'.cell? ⟨w.heap.size, 2, none⟩ = some (.int .i64 (r.c : Int)) ∧ W'.cell? ⟨w.heap.size, 3, none⟩ = some (.int .i64 (r.d : Int)))
        (first
          | exact ⟨cS, y1, y2, y3, y4, q0, q1, q2, q3⟩
          | exact HS2.out _ hb3'
          | go_keep)
        ((go_at_call 70; refine hme.mono ?_; rintro e w3 ⟨rfl, hb3⟩; have hb3' : Below wr.heap.size wr w3 := ((Below.refl _ wr).drew).trans hb3))
      have hbr3 : Below w1.heap.size w1 w3 := HBR.out.trans (hb3'.mono HBR.out.size)
      have HBR3 : Hid (Below w1.heap.size w1 w3) := hbr3
      by_cases hm : (both x.2 r).ok
      · have HSN : Hid (winL r (tb.take (i + 1)) = winL r (tb.take i) ++ [x.1]) := by show _ = _; rw [take_get HX.out, winL_snoc, if_pos hm]
        have hat := winL_at HX.out hm
        have hkl : (winL r (tb.take i)).length < (winL r tb).length := (List.getElem?_eq_some_iff.1 hat).1
        have r3 := own_below HR1.out hbr3
        obtain ⟨lg, lc', hle⟩ := own_int_form r3 (by omega)
        cases hle
        have z0 : w3.cell? ⟨lg, (winL r (tb.take i)).length, none⟩ = some (.int .i64 x.1) := own_int r3 hat
        obtain ⟨s2, _⟩ := HS2.out w3 hb3'
        have y0 : w3.cell? ⟨g, i * 5, none⟩ = some (.int .i64 x.1) := own_cellM (own_below HT1.out hbr3) HX.out 0 _ rfl
        have hd : decide ((both x.2 r).ok) = true := decide_eq_true hm
        have HLEN : Hid ((winL r (tb.take (i + 1))).length = (winL r (tb.take i)).length + 1) := by show _ = _; rw [HSN.out]; simp
        obtain ⟨kk, hkk⟩ : ∃ kk, (winL r (tb.take i)).length = kk := ⟨_, rfl⟩
        obtain ⟨wl, hwle⟩ : ∃ wl, (winL r tb).length = wl := ⟨_, rfl⟩
        rw [hkk] at hkl z0 HLEN
        rw [hkk]
        rw [hwle] at hkl hwl
        rw [hwle]
        have hkl' : ¬ (wl : Int) ≤ (kk : Int) := by omega
        rw [hd]
        have HWL : Hid ((winL r tb).length = wl) := hwle
        clear hat r3 hbr3 hkk hwle hm hd cS y1 y2 y3 y4 q0 q1 q2 q3 hb3 hme
        go_upto_region 8 with fail
        go_quiet (fail)
        have hwl2 := HWL.out
        subst hwl2
        clear HWL
        go_wp2
        refine ⟨⟨i + 1, by go_num, by omega, ?_, HBR3.out.trans (below_drewN w3 nq _)⟩, by simp [intOf]; omega⟩
        rw [HLEN.out]
        go_num
      · have HSN : Hid (winL r (tb.take (i + 1)) = winL r (tb.take i)) := by show _ = _; rw [take_get HX.out, winL_snoc, if_neg hm, List.append_nil]
        have hd : decide ((both x.2 r).ok) = false := decide_eq_false hm
        rw [hd]
        clear hm hd hbr3 hb3
        go_wp2
        exact ⟨⟨i + 1, by go_num, by omega, by rw [HSN.out], HBR3.out⟩, by simp [intOf]; omega⟩
    · have hlt' : ¬ (i : Int) < (tb.length : Int) := by omega
      have hin : i = tb.length := by omega
      subst hin
      rw [List.take_length]
      have HBR : Hid (Below w1.heap.size w1 wr) := hbr
      clear hbr g2 b2 t2
      go_wp2
      go_ret
      exact ⟨rfl, HC1.out.trans (CalmW.below HBR.out), σ', _, HG1.out.below HBR.out HG1.out.lt, own_below HT1.out HBR.out, HL1.out.below HBR.out, hbG⟩
end
end Go.Proofs.YtdgbgmffpcooeaaGreat
