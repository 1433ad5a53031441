/- En1 Se2 Se3 Mk1 -/
import Derived.Test.YtdgbgmffpcooeaaGreatC30
import Derived.Test.YtdgbgmffpcooeaaGreatC29
import Derived.Test.YtdgbgmffpcooeaaGreatC01
section
/- The entries that a rectangle has. -/
namespace Go.Proofs.YtdgbgmffpcooeaaGreat
open Go.RowKit Go.Lib
open Classical in
/-- The cells of a rectangle. -/
noncomputable def covL (v : Box) : List (Nat × Nat) := if h : v.ok then (covers_of v h).choose_spec.choose else []
theorem covL_is {v : Box} (h : v.ok) : IsCover v (covers_of v h).choose (covL v) := by
  unfold covL
  rw [dif_pos h]
  exact (covers_of v h).choose_spec.choose_spec
noncomputable def plc (v : Box) : List Nat := (covL v).map place
theorem cover_cell {v : Box} {k : Nat} {l : List (Nat × Nat)} (hv : v.ok) (h : IsCover v k l) {c : Nat × Nat} (hc : c ∈ l) : CellOk c := by
  have g := h.good hv hc
  have hk := h.k15 hv
  have e := g.cell
  have p4 := Nat.pow_pos (n := k) (show 0 < 4 by decide)
  have hf := g.fits
  refine ⟨by rw [g.two]; omega, ?_, ?_⟩
  · rw [g.two]; exact ⟨c.1 / 4 ^ k, by rw [Nat.mul_comm]; exact e⟩
  · rw [Nat.add_mul, ← e] at hf
    show c.1 < 4294967296
    omega
theorem plc_ok {v : Box} (h : v.ok) : PlOk plc v := by
  have hc := covL_is h
  have hl := hc.len h
  refine ⟨?_, fun p hp => ?_, by unfold plc; rw [List.length_map]; omega, by unfold plc; rw [List.length_map]; omega⟩
  · unfold plc
    refine List.Pairwise.map _ (fun a b hab => hab) (List.Pairwise.imp_of_mem (fun {a b} ha hb hab e => hab ?_) (hc.nodup h))
    have := congrArg cellAt e
    rw [cellAt_place (cover_cell h hc ha).size, cellAt_place (cover_cell h hc hb).size] at this
    exact this
  · obtain ⟨c, hcm, rfl⟩ := List.mem_map.1 hp
    have := place_lt (cover_cell h hc hcm)
    exact this
def celEnt (id : Int) (v : Box) (c : Nat × Nat) : Key × Box := (((place c : Int), id), v)
theorem ents_is (id : Int) (v : Box) : ents plc id v = ((NUM, id), v) :: (covL v).map (celEnt id v) := by
  unfold ents plc
  rw [List.map_map]
  rfl
theorem own_one {W : World} {base g : Nat} {x : Key × Box} (h : Blk W g 156 #[.int .i64 x.1.1, .int .i64 x.1.2, .int .i64 (x.2.a : Int), .int .i64 (x.2.b : Int), .int .i64 (x.2.c : Int), .int .i64 (x.2.d : Int)]) (hb : base ≤ g) : W.ownsRow base 156 6 (.slice (some ⟨g, 0, none⟩) 1 1) 1 (flat pkR [x]) :=
  ⟨rfl, .inr ⟨g, 1, _, rfl, hb, h, Nat.le_refl _, by unfold maxLen; omega, by simp, by simp [flat, pkR, entC]⟩⟩
theorem flatC_get : ∀ {l : List (Nat × Nat)} {i : Nat} {x : Nat × Nat}, l[i]? = some x → (flatC l)[i * 2]? = some (.int .i64 (x.1 : Int)) ∧ (flatC l)[i * 2 + 1]? = some (.int .i64 (x.2 : Int))
  | [], i, x, h => by cases h
  | y :: l, 0, x, h => by
    simp only [List.getElem?_cons_zero, Option.some.injEq] at h
    subst h
    exact ⟨rfl, rfl⟩
  | y :: l, i + 1, x, h => by
    rw [List.getElem?_cons_succ] at h
    have := flatC_get h
    have e : flatC (y :: l) = .int .i64 (y.1 : Int) :: .int .i64 (y.2 : Int) :: flatC l := rfl
    rw [e, show (i + 1) * 2 = i * 2 + 1 + 1 by omega, show i * 2 + 1 + 1 + 1 = (i * 2 + 1) + 1 + 1 by omega, List.getElem?_cons_succ, List.getElem?_cons_succ, List.getElem?_cons_succ, List.getElem?_cons_succ]
    exact this
set_option maxRecDepth 100000 in
set_option maxHeartbeats 4000000 in
theorem entries_any (w : World) (id : Int) (v : Box) (hv : v.ok) :
    Calls Tryz.prog 83 #[.int .i64 id, .agg #[.int .i64 (v.a : Int), .int .i64 (v.b : Int), .int .i64 (v.c : Int), .int .i64 (v.d : Int)]] w fun e w' => ∃ a c, e = .returned (.slice a (ents plc id v).length c) ∧ w'.ownsRow w.heap.size 156 6 (.slice a (ents plc id v).length c) (ents plc id v).length (flat pkR (ents plc id v)) ∧ Below w.heap.size w w' := by
  obtain ⟨i0, hi0, hz0, hz1, hz2⟩ := info_parts infoR
  have HGC : Hid (∀ W1, Calls Tryz.prog 111 #[.agg #[.int .i64 (v.a : Int), .int .i64 (v.b : Int), .int .i64 (v.c : Int), .int .i64 (v.d : Int)]] W1 fun e w' => ∃ (g cap : Nat), e = .returned (.slice (some ⟨g, 0, none⟩) (covL v).length cap) ∧ w'.ownsRow (W1.heap.size + 1) 99 2 (.slice (some ⟨g, 0, none⟩) (covL v).length cap) (covL v).length (flatC (covL v)) ∧ Below W1.heap.size W1 w') := fun W1 => by
    refine (gcover_any v hv W1).mono ?_
    rintro e w' ⟨g, cap, k, l, rfl, h1, h2, h3⟩
    obtain ⟨_, rfl⟩ := cover_unique hv h2 (covL_is hv)
    exact ⟨g, cap, rfl, h1, h3⟩
  have hlen := (covL_is hv).len hv
  have HCO : Hid (∀ c ∈ covL v, CellOk c) := fun c hc => cover_cell hv (covL_is hv) hc
  rw [ents_is id v, show (((NUM, id), v) :: (covL v).map (celEnt id v)).length = (covL v).length + 1 by simp]
  generalize covL v = l at HGC hlen HCO
  clear hv
  have B0 := Blk.new w 34 #[.int .i64 (v.a : Int), .int .i64 (v.b : Int), .int .i64 (v.c : Int), .int .i64 (v.d : Int)]
  have hb0 : Below w.heap.size w (w.alloc (.cells #[.int .i64 (v.a : Int), .int .i64 (v.b : Int), .int .i64 (v.c : Int), .int .i64 (v.d : Int)] 34)) := (Below.refl _ w).alloc (Nat.le_refl _) _
  obtain ⟨W0, hW0⟩ : ∃ W0, w.alloc (.cells #[.int .i64 (v.a : Int), .int .i64 (v.b : Int), .int .i64 (v.c : Int), .int .i64 (v.d : Int)] 34) = W0 := ⟨_, rfl⟩
  have hs0 : W0.heap.size = w.heap.size + 1 := by rw [← hW0]; simp
  have HW0 : Hid (w.alloc (.cells #[.int .i64 (v.a : Int), .int .i64 (v.b : Int), .int .i64 (v.c : Int), .int .i64 (v.d : Int)] 34) = W0) := hW0
  rw [hW0] at B0 hb0
  clear hW0
  have r0 : W0.cell? ⟨w.heap.size, 0, none⟩ = some (.int .i64 (v.a : Int)) := B0.cell 0
  have r1 : W0.cell? ⟨w.heap.size, 1, none⟩ = some (.int .i64 (v.b : Int)) := B0.cell 1
  have r2 : W0.cell? ⟨w.heap.size, 2, none⟩ = some (.int .i64 (v.c : Int)) := B0.cell 2
  have r3 : W0.cell? ⟨w.heap.size, 3, none⟩ = some (.int .i64 (v.d : Int)) := B0.cell 3
  have hnk := nkey_any W0.drew id
  have HR : Hid (∀ X, Below W0.heap.size W0 X → X.cell? ⟨w.heap.size, 0, none⟩ = some (.int .i64 (v.a : Int)) ∧ X.cell? ⟨w.heap.size, 1, none⟩ = some (.int .i64 (v.b : Int)) ∧ X.cell? ⟨w.heap.size, 2, none⟩ = some (.int .i64 (v.c : Int)) ∧ X.cell? ⟨w.heap.size, 3, none⟩ = some (.int .i64 (v.d : Int))) := fun X hX => by
    have := B0.below hX B0.lt
    exact ⟨this.cell 0, this.cell 1, this.cell 2, this.cell 3⟩
  go_enter Tryz.func83, Tryz.ntmps83
  go_upto_region 1 with fail
  rw [HW0.out]
  go_region_held3 (fun W' => W'.cell? ⟨w.heap.size, 0, none⟩ = some (.int .i64 (v.a : Int)) ∧ W'.cell? ⟨w.heap.size, 1, none⟩ = some (.int .i64 (v.b : Int)) ∧ W'.cell? ⟨w.heap.size, 2, none⟩ = some (.int .i64 (v.c : Int)) ∧ W'.cell? ⟨w.heap.size, 3, none⟩ = some (.int .i64 (v.d : Int)))
    (first
      | exact ⟨r0, r1, r2, r3⟩
      | exact HR.out _ hb1'
      | exact HR.out _ (hb1'.alloc hb1'.size _)
      | go_keep)
    (first
      | (go_at_call 108; refine hnk.mono ?_; rintro e w1 ⟨rfl, hb1⟩; have hb1' : Below W0.heap.size W0 w1 := ((Below.refl _ W0).drew).trans hb1))
  obtain ⟨W1, hW1⟩ : ∃ W1, w1.alloc (.cells #[.int .i64 NUM, .int .i64 id, .int .i64 (v.a : Int), .int .i64 (v.b : Int), .int .i64 (v.c : Int), .int .i64 (v.d : Int)] 156) = W1 := ⟨_, rfl⟩
  have hbW1 : Below W0.heap.size W0 W1 := by rw [← hW1]; exact hb1'.alloc hb1'.size _
  have hs1 := hb1'.size
  have hown1 : W1.ownsRow w.heap.size 156 6 (.slice (some ⟨w1.heap.size, 0, none⟩) 1 1) 1 (flat pkR [((NUM, id), v)]) := by
    rw [← hW1]; exact own_one (Blk.new w1 156 _) (by omega)
  obtain ⟨q0, q1, q2, q3⟩ := HR.out W1 hbW1
  have hgc2 := HGC.out W1
  rw [hW1]
  have HOWN1 : Hid (W1.ownsRow w.heap.size 156 6 (.slice (some ⟨w1.heap.size, 0, none⟩) 1 1) 1 (flat pkR [((NUM, id), v)])) := hown1
  have hbW : Below w.heap.size w W1 := hb0.trans (hbW1.mono (by omega))
  have HBW : Hid (Below w.heap.size w W1) := hbW
  have HB01 : Hid (Below W0.heap.size W0 W1) := hbW1
  have HB0 : Hid (Blk W0 w.heap.size 34 #[.int .i64 (v.a : Int), .int .i64 (v.b : Int), .int .i64 (v.c : Int), .int .i64 (v.d : Int)]) := B0
  have hsW1 := hbW1.size
  clear hW1 hown1 hbW hbW1 hb1 hb1' hb0 hnk HW0 B0 r0 r1 r2 r3 HGC
  go_wp2_with (go_at_call 111; refine hgc2.mono ?_; rintro e w2 ⟨g, cap, rfl, hcells, hb2⟩)
  have hsz2 := hb2.size
  have HR2 : Hid (∀ X, Below w2.heap.size w2 X → X.cell? ⟨w.heap.size, 0, none⟩ = some (.int .i64 (v.a : Int)) ∧ X.cell? ⟨w.heap.size, 1, none⟩ = some (.int .i64 (v.b : Int)) ∧ X.cell? ⟨w.heap.size, 2, none⟩ = some (.int .i64 (v.c : Int)) ∧ X.cell? ⟨w.heap.size, 3, none⟩ = some (.int .i64 (v.d : Int))) := fun X hX => HR.out X (HB01.out.trans ((hb2.trans (hX.mono hsz2)).mono hsW1))
  have HCELLS : Hid (w2.ownsRow (W1.heap.size + 1) 99 2 (.slice (some ⟨g, 0, none⟩) l.length cap) l.length (flatC l)) := hcells
  have HB2 : Hid (Below W1.heap.size W1 w2) := hb2
  have hgl := own_lt hcells
  have hl4 : l.length ≤ 4 := by omega
  clear hgc2 hcells hb2 hlen q0 q1 q2 q3
  go_loopw [5, 16] (fun sv x wr => ∃ i : Nat, x = .int .i64 (i : Int) ∧ i ≤ l.length ∧ wr.ownsRow w.heap.size 156 6 sv (i + 1) (flat pkR (((NUM, id), v) :: (l.take i).map (celEnt id v))) ∧ wr.ownsRow (W1.heap.size + 1) 99 2 (.slice (some ⟨g, 0, none⟩) l.length cap) l.length (flatC l) ∧ Blk wr w.heap.size 34 #[.int .i64 (v.a : Int), .int .i64 (v.b : Int), .int .i64 (v.c : Int), .int .i64 (v.d : Int)] ∧ Below w.heap.size w wr) (fun _ x _ => l.length - (intOf x).toNat)
  case atStart => exact ⟨0, rfl, Nat.zero_le _, own_below HOWN1.out HB2.out, HCELLS.out, (HB2.out.block _ (by omega)).trans ((HB01.out.block _ (by omega)).trans HB0.out), HBW.out.trans (HB2.out.mono HBW.out.size)⟩
  case round =>
    obtain ⟨i, rfl, hi, hown, hcells, hBr, hW⟩ := hrel
    have hWs := hW.size
    have hBl := hBr.lt
    by_cases hlt : i < l.length
    · have hlt' : (i : Int) < (l.length : Int) := by omega
      obtain ⟨x, hx⟩ : ∃ x, l[i]? = some x := ⟨_, List.getElem?_eq_getElem hlt⟩
      have hxo := HCO.out x (List.mem_of_getElem? hx)
      have y0 := (own_cell hcells (i * 2) (by omega)).1
      have y1 := (own_cell hcells (i * 2 + 1) (by omega)).1
      rw [(flatC_get hx).1] at y0
      rw [(flatC_get hx).2] at y1
      obtain ⟨Wc, hWc⟩ : ∃ Wc, wr.alloc (.cells #[.int .i64 (x.1 : Int), .int .i64 (x.2 : Int)] 99) = Wc := ⟨_, rfl⟩
      have hbc : Below wr.heap.size wr Wc := by rw [← hWc]; exact (Below.refl _ wr).alloc (Nat.le_refl _) _
      have Bc : Blk Wc wr.heap.size 99 #[.int .i64 (x.1 : Int), .int .i64 (x.2 : Int)] := by rw [← hWc]; exact Blk.new wr 99 _
      have hsc : Wc.heap.size = wr.heap.size + 1 := by rw [← hWc]; simp
      have Br := hBr.below hbc hBl
      have hcc := own_below hcells hbc
      have hck := ckey_any Wc.drew x hxo id
      obtain ⟨pl, hpl⟩ : ∃ pl, place x = pl := ⟨_, rfl⟩
      rw [hpl] at hck
      have HPL : Hid (celEnt id v x = (((pl : Int), id), v)) := by show _ = _; unfold celEnt; rw [hpl]
      have HTK : Hid (l.take (i + 1) = l.take i ++ [x]) := take_snoc hx
      have hownc := own_below hown hbc
      obtain ⟨sa, sc, rfl, _, _, _⟩ := own_shape hownc
      have HPE : Hid ((((NUM, id), v) :: (l.take i).map (celEnt id v)) ++ [celEnt id v x] = ((NUM, id), v) :: (l.take (i + 1)).map (celEnt id v)) := by show _ = _; rw [HTK.out]; simp
      generalize ((NUM, id), v) :: (l.take i).map (celEnt id v) = P at hownc hown HPE
      have HP : Hid (P ++ [celEnt id v x] = ((NUM, id), v) :: (l.take (i + 1)).map (celEnt id v)) := HPE.out
      have z0 : Wc.cell? ⟨wr.heap.size, 0, none⟩ = some (.int .i64 (x.1 : Int)) := Bc.cell 0
      have z1 : Wc.cell? ⟨wr.heap.size, 1, none⟩ = some (.int .i64 (x.2 : Int)) := Bc.cell 1
      have r0 : Wc.cell? ⟨w.heap.size, 0, none⟩ = some (.int .i64 (v.a : Int)) := Br.cell 0
      have r1 : Wc.cell? ⟨w.heap.size, 1, none⟩ = some (.int .i64 (v.b : Int)) := Br.cell 1
      have r2 : Wc.cell? ⟨w.heap.size, 2, none⟩ = some (.int .i64 (v.c : Int)) := Br.cell 2
      have r3 : Wc.cell? ⟨w.heap.size, 3, none⟩ = some (.int .i64 (v.d : Int)) := Br.cell 3
      have HS : Hid (∀ X, Blk X wr.heap.size 99 #[.int .i64 (x.1 : Int), .int .i64 (x.2 : Int)] → Blk X w.heap.size 34 #[.int .i64 (v.a : Int), .int .i64 (v.b : Int), .int .i64 (v.c : Int), .int .i64 (v.d : Int)] → X.cell? ⟨wr.heap.size, 0, none⟩ = some (.int .i64 (x.1 : Int)) ∧ X.cell? ⟨wr.heap.size, 1, none⟩ = some (.int .i64 (x.2 : Int)) ∧ X.cell? ⟨w.heap.size, 0, none⟩ = some (.int .i64 (v.a : Int)) ∧ X.cell? ⟨w.heap.size, 1, none⟩ = some (.int .i64 (v.b : Int)) ∧ X.cell? ⟨w.heap.size, 2, none⟩ = some (.int .i64 (v.c : Int)) ∧ X.cell? ⟨w.heap.size, 3, none⟩ = some (.int .i64 (v.d : Int))) := fun X h1 h2 => ⟨h1.cell 0, h1.cell 1, h2.cell 0, h2.cell 1, h2.cell 2, h2.cell 3⟩
      have hBcl := Bc.lt
      have hBrl := Br.lt
      have HWC : Hid (wr.alloc (.cells #[.int .i64 (x.1 : Int), .int .i64 (x.2 : Int)] 99) = Wc) := hWc
      have HBC : Hid (Below wr.heap.size wr Wc) := hbc
      have HCC : Hid (Wc.ownsRow (W1.heap.size + 1) 99 2 (.slice (some ⟨g, 0, none⟩) l.length cap) l.length (flatC l)) := hcc
      have HWR : Hid (Below w.heap.size w wr) := hW
      clear hown hcells hW hbc hWc HPE HTK hpl hx hBr hcc
      go_upto_region 5 with fail
      rw [HWC.out]
      go_region_held3 (fun W' => W'.cell? ⟨wr.heap.size, 0, none⟩ = some (.int .i64 (x.1 : Int)) ∧ W'.cell? ⟨wr.heap.size, 1, none⟩ = some (.int .i64 (x.2 : Int)) ∧ W'.cell? ⟨w.heap.size, 0, none⟩ = some (.int .i64 (v.a : Int)) ∧ W'.cell? ⟨w.heap.size, 1, none⟩ = some (.int .i64 (v.b : Int)) ∧ W'.cell? ⟨w.heap.size, 2, none⟩ = some (.int .i64 (v.c : Int)) ∧ W'.cell? ⟨w.heap.size, 3, none⟩ = some (.int .i64 (v.d : Int)))
        (first
          | exact ⟨z0, z1, r0, r1, r2, r3⟩
          | exact HS.out _ k4 k5
          | exact HS.out _ k3 k6
          | exact HS.out _ (k3.alloc _) (k6.alloc _)
          | go_keep)
        (first
          | (go_at_call 88; refine hck.mono ?_; rintro e w3 ⟨rfl, hb3⟩; have hb3' : Below Wc.heap.size Wc w3 := ((Below.refl _ Wc).drew).trans hb3; have k3 := Bc.below hb3' hBcl; have k6 := Br.below hb3' hBrl; have hown3 := own_below hownc hb3'; have hs3 := hb3'.size)
          | (refine step_append_lies _ (by rfl) _ _ _ (by rfl) w.heap.size 156 i0 _ 6 48 Tryz.underlying151 hi0 hz0 hz1 hz2 rfl (by omega) (.slice sa (i + 1) sc) (i + 1) _ (by rfl) (hown3.alloc _) ⟨w3.heap.size, 0, none⟩ 1 1 [.int .i64 (pl : Int), .int .i64 id, .int .i64 (v.a : Int), .int .i64 (v.b : Int), .int .i64 (v.c : Int), .int .i64 (v.d : Int)] (by rfl) (by rfl) (World.news_of_block (cs := #[.int .i64 (pl : Int), .int .i64 id, .int .i64 (v.a : Int), .int .i64 (v.b : Int), .int .i64 (v.c : Int), .int .i64 (v.d : Int)]) (t := 156) (fr := (0, 0)) (heap_alloc_new w3 _)) (by simp [Value.oneCell']) (by omega) (by unfold maxLen; omega) (by omega) (by simp; omega) (w3.heap.size + 1) (by simp) ?_; intro gg capp w4 hown4 hgrow hat hlt3; have k4 := (k3.alloc (.cells #[.int .i64 (pl : Int), .int .i64 id, .int .i64 (v.a : Int), .int .i64 (v.b : Int), .int .i64 (v.c : Int), .int .i64 (v.d : Int)] 156)).grown hgrow (fun j hj => own_ne (hown3.alloc (.cells #[.int .i64 (pl : Int), .int .i64 id, .int .i64 (v.a : Int), .int .i64 (v.b : Int), .int .i64 (v.c : Int), .int .i64 (v.d : Int)] 156)) (k3.alloc (.cells #[.int .i64 (pl : Int), .int .i64 id, .int .i64 (v.a : Int), .int .i64 (v.b : Int), .int .i64 (v.c : Int), .int .i64 (v.d : Int)] 156)) (by decide) j hj); have k5 := (k6.alloc (.cells #[.int .i64 (pl : Int), .int .i64 id, .int .i64 (v.a : Int), .int .i64 (v.b : Int), .int .i64 (v.c : Int), .int .i64 (v.d : Int)] 156)).grown hgrow (fun j hj => own_ne (hown3.alloc (.cells #[.int .i64 (pl : Int), .int .i64 id, .int .i64 (v.a : Int), .int .i64 (v.b : Int), .int .i64 (v.c : Int), .int .i64 (v.d : Int)] 156)) (k6.alloc (.cells #[.int .i64 (pl : Int), .int .i64 id, .int .i64 (v.a : Int), .int .i64 (v.b : Int), .int .i64 (v.c : Int), .int .i64 (v.d : Int)] 156)) (by decide) j hj)))
      have hba : Below w3.heap.size w3 (w3.alloc (.cells #[.int .i64 (pl : Int), .int .i64 id, .int .i64 (v.a : Int), .int .i64 (v.b : Int), .int .i64 (v.c : Int), .int .i64 (v.d : Int)] 156)) := (Below.refl _ w3).alloc (Nat.le_refl _) _
      have hc4 : w4.ownsRow (W1.heap.size + 1) 99 2 (.slice (some ⟨g, 0, none⟩) l.length cap) l.length (flatC l) := by
        have h1 := own_below (own_below HCC.out hb3') hba
        refine own_offv h1 ((Off.refl (fun k => (Value.slice sa (i + 1) sc).ownBlock = some k) _).grown hgrow (fun j hj => .inl hj)) (fun g' hg' hf => ?_)
        have t1 := (own_tagged h1 hg').2
        have t2 := (own_tagged (own_below hown3 hba) hf).2
        obtain ⟨c1, e1⟩ := t1
        obtain ⟨c2, e2⟩ := t2
        rw [e1] at e2; simp at e2
      have hb4 : Below w.heap.size w w4 := by
        have h1 : Below w.heap.size w w3 := HWR.out.trans ((HBC.out.mono hWs).trans (hb3'.mono (by omega)))
        have h2 := h1.alloc h1.size (.cells #[.int .i64 (pl : Int), .int .i64 id, .int .i64 (v.a : Int), .int .i64 (v.b : Int), .int .i64 (v.c : Int), .int .i64 (v.d : Int)] 156)
        exact h2.grown hgrow (by have := h1.size; simp; omega) (fun k hk => (own_tagged hown3 hk).1)
      go_wp2
      refine ⟨⟨i + 1, by go_num, by omega, ?_, hc4, k5, hb4⟩, by simp [intOf]; omega⟩
      rw [← HP.out, flat_append, HPL.out]
      exact hown4
    · have hlt' : decide ((i : Int) < (l.length : Int)) = false := decide_eq_false (by omega)
      have hlt2 : decide (i < l.length) = false := decide_eq_false (by omega)
      have hin : i = l.length := by omega
      rw [hin, List.take_length] at hown
      obtain ⟨sa, sc, rfl, _, _, _⟩ := own_shape hown
      have HOW : Hid _ := hown
      have HWW : Hid (Below w.heap.size w wr) := hW
      clear hown hcells hBr hW
      go_wp2
      go_ret
      exact ⟨sa, sc, rfl, HOW.out, HWW.out⟩
end Go.Proofs.YtdgbgmffpcooeaaGreat
end
section
/- A window's search: plain facts. -/
namespace Go.Proofs.YtdgbgmffpcooeaaGreat
/-- The codes of a window. -/
def inWin (r : Box) (t : Nat) : Prop := ∃ x y, r.has x y ∧ code x y = t
/-- A place of a cell that meets a window. -/
def mcW (r : Box) (p : Nat) : Prop := CellOk (cellAt p) ∧ place (cellAt p) = p ∧ Meets (inWin r) (cellAt p)
def mvW (r v : Box) : Prop := (both v r).ok
theorem next_is {r : Box} {c f : Nat} (h : IsNext c r (f : Int)) : NextIs (inWin r) c f := by
  rcases h with ⟨x, y, h1, h2, h3, h4⟩ | ⟨h, _⟩
  · have e : f = code x y := Int.ofNat.inj h2
    rw [e]
    refine ⟨h3, ⟨x, y, h1, rfl⟩, fun t ht hw => ?_⟩
    obtain ⟨x', y', g1, g2⟩ := hw
    rw [← g2] at ht ⊢
    exact h4 x' y' g1 ht
  · omega
theorem nextC_start {r : Box} {cd : Nat} {c : Nat × Nat} (h : NextC r cd c true) : ∀ q, mcW r q → cd ≤ (cellAt q).1 → place c ≤ q := by
  rintro q ⟨h1, h2, h3⟩ hc
  rcases h with ⟨_, f, k, _, rfl, hn, hw⟩ | ⟨h, _⟩
  · have := next_first (next_is hn) hw h1 hc h3
    rwa [h2] at this
  · cases h
theorem nextC_none {r : Box} {cd : Nat} {c : Nat × Nat} (h : NextC r cd c false) : ∀ q, mcW r q → ¬ cd ≤ (cellAt q).1 := by
  rintro q ⟨h1, h2, t, t1, t2, x, y, hx, hxy⟩ hc
  rcases h with ⟨h, _⟩ | ⟨_, h⟩
  · cases h
  · have := h x y hx
    rw [hxy] at this
    omega
theorem meet_square {r : Box} {c : Nat × Nat} (hc : CellOk c) (hr : r.ok) : (both (sqr (c.1 / 4 ^ c.2) c.2) r).ok ↔ Meets (inWin r) c := by
  obtain ⟨r1, r2, r3, r4⟩ := hr
  have q := Nat.pow_pos (n := c.2) (show 0 < 4 by decide)
  have hmul : c.1 / 4 ^ c.2 * 4 ^ c.2 = c.1 := Nat.div_mul_cancel hc.mul
  have htop : (c.1 / 4 ^ c.2 + 1) * 4 ^ c.2 ≤ 4294967296 := by
    have ht := hc.top
    have hd : 4 ^ c.2 ∣ 4 ^ 16 := Nat.pow_dvd_pow 4 hc.size
    obtain ⟨m, hm⟩ := hd
    have hlt : c.1 / 4 ^ c.2 < m := by
      rw [Nat.div_lt_iff_lt_mul q, Nat.mul_comm]; rw [← hm]; exact ht
    have : (c.1 / 4 ^ c.2 + 1) * 4 ^ c.2 ≤ m * 4 ^ c.2 := Nat.mul_le_mul_right _ hlt
    rw [Nat.mul_comm m] at this
    rw [← hm] at this
    simpa using this
  have hhas := fun x y hx hy => sqr_has (c.1 / 4 ^ c.2) c.2 x y hc.size htop hx hy
  have hin : ∀ x y, x < 65536 → y < 65536 → ((sqr (c.1 / 4 ^ c.2) c.2).has x y ↔ c.1 ≤ code x y ∧ code x y < cend c) := fun x y hx hy => by
    rw [hhas x y hx hy]
    unfold cend
    rw [Nat.div_eq_iff q]
    constructor
    · intro h; omega
    · intro h; omega
  constructor
  · rintro ⟨h1, h2, h3, h4⟩
    have ha : (sqr (c.1 / 4 ^ c.2) c.2).has (max (sqr (c.1 / 4 ^ c.2) c.2).a r.a) (max (sqr (c.1 / 4 ^ c.2) c.2).b r.b) := by
      simp only [both] at h1 h3
      exact ⟨by omega, by omega, by omega, by omega⟩
    have hb : r.has (max (sqr (c.1 / 4 ^ c.2) c.2).a r.a) (max (sqr (c.1 / 4 ^ c.2) c.2).b r.b) := by
      simp only [both] at h1 h3
      exact ⟨by omega, by omega, by omega, by omega⟩
    obtain ⟨g1, g2⟩ := (hin _ _ (by have := hb.2.1; omega) (by have := hb.2.2.2; omega)).1 ha
    exact ⟨_, g1, g2, _, _, hb, rfl⟩
  · rintro ⟨t, t1, t2, x, y, hx, rfl⟩
    obtain ⟨x1, x2, x3, x4⟩ := hx
    obtain ⟨s1, s2, s3, s4⟩ := (hin x y (by omega) (by omega)).2 ⟨t1, t2⟩
    exact ⟨by simp only [both]; omega, by simp only [both]; omega, by simp only [both]; omega, by simp only [both]; omega⟩
theorem cover_meets {r v : Box} (hv : v.ok) (hr : r.ok) (h : mvW r v) : ∃ p ∈ plc v, mcW r p := by
  obtain ⟨h1, h2, h3, h4⟩ := h
  obtain ⟨r1, r2, r3, r4⟩ := hr
  simp only [both] at h1 h2 h3 h4
  have hvx : v.has (max v.a r.a) (max v.b r.b) := ⟨by omega, by omega, by omega, by omega⟩
  have hrx : r.has (max v.a r.a) (max v.b r.b) := ⟨by omega, by omega, by omega, by omega⟩
  have hc := covL_is hv
  obtain ⟨c, hcm, hce⟩ := hc.point hv hvx
  have hok := cover_cell hv hc hcm
  have hk : c.2 = (covers_of v hv).choose := (hc.good hv hcm).two
  have q := Nat.pow_pos (n := c.2) (show 0 < 4 by decide)
  rw [← hk] at hce
  have hmul : c.1 / 4 ^ c.2 * 4 ^ c.2 = c.1 := Nat.div_mul_cancel hok.mul
  refine ⟨place c, List.mem_map.2 ⟨c, hcm, rfl⟩, ?_⟩
  have e := cellAt_place hok.size
  unfold mcW
  rw [e]
  refine ⟨hok, rfl, code (max v.a r.a) (max v.b r.b), ?_, ?_, ⟨_, _, hrx, rfl⟩⟩
  · rw [← hmul, hce]; exact Nat.div_mul_le_self _ _
  · have := Nat.lt_div_mul_add (a := code (max v.a r.a) (max v.b r.b)) q
    unfold cend
    rw [← hce, hmul] at this
    exact this
/-- What is told from a later key on is part of what was left. -/
theorem frm_later {V : Type} {es pre l : List (Key × V)} {x : Key × V} {k k' : Key} (hr : Rising es) (h : frm k es = pre ++ x :: l) (hx : klt x.1 k') : frm k' es = frm k' l := by
  have hr1 : Rising (pre ++ x :: l) := h ▸ rising_frm hr
  have hr2 : Rising (x :: l) := hr1.sub (List.sublist_append_right ..)
  have hxk : ¬ klt x.1 k := (mem_frm.1 (h ▸ List.mem_append_right pre List.mem_cons_self : x ∈ frm k es)).2
  refine rising_ext (rising_frm hr) (rising_frm (hr2.sub (List.sublist_cons_self ..))) fun y => ?_
  rw [mem_frm, mem_frm]
  constructor
  · rintro ⟨hy, hk⟩
    have hyk : ¬ klt y.1 k := by unfold klt at *; omega
    have hm : y ∈ pre ++ x :: l := h ▸ mem_frm.2 ⟨hy, hyk⟩
    refine ⟨?_, hk⟩
    rcases List.mem_append.1 hm with g | g
    · exfalso
      have := (List.pairwise_append.1 hr1).2.2 y g x List.mem_cons_self
      unfold klt at *
      omega
    · rcases List.mem_cons.1 g with rfl | g
      · exact absurd hx hk
      · exact g
  · rintro ⟨hy, hk⟩
    exact ⟨(mem_frm.1 (h ▸ List.mem_append_right pre (List.mem_cons_of_mem _ hy) : y ∈ frm k es)).1, hk⟩
theorem frm_len {V : Type} (k : Key) (l : List (Key × V)) : (frm k l).length ≤ l.length := List.length_filter_le ..
end Go.Proofs.YtdgbgmffpcooeaaGreat
end
section
/- A window's search: its steps, plain. -/
namespace Go.Proofs.YtdgbgmffpcooeaaGreat
theorem nextC_ok {r : Box} {cd : Nat} {c : Nat × Nat} (h : NextC r cd c true) : CellOk c ∧ cd ≤ c.1 := by
  rcases h with ⟨_, f, k, hf, rfl, _, hw⟩ | ⟨h, _⟩
  · exact ⟨around_ok hw.1 (by simpa using hf), hw.2.1⟩
  · cases h
theorem nextC_zero {r : Box} {c : Nat × Nat} (hr : r.ok) : ¬ NextC r 0 c false := by
  rintro (⟨h, _⟩ | ⟨_, h⟩)
  · cases h
  · have := h r.a r.b ⟨Nat.le_refl _, hr.1, Nat.le_refl _, by have := hr.2.2; omega⟩
    omega
/-- What an entry of an index is. -/
theorem ent_kind {tb : List (Int × Box)} {es : List (Key × Box)} (h : Idx plc tb es) {x : Key × Box} (hx : x ∈ es) : (0 ≤ x.1.2 ∧ x.1.2 ≤ 4611686018427387904) ∧ (x.1.1 = NUM ∨ ∃ c, CellOk c ∧ x.1.1 = (place c : Int)) := by
  obtain ⟨h1, h2⟩ := h.of_mem hx
  have hi := h.id _ h1
  have hp := h.pl _ h1
  refine ⟨hi, ?_⟩
  rcases mem_ents.1 h2 with e | ⟨p, hpm, e⟩
  · left; rw [e]
  · right
    have hv : x.2.ok := Classical.byContradiction fun hv => by
      have := hp.one
      unfold plc covL at this
      rw [dif_neg hv] at this
      simp at this
    obtain ⟨c, hc, hcp⟩ := List.mem_map.1 hpm
    refine ⟨c, cover_cell hv (covL_is hv) hc, ?_⟩
    rw [e, hcp]
/-- Where a search stands: what was met, and what is still to be looked at. -/
structure Sea (r : Box) (tb : List (Int × Box)) (es : List (Key × Box)) (acc : List Int) (l : List (Key × Box)) : Prop where
  todo : Todo (mcW r) (mvW r) es acc l
  sound : Sound (mvW r) tb acc
  len : acc.length + l.length ≤ es.length
theorem Sea.start {r : Box} {tb : List (Int × Box)} {es : List (Key × Box)} {c : Nat × Nat} (h : Idx plc tb es) (hc : NextC r 0 c true) : Sea r tb es [] (frm ((place c : Int), 0) es) :=
  ⟨todo_start [] (fun e _ q _ _ hq => nextC_start hc q hq (Nat.zero_le _)) (fun e he => (ent_kind h he).1.1), Sound.nil _, by have := frm_len ((place c : Int), 0) es; simpa using this⟩
theorem Sea.yes {r : Box} {tb : List (Int × Box)} {es l : List (Key × Box)} {acc : List Int} {x : Key × Box} (h : Idx plc tb es) (hs : Sea r tb es acc (x :: l)) (hx : x ∈ es) (hm : (both x.2 r).ok) : Sea r tb es (acc ++ [x.1.2]) l :=
  ⟨todo_yes hs.todo, hs.sound.more h hx hm, by have := hs.len; simp at *; omega⟩
theorem Sea.no {r : Box} {tb : List (Int × Box)} {es l : List (Key × Box)} {acc : List Int} {x : Key × Box} (hs : Sea r tb es acc (x :: l)) (hm : ¬ (both x.2 r).ok) : Sea r tb es acc l :=
  ⟨todo_no hs.todo hm, hs.sound, by have := hs.len; simp at *; omega⟩
theorem Sea.num {r : Box} {tb : List (Int × Box)} {es l : List (Key × Box)} {acc : List Int} {x : Key × Box} (hs : Sea r tb es acc (x :: l)) (hr : Rising (x :: l)) (hx : x.1.1 = NUM) : Sea r tb es acc [] :=
  ⟨todo_num hs.todo hr hx, hs.sound, by have := hs.len; simp at *; omega⟩
theorem Sea.leap {r : Box} {tb : List (Int × Box)} {es l pre : List (Key × Box)} {acc : List Int} {x : Key × Box} {d c : Nat × Nat} {k : Key} (h : Idx plc tb es) (he : frm k es = pre ++ x :: l) (hs : Sea r tb es acc (x :: l)) (hd : CellOk d) (hx : x.1.1 = (place d : Int)) (hm : ¬ Meets (inWin r) d) (hc : NextC r (cend d) c true) :
    Sea r tb es acc (frm ((place c : Int), 0) es) ∧ (frm ((place c : Int), 0) es).length < (frm k es).length := by
  have hr : Rising (x :: l) := (he ▸ rising_frm h.ris : Rising (pre ++ x :: l)).sub (List.sublist_append_right ..)
  obtain ⟨hco, hcd⟩ := nextC_ok hc
  have hlt : klt x.1 ((place c : Int), 0) := by
    unfold klt
    left
    rw [hx]
    have := hd.size
    have := hco.size
    have := pow_pos4 d.2
    unfold cend at hcd
    unfold place
    simp only
    omega
  have hl := frm_later h.ris he hlt
  have hll := frm_len ((place c : Int), 0) l
  refine ⟨⟨todo_leap hs.todo hr (fun e _ q _ _ hxq hq => nextC_start hc q hq ?_) (fun e he => (ent_kind h he).1.1), hs.sound, ?_⟩, ?_⟩
  · refine behind_end hd hq.1 ?_ hm hq.2.2
    rw [hq.2.1]
    rw [hx] at hxq
    omega
  · have := hs.len
    rw [hl]
    simp at this
    omega
  · rw [hl, he]
    simp
    omega
theorem Sea.none {r : Box} {tb : List (Int × Box)} {es l : List (Key × Box)} {acc : List Int} {x : Key × Box} {d c : Nat × Nat} (hs : Sea r tb es acc (x :: l)) (hr : Rising (x :: l)) (hd : CellOk d) (hx : x.1.1 = (place d : Int)) (hm : ¬ Meets (inWin r) d) (hc : NextC r (cend d) c false) : Sea r tb es acc [] :=
  ⟨todo_none hs.todo hr (fun e _ q _ _ hxq hq => nextC_none hc q hq (behind_end hd hq.1 (by rw [hq.2.1]; rw [hx] at hxq; omega) hm hq.2.2)), hs.sound, by have := hs.len; simp at *; omega⟩
/-- The numbers that a window tells. -/
def IsIds (r : Box) (tb : List (Int × Box)) (ids : List Int) : Prop := (∀ x, x ∈ ids ↔ ∃ v, (x, v) ∈ tb ∧ (both v r).ok) ∧ ids.Pairwise (· < ·)
theorem Sea.done {r : Box} {tb : List (Int × Box)} {es : List (Key × Box)} {acc : List Int} (h : Idx plc tb es) (hr : r.ok) (hs : Sea r tb es acc []) (x : Int) : x ∈ acc ↔ ∃ v, (x, v) ∈ tb ∧ (both v r).ok := by
  refine todo_done h hs.todo hs.sound (fun t ht hm => ?_) x
  have hv : t.2.ok := Classical.byContradiction fun hv => by
    have := (h.pl t ht).one
    unfold plc covL at this
    rw [dif_neg hv] at this
    simp at this
  exact cover_meets hv hr hm
end Go.Proofs.YtdgbgmffpcooeaaGreat
end
section
/- Several marks of loops over functions, taken at the end of a call. -/
namespace Go.Proofs.YtdgbgmffpcooeaaGreat
open Go.RowKit Go.Lib Go.Shelf
/-- The marks of these records. -/
def marks (rs : List Nat) : List Deferred := rs.map fun r => { target := .collected r, args := #[] }
theorem leaves_marks {F : Fence} {n : Nat} {P : Program} {fn : Func} {tmps : Array Value} {R : Ending → World → Prop} : ∀ (rs : List Nat) (W : World), rs.Nodup → (∀ r ∈ rs, W.heap[r]? = some (.deferred (some []))) →
    (∀ W', Off (fun k => k ∈ rs) W W' → LeavesIn F n P fn tmps R [] .returning W') → LeavesInM F n P fn tmps R (marks rs) .returning W
  | [], W, _, _, h => h W (Off.refl _ _)
  | r :: rs, W, hn, hd, h => by
    have hr := hd r List.mem_cons_self
    have ho := off_putObj W r (.deferred none)
    obtain ⟨hn1, hn2⟩ := List.nodup_cons.1 hn
    refine ⟨by simp, .inl ⟨r, _, rfl, run_takeDeferred hr, ?_⟩⟩
    refine leaves_marks rs _ hn2 (fun r' hr' => ?_) (fun W' hW' => h W' ?_)
    · have h' := hd r' (List.mem_cons_of_mem _ hr')
      exact (ho.block r' (Array.getElem?_eq_some_iff.1 h').1 (fun e => hn1 (e ▸ hr'))).trans h'
    · exact (ho.mono (fun k _ e => by rw [e]; exact List.mem_cons_self)).trans (hW'.mono (fun k _ hk => List.mem_cons_of_mem _ hk))
end Go.Proofs.YtdgbgmffpcooeaaGreat
end
