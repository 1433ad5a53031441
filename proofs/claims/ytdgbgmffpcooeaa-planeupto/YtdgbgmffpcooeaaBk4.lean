/- What the books' cells does. -/
import Derived.Test.YtdgbgmffpcooeaaBk3
import Derived.Test.YtdgbgmffpcooeaaQCover
namespace Go.Proofs.Ytdgbgmffpcooeaa
open Go.RowKit

theorem Bk.store {W : World} {base B n came : Nat} {kc yc cv cn : Value} {E : List (Value × Int)} (h : Bk W base B n came kc yc cv cn E) (i : Nat) (u : Value) {n' came' : Nat} {kc' yc' : Value} (hc : (bkCells n came kc yc cv cn).setIfInBounds i u = bkCells n' came' kc' yc' cv cn) : Bk (W.setCell ⟨B, i, none⟩ u) base B n' came' kc' yc' cv cn E := by
  have hb := h.blk.set i u
  rw [hc] at hb
  refine ⟨h.le, hb, own_other h.rowC h.blk (by decide) u, own_other h.rowN h.blk (by decide) u, fun e he => (h.ent e he).keep (Nat.le_refl _) fun g cur _ h2 => ?_⟩
  exact (Below.heap_setCell W ⟨B, i, none⟩ u g (tag_ne h.blk h2 (by decide))).trans h2

/-- The books between two lists. -/
structure Book (W : World) (base B n came : Nat) (kc yc cv cn : Value) (E : List (Value × Int)) (L : List (Nat × Nat)) : Prop where
  bk : Bk W base B n came kc yc cv cn E
  small : L.length ≤ 4
  kept : W.ownsRow base 34 2 kc L.length (flatC L)
  were : W.ownsRow base 34 2 yc L.length (flatC L)
  far : ∀ e ∈ E, ∀ j, e.1.ownBlock = some j → kc.ownBlock ≠ some j
theorem Book.below {W W' : World} {base B n came : Nat} {kc yc cv cn : Value} {E : List (Value × Int)} {L : List (Nat × Nat)} (h : Book W base B n came kc yc cv cn E L) (hb : Below W.heap.size W W') : Book W' base B n came kc yc cv cn E L :=
  ⟨h.bk.below hb, h.small, own_below h.kept hb, own_below h.were hb, h.far⟩

/-- Behind the copy: the rest of cells. -/
def CellsPost (w : World) (base B n came : Nat) (E : List (Value × Int)) (w' : World) : Prop := ∃ n' kc' yc' cv' cn' E' L', n' ≤ n + 2 ∧ E'.length ≤ E.length + 8 ∧ Book w' base B n' (came + 1) kc' yc' cv' cn' E' L' ∧ Below base w w'

theorem par_even (c : Nat) (h : c % 2 = 1) : ((c : Int) + 1).tmod 2 = 0 ∧ ((c : Int) + 1) % 2 = 0 := by
  rw [Int.tmod_eq_emod_of_nonneg (by omega)]; omega
theorem par_odd (c : Nat) (h : c % 2 = 0) : ((c : Int) + 1).tmod 2 = 1 ∧ ((c : Int) + 1) % 2 = 1 := by
  rw [Int.tmod_eq_emod_of_nonneg (by omega)]; omega

theorem oneC (L : List (Nat × Nat)) : ∀ u ∈ flatC L, u.oneCell' = true := by
  intro u hu
  unfold flatC at hu
  obtain ⟨x, _, h⟩ := List.mem_flatMap.1 hu
  simp [encC] at h
  rcases h with rfl | rfl <;> rfl

set_option maxRecDepth 100000 in
set_option maxHeartbeats 4000000 in
theorem cells_nn (w : World) (base B n came : Nat) (kc yc cv cn : Value) (E : List (Value × Int)) (K : List (Nat × Nat)) (hb : Book w base B n came kc yc cv cn E K) (v : Value) (L : List (Nat × Nat)) (hv : w.ownsRow base 34 2 v L.length (flatC L)) (hL : L.length ≤ 4) (hL0 : 0 < L.length)
    (hE : ∀ e ∈ E, ∀ j, e.1.ownBlock = some j → v.ownBlock ≠ some j) (hK : ∀ j, kc.ownBlock = some j → v.ownBlock ≠ some j) (hn : n ≤ 1073741820) (hEl : E.length ≤ 1073741820) (hc : came ≤ 1073741820) :
    Calls Try.prog 12 #[.pointer (some ⟨B, 0, none⟩), v] w fun e w' => e = .returned (.tuple #[]) ∧ CellsPost w base B n came E w' := by
  have hle := hb.bk.le
  have hBlt := hb.bk.blk.lt
  have HE : Hid (∀ e ∈ E, ∀ j, e.1.ownBlock = some j → v.ownBlock ≠ some j) := hE
  have HK : Hid (∀ j, kc.ownBlock = some j → v.ownBlock ≠ some j) := hK
  clear hE hK
  obtain ⟨i34, hi34, hz34a, hz34b, hz34c⟩ := info_parts info34
  obtain ⟨g, cap, hvv, hg0, hg1⟩ := hv.form hL0
  subst hvv
  have hnews : ∀ j u, (flatC L)[j]? = some u → w.cell? ((⟨g, 0, none⟩ : Addr).add j) = some u := hv.cells (g := g) rfl
  have hone := oneC L
  go_enter Try.func12, Try.ntmps12
  go_wp2_with (at_builtin; refine wpList_append_lies _ rfl (.tmp 7) (.tmp 8) 25 rfl w.heap.size 34 i34 _ 2 16 Try.underlying25 hi34 hz34a hz34b hz34c rfl (by omega) _ 0 [] rfl (World.ownsRow_nil _ _ _ _) ⟨g, 0, none⟩ L.length cap (flatC L) rfl (length_flatC L) hnews hone (by omega) (by unfold maxLen; omega) (by omega) (by omega) w.heap.size rfl ?_; intro gy capy w1 hy hgy haty hlty)
  simp only [Nat.zero_add, List.nil_append] at hy
  clear hnews hone
  have hB1 : Below w.heap.size w w1 := (Below.refl _ _).grown hgy (Nat.le_refl _) (fun k hk => by cases hk)
  obtain ⟨v, hvv⟩ : ∃ v, Value.slice (some ⟨g, 0, none⟩) L.length cap = v := ⟨_, rfl⟩
  obtain ⟨yv, hyy⟩ : ∃ yv, Value.slice (some ⟨gy, 0, none⟩) L.length capy = yv := ⟨_, rfl⟩
  rw [hvv] at hv HE HK ⊢
  rw [hyy] at hy ⊢
  have hyf : ∀ j, yv.ownBlock = some j → w.heap.size ≤ j := fun j hj => by rw [← hyy] at hj; exact (own_tagged (by rw [hyy]; exact hy) hj).1
  clear hvv hyy
  have hs1 := hB1.size
  have hb1 := hb.below hB1
  have hv1 := own_below hv hB1
  have hvlt : ∀ j, v.ownBlock = some j → j < w.heap.size := fun j hj => (hv.lt j hj).2
  have hklt : ∀ j, kc.ownBlock = some j → j < w.heap.size := fun j hj => (hb.kept.lt j hj).2
  have HVLT : Hid (∀ j, v.ownBlock = some j → j < w.heap.size) := hvlt
  have HKLT : Hid (∀ j, kc.ownBlock = some j → j < w.heap.size) := hklt
  have HYF : Hid (∀ j, yv.ownBlock = some j → w.heap.size ≤ j) := hyf
  clear hb hv hvlt hklt hyf
  have c3 : w1.cell? ⟨B, 3, none⟩ = some kc := hb1.bk.blk.cell 3
  have c4 : w1.cell? ⟨B, 4, none⟩ = some yc := hb1.bk.blk.cell 4
  have keepS : ∀ W', Below w1.heap.size w1 W' → W'.cell? ⟨B, 3, none⟩ = some kc ∧ W'.cell? ⟨B, 4, none⟩ = some yc := fun W' h => by
    have hb2 := hb1.below h
    exact ⟨hb2.bk.blk.cell 3, hb2.bk.blk.cell 4⟩
  have hcon := sameC_any K kc yc base base w1.drew hb1.kept.drew hb1.were.drew
  go_region_held3 (fun W' => W'.cell? ⟨B, 3, none⟩ = some kc ∧ W'.cell? ⟨B, 4, none⟩ = some yc)
    (first
      | exact keepS _ ((Below.refl _ w1).drew.trans hb2')
      | go_keep)
    ((go_at_call 33; refine hcon.mono ?_; rintro e w2 ⟨rfl, hb2'⟩))
  have hB2 : Below w1.heap.size w1 w2 := (Below.refl _ w1).drew.trans hb2'
  have hb2 := hb1.below hB2
  have hv2 := own_below hv1 hB2
  have hy2 := own_below hy hB2
  have hs2 := hB2.size
  have hB02 : Below w.heap.size w w2 := hB1.trans (hB2.mono hs1)
  clear keepS hcon c3 c4 hb1 hv1 hy hb2' hB1 hB2
  have c3 : w2.cell? ⟨B, 3, none⟩ = some kc := hb2.bk.blk.cell 3
  go_wp2_with fail
  refine (markC_any w2 base B n came kc yc cv cn E hb2.bk kc K.length (flatC K) hb2.kept hb2.small hb2.far (by omega) (by omega)).mono ?_
  rintro e w3 ⟨rfl, cv3, cn3, E3, hbk3, hE3, hE3f, hfr3⟩
  have hv3 := own_fr hfr3 hv2 (fun j hj h => HK.out j h hj)
  have hy3 := own_fr hfr3 hy2 (fun j hj h => by have h1 := HYF.out j hj; have h2 := HKLT.out j h; omega)
  have hB03 : Below base w w3 := (hB02.mono (by omega)).trans hfr3.low
  have hs3 := hfr3.low.size
  have HFAR : Hid (∀ e ∈ E ++ E3, ∀ j, e.1.ownBlock = some j → v.ownBlock ≠ some j) := fun e he j hj => by
    rcases List.mem_append.1 he with he | he
    · exact HE.out e he j hj
    · intro h
      rcases hE3f e he j hj with h1 | h1
      · exact HK.out j h1 h
      · have h2 := HVLT.out j h; omega
  clear c3 hb2 hv2 hy2 hB02 hfr3 hE3f
  go_wp2_with fail
  refine (sameC_any L v yv base w.heap.size w3 hv3 hy3).mono ?_
  rintro e w4 ⟨rfl, hB4⟩
  have hbk4 := hbk3.below hB4
  have hv4 := own_below hv3 hB4
  have hy4 := own_below hy3 hB4
  have hB04 : Below base w w4 := hB03.trans (hB4.mono (by omega))
  have hs4 := hB4.size
  clear hbk3 hv3 hy3 hB03 hB4
  have hBW4 := hbk4.blk.lt
  have d1 : w4.cell? ⟨B, 1, none⟩ = some (.int .i64 (came : Int)) := hbk4.blk.cell 1
  have d2 : w4.cell? ⟨B, 2, none⟩ = some (.bool false) := hbk4.blk.cell 2
  have d3 : w4.cell? ⟨B, 3, none⟩ = some kc := hbk4.blk.cell 3
  have d4 : w4.cell? ⟨B, 4, none⟩ = some yc := hbk4.blk.cell 4
  have f1 : w4.frozen? ⟨B, 1, none⟩ = false := hbk4.blk.frozen 1
  have f2 : w4.frozen? ⟨B, 2, none⟩ = false := hbk4.blk.frozen 2
  have f3 : w4.frozen? ⟨B, 3, none⟩ = false := hbk4.blk.frozen 3
  have f4 : w4.frozen? ⟨B, 4, none⟩ = false := hbk4.blk.frozen 4
  have hbk5 := (((hbk4.store 2 (.bool false) (n' := n + 1) (came' := came) (kc' := kc) (yc' := yc) rfl).store 3 (.slice none 0 0) (n' := n + 1) (came' := came) (kc' := .slice none 0 0) (yc' := yc) rfl).store 4 (.slice none 0 0) (n' := n + 1) (came' := came) (kc' := .slice none 0 0) (yc' := .slice none 0 0) rfl).store 1 (.int .i64 ((came : Int) + 1)) (n' := n + 1) (came' := came + 1) (kc' := .slice none 0 0) (yc' := .slice none 0 0) rfl
  have hv5 := own_other (i := 1) (own_other (i := 4) (own_other (i := 3) (own_other (i := 2) hv4 hbk4.blk (by decide) (.bool false)) (hbk4.blk.set 2 _) (by decide) (.slice none 0 0)) ((hbk4.blk.set 2 _).set 3 _) (by decide) (.slice none 0 0)) (((hbk4.blk.set 2 _).set 3 _).set 4 _) (by decide) (.int .i64 ((came : Int) + 1))
  have hy5 := own_other (i := 1) (own_other (i := 4) (own_other (i := 3) (own_other (i := 2) hy4 hbk4.blk (by decide) (.bool false)) (hbk4.blk.set 2 _) (by decide) (.slice none 0 0)) ((hbk4.blk.set 2 _).set 3 _) (by decide) (.slice none 0 0)) (((hbk4.blk.set 2 _).set 3 _).set 4 _) (by decide) (.int .i64 ((came : Int) + 1))
  have hB05 := (((hB04.setCell (p := ⟨B, 2, none⟩) hle (.bool false)).setCell (p := ⟨B, 3, none⟩) hle (.slice none 0 0)).setCell (p := ⟨B, 4, none⟩) hle (.slice none 0 0)).setCell (p := ⟨B, 1, none⟩) hle (.int .i64 ((came : Int) + 1))
  clear hv4 hy4 hB04
  rcases Nat.mod_two_eq_zero_or_one came with hpar | hpar
  · obtain ⟨p1, p2⟩ := par_odd came hpar
    obtain ⟨av, capv, hvs, _⟩ := own_shape hv5
    obtain ⟨ay, capy', hys, _⟩ := own_shape hy5
    subst hvs
    subst hys
    have hbk6 := (hbk5.store 3 (.slice av L.length capv) (n' := n + 1) (came' := came + 1) (kc' := .slice av L.length capv) (yc' := .slice none 0 0) rfl).store 4 (.slice ay L.length capy') (n' := n + 1) (came' := came + 1) (kc' := .slice av L.length capv) (yc' := .slice ay L.length capy') rfl
    have hv6 := own_other (i := 4) (own_other (i := 3) hv5 hbk5.blk (by decide) (.slice av L.length capv)) (hbk5.blk.set 3 _) (by decide) (.slice ay L.length capy')
    have hy6 := own_other (i := 4) (own_other (i := 3) hy5 hbk5.blk (by decide) (.slice av L.length capv)) (hbk5.blk.set 3 _) (by decide) (.slice ay L.length capy')
    have hB06 := (hB05.setCell (p := ⟨B, 3, none⟩) hle (.slice av L.length capv)).setCell (p := ⟨B, 4, none⟩) hle (.slice ay L.length capy')
    clear hpar hv5 hy5 hbk5 hB05
    go_wp2
    refine bodyPost_end (v := .tuple #[]) (by simp [results, Try.results12]) rfl ⟨rfl, ?_⟩
    exact ⟨n + 1, _, _, cv3, cn3, E ++ E3, L, by omega, by rw [List.length_append, hE3]; omega, ⟨hbk6, hL, hv6, own_mono hy6 (by omega), HFAR.out⟩, hB06⟩
  · obtain ⟨p1, p2⟩ := par_even came hpar
    clear hpar
    go_wp2_with fail
    refine (markC_any _ base B (n + 1) (came + 1) _ _ cv3 cn3 (E ++ E3) hbk5 v L.length (flatC L) hv5 hL HFAR.out (by omega) (by rw [List.length_append, hE3]; omega)).mono ?_
    rintro e w6 ⟨rfl, cv6, cn6, E6, hbk6, hE6, _, hfr6⟩
    go_wp2
    refine bodyPost_end (v := .tuple #[]) (by simp [results, Try.results12]) rfl ⟨rfl, ?_⟩
    exact ⟨n + 1 + 1, _, _, cv6, cn6, E ++ E3 ++ E6, [], by omega, by rw [List.length_append, List.length_append, hE3, hE6]; omega, ⟨hbk6, by simp, World.ownsRow_nil _ _ _ _, World.ownsRow_nil _ _ _ _, fun e _ j _ => by simp [Value.ownBlock]⟩, hB05.trans hfr6.low⟩

set_option maxRecDepth 100000 in
set_option maxHeartbeats 4000000 in
theorem cells_nil (w : World) (base B n came : Nat) (kc yc cv cn : Value) (E : List (Value × Int)) (K : List (Nat × Nat)) (hb : Book w base B n came kc yc cv cn E K) (v : Value) (L : List (Nat × Nat)) (hv : w.ownsRow base 34 2 v L.length (flatC L)) (hL : L.length ≤ 4) (hL0 : v = .slice none 0 0 ∧ L = [])
    (hE : ∀ e ∈ E, ∀ j, e.1.ownBlock = some j → v.ownBlock ≠ some j) (hK : ∀ j, kc.ownBlock = some j → v.ownBlock ≠ some j) (hn : n ≤ 1073741820) (hEl : E.length ≤ 1073741820) (hc : came ≤ 1073741820) :
    Calls Try.prog 12 #[.pointer (some ⟨B, 0, none⟩), v] w fun e w' => e = .returned (.tuple #[]) ∧ CellsPost w base B n came E w' := by
  have hle := hb.bk.le
  have hBlt := hb.bk.blk.lt
  have HE : Hid (∀ e ∈ E, ∀ j, e.1.ownBlock = some j → v.ownBlock ≠ some j) := hE
  have HK : Hid (∀ j, kc.ownBlock = some j → v.ownBlock ≠ some j) := hK
  clear hE hK
  obtain ⟨hvn, hLn⟩ := hL0
  subst hvn
  subst hLn
  have hB1 : Below w.heap.size w w := Below.refl _ _
  have hy : w.ownsRow w.heap.size 34 2 (.slice none 0 0) ([] : List (Nat × Nat)).length (flatC []) := World.ownsRow_nil _ _ _ _
  have hyf : ∀ j, (Value.slice none 0 0).ownBlock = some j → w.heap.size ≤ j := fun j hj => by cases hj
  go_enter Try.func12, Try.ntmps12
  go_wp2
  have hs1 := hB1.size
  have hb1 := hb.below hB1
  have hv1 := own_below hv hB1
  have hvlt : ∀ j, (Value.slice none 0 0).ownBlock = some j → j < w.heap.size := fun j hj => (hv.lt j hj).2
  have hklt : ∀ j, kc.ownBlock = some j → j < w.heap.size := fun j hj => (hb.kept.lt j hj).2
  have HVLT : Hid (∀ j, (Value.slice none 0 0).ownBlock = some j → j < w.heap.size) := hvlt
  have HKLT : Hid (∀ j, kc.ownBlock = some j → j < w.heap.size) := hklt
  have HYF : Hid (∀ j, (Value.slice none 0 0).ownBlock = some j → w.heap.size ≤ j) := hyf
  clear hb hv hvlt hklt hyf
  have c3 : w.cell? ⟨B, 3, none⟩ = some kc := hb1.bk.blk.cell 3
  have c4 : w.cell? ⟨B, 4, none⟩ = some yc := hb1.bk.blk.cell 4
  have keepS : ∀ W', Below w.heap.size w W' → W'.cell? ⟨B, 3, none⟩ = some kc ∧ W'.cell? ⟨B, 4, none⟩ = some yc := fun W' h => by
    have hb2 := hb1.below h
    exact ⟨hb2.bk.blk.cell 3, hb2.bk.blk.cell 4⟩
  have hcon := sameC_any K kc yc base base w.drew hb1.kept.drew hb1.were.drew
  go_region_held3 (fun W' => W'.cell? ⟨B, 3, none⟩ = some kc ∧ W'.cell? ⟨B, 4, none⟩ = some yc)
    (first
      | exact keepS _ ((Below.refl _ w).drew.trans hb2')
      | go_keep)
    ((go_at_call 33; refine hcon.mono ?_; rintro e w2 ⟨rfl, hb2'⟩))
  have hB2 : Below w.heap.size w w2 := (Below.refl _ w).drew.trans hb2'
  have hb2 := hb1.below hB2
  have hv2 := own_below hv1 hB2
  have hy2 := own_below hy hB2
  have hs2 := hB2.size
  have hB02 : Below w.heap.size w w2 := hB1.trans (hB2.mono hs1)
  clear keepS hcon c3 c4 hb1 hv1 hy hb2' hB1 hB2
  have c3 : w2.cell? ⟨B, 3, none⟩ = some kc := hb2.bk.blk.cell 3
  go_wp2_with fail
  refine (markC_any w2 base B n came kc yc cv cn E hb2.bk kc K.length (flatC K) hb2.kept hb2.small hb2.far (by omega) (by omega)).mono ?_
  rintro e w3 ⟨rfl, cv3, cn3, E3, hbk3, hE3, hE3f, hfr3⟩
  have hv3 := own_fr hfr3 hv2 (fun j hj h => HK.out j h hj)
  have hy3 := own_fr hfr3 hy2 (fun j hj h => by have h1 := HYF.out j hj; have h2 := HKLT.out j h; omega)
  have hB03 : Below base w w3 := (hB02.mono (by omega)).trans hfr3.low
  have hs3 := hfr3.low.size
  have HFAR : Hid (∀ e ∈ E ++ E3, ∀ j, e.1.ownBlock = some j → (Value.slice none 0 0).ownBlock ≠ some j) := fun e he j hj => by
    rcases List.mem_append.1 he with he | he
    · exact HE.out e he j hj
    · intro h
      rcases hE3f e he j hj with h1 | h1
      · exact HK.out j h1 h
      · have h2 := HVLT.out j h; omega
  clear c3 hb2 hv2 hy2 hB02 hfr3 hE3f
  go_wp2_with fail
  refine (sameC_any ([] : List (Nat × Nat)) (Value.slice none 0 0) (Value.slice none 0 0) base w.heap.size w3 hv3 hy3).mono ?_
  rintro e w4 ⟨rfl, hB4⟩
  have hbk4 := hbk3.below hB4
  have hv4 := own_below hv3 hB4
  have hy4 := own_below hy3 hB4
  have hB04 : Below base w w4 := hB03.trans (hB4.mono (by omega))
  have hs4 := hB4.size
  clear hbk3 hv3 hy3 hB03 hB4
  have hBW4 := hbk4.blk.lt
  have d1 : w4.cell? ⟨B, 1, none⟩ = some (.int .i64 (came : Int)) := hbk4.blk.cell 1
  have d2 : w4.cell? ⟨B, 2, none⟩ = some (.bool false) := hbk4.blk.cell 2
  have d3 : w4.cell? ⟨B, 3, none⟩ = some kc := hbk4.blk.cell 3
  have d4 : w4.cell? ⟨B, 4, none⟩ = some yc := hbk4.blk.cell 4
  have f1 : w4.frozen? ⟨B, 1, none⟩ = false := hbk4.blk.frozen 1
  have f2 : w4.frozen? ⟨B, 2, none⟩ = false := hbk4.blk.frozen 2
  have f3 : w4.frozen? ⟨B, 3, none⟩ = false := hbk4.blk.frozen 3
  have f4 : w4.frozen? ⟨B, 4, none⟩ = false := hbk4.blk.frozen 4
  have hbk5 := (((hbk4.store 2 (.bool false) (n' := n + 1) (came' := came) (kc' := kc) (yc' := yc) rfl).store 3 (.slice none 0 0) (n' := n + 1) (came' := came) (kc' := .slice none 0 0) (yc' := yc) rfl).store 4 (.slice none 0 0) (n' := n + 1) (came' := came) (kc' := .slice none 0 0) (yc' := .slice none 0 0) rfl).store 1 (.int .i64 ((came : Int) + 1)) (n' := n + 1) (came' := came + 1) (kc' := .slice none 0 0) (yc' := .slice none 0 0) rfl
  have hv5 := own_other (i := 1) (own_other (i := 4) (own_other (i := 3) (own_other (i := 2) hv4 hbk4.blk (by decide) (.bool false)) (hbk4.blk.set 2 _) (by decide) (.slice none 0 0)) ((hbk4.blk.set 2 _).set 3 _) (by decide) (.slice none 0 0)) (((hbk4.blk.set 2 _).set 3 _).set 4 _) (by decide) (.int .i64 ((came : Int) + 1))
  have hy5 := own_other (i := 1) (own_other (i := 4) (own_other (i := 3) (own_other (i := 2) hy4 hbk4.blk (by decide) (.bool false)) (hbk4.blk.set 2 _) (by decide) (.slice none 0 0)) ((hbk4.blk.set 2 _).set 3 _) (by decide) (.slice none 0 0)) (((hbk4.blk.set 2 _).set 3 _).set 4 _) (by decide) (.int .i64 ((came : Int) + 1))
  have hB05 := (((hB04.setCell (p := ⟨B, 2, none⟩) hle (.bool false)).setCell (p := ⟨B, 3, none⟩) hle (.slice none 0 0)).setCell (p := ⟨B, 4, none⟩) hle (.slice none 0 0)).setCell (p := ⟨B, 1, none⟩) hle (.int .i64 ((came : Int) + 1))
  clear hv4 hy4 hB04
  rcases Nat.mod_two_eq_zero_or_one came with hpar | hpar
  · obtain ⟨p1, p2⟩ := par_odd came hpar
    have hbk6 := (hbk5.store 3 (Value.slice none 0 0) (n' := n + 1) (came' := came + 1) (kc' := (Value.slice none 0 0)) (yc' := .slice none 0 0) rfl).store 4 (Value.slice none 0 0) (n' := n + 1) (came' := came + 1) (kc' := (Value.slice none 0 0)) (yc' := (Value.slice none 0 0)) rfl
    have hv6 := own_other (i := 4) (own_other (i := 3) hv5 hbk5.blk (by decide) (Value.slice none 0 0)) (hbk5.blk.set 3 _) (by decide) (Value.slice none 0 0)
    have hy6 := own_other (i := 4) (own_other (i := 3) hy5 hbk5.blk (by decide) (Value.slice none 0 0)) (hbk5.blk.set 3 _) (by decide) (Value.slice none 0 0)
    have hB06 := (hB05.setCell (p := ⟨B, 3, none⟩) hle (Value.slice none 0 0)).setCell (p := ⟨B, 4, none⟩) hle (Value.slice none 0 0)
    clear hpar hv5 hy5 hbk5 hB05
    go_wp2
    refine bodyPost_end (v := .tuple #[]) (by simp [results, Try.results12]) rfl ⟨rfl, ?_⟩
    exact ⟨n + 1, _, _, cv3, cn3, E ++ E3, ([] : List (Nat × Nat)), by omega, by rw [List.length_append, hE3]; omega, ⟨hbk6, hL, hv6, own_mono hy6 (by omega), HFAR.out⟩, hB06⟩
  · obtain ⟨p1, p2⟩ := par_even came hpar
    clear hpar
    go_wp2_with fail
    refine (markC_any _ base B (n + 1) (came + 1) _ _ cv3 cn3 (E ++ E3) hbk5 (Value.slice none 0 0) ([] : List (Nat × Nat)).length (flatC ([] : List (Nat × Nat))) hv5 hL HFAR.out (by omega) (by rw [List.length_append, hE3]; omega)).mono ?_
    rintro e w6 ⟨rfl, cv6, cn6, E6, hbk6, hE6, _, hfr6⟩
    go_wp2
    refine bodyPost_end (v := .tuple #[]) (by simp [results, Try.results12]) rfl ⟨rfl, ?_⟩
    exact ⟨n + 1 + 1, _, _, cv6, cn6, E ++ E3 ++ E6, [], by omega, by rw [List.length_append, List.length_append, hE3, hE6]; omega, ⟨hbk6, by simp, World.ownsRow_nil _ _ _ _, World.ownsRow_nil _ _ _ _, fun e _ j _ => by simp [Value.ownBlock]⟩, hB05.trans hfr6.low⟩
end Go.Proofs.Ytdgbgmffpcooeaa
