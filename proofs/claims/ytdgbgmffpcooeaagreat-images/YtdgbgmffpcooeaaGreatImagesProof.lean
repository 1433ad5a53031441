/- For every number, every list of moves, every list of turns and every second list of moves the call of Images returns true, and its arguments read afterwards as they read before. It has no condition. -/
import Derived.Test.YtdgbgmffpcooeaaGreatRows
import Derived.ProofKit
import Derived.ChangeOld
import Derived.Below
import Derived.Carry
import Derived.Deep.Slices
import Derived.Lib.SmallJoins
import Derived.Test.YtdgbgmffpcooeaaGreatI52
namespace Go.Proofs.YtdgbgmffpcooeaaGreat.images
open Go.ChangeShapes Go.WideShapes Go.ChangeAt Go.RowKit Go.Joins Go.Deep

theorem own : ownKnob Tryz.prog.godebug = none := by kernel_rfl
theorem cells56 : Tryz.prog.cellsOf 56 = 3 := by kernel_rfl
theorem cells3 : Tryz.prog.cellsOf 3 = 1 := by kernel_rfl
theorem laid : laidOutB Tryz.prog = true := by kernel_rfl
theorem list3 {α : Type} {cs : List α} (h : cs.length = 3) : ∃ c0 c1 c2, cs = [c0, c1, c2] := by
  match cs, h with
  | [c0, c1, c2], _ => exact ⟨c0, c1, c2, rfl⟩
theorem trod_struct3 {H : Type} {enc : TypeId × Value → H} {P : Program} {w : World} {base : Nat} {spare : Nat → Bool} {held : Bool} {t : TypeId} {f0 f1 f2 : Field} {fuel : Nat} {cs : List Value} {x : DataW H × List MemPlace} (ht : P.underlying t = some (.struct #[f0, f1, f2])) (h : DataW.trod enc P w base spare held fuel t cs = some x) :
    ∃ y0 y1 y2 n, x = (.agg [y0.1, y1.1, y2.1], y0.2 ++ (y1.2 ++ y2.2)) ∧ cs.length = P.cellsOf t ∧ DataW.trod enc P w base spare held n f0.type ((cs.drop f0.offset).take (P.cellsOf f0.type)) = some y0 ∧
      DataW.trod enc P w base spare held n f1.type ((cs.drop f1.offset).take (P.cellsOf f1.type)) = some y1 ∧ DataW.trod enc P w base spare held n f2.type ((cs.drop f2.offset).take (P.cellsOf f2.type)) = some y2 := by
  obtain ⟨xs, n, _, rfl, hl, hlen, hf⟩ := DataW.trod_struct ht h
  match xs, hlen with
  | [y0, y1, y2], _ => exact ⟨y0, y1, y2, n, by simp, hl, by simpa using hf 0 f0 rfl, by simpa using hf 1 f1 rfl, by simpa using hf 2 f2 rfl⟩
instance : Inhabited MvR := ⟨⟨0, 0, 0⟩⟩
set_option maxRecDepth 100000 in
/-- What is known of the moves. -/
theorem opened_moves {H : Type} {enc : TypeId × Value → H} {W : World} {base : Nat} {v : Value} {d : DataW H} {p : List MemPlace} (hv : Value.okWide Tryz.prog W .any base 51 v) (h : DataW.Trod enc Tryz.prog W 0 (fun _ => true) true 51 v d p) :
    ∃ so ls cs O, v = .slice so ls cs ∧ MAt W so ls O ∧ ls ≤ 9223372036854775807 := by
  obtain ⟨fuel, hf⟩ := h
  obtain ⟨a0, len, cap, rfl⟩ := okWide_slice Tryz.underlying51 hv
  rcases open_slice Tryz.underlying51 hf with ⟨hcs, hx⟩ | ⟨a, len', cap', m, n, D, Pl, hcs, _, hl, hm, hmm, hx, hel⟩
  · simp [Value.cells] at hcs
    obtain ⟨rfl, rfl, rfl⟩ := hcs
    exact ⟨_, _, _, default, rfl, ⟨fun i hi => by omega, fun i hi => by omega⟩, by omega⟩
  · simp [Value.cells] at hcs
    obtain ⟨rfl, rfl, rfl⟩ := hcs
    simp only [if_true] at hmm
    subst hmm
    have key : ∀ i, i < len → ∃ o : MvR, a.block < W.heap.size ∧ (W.cell? (a.add (i * 3)) = some (.int .i64 o.k) ∧ W.cell? ⟨(a.add (i * 3)).block, (a.add (i * 3)).off + 1, none⟩ = some (.int .i64 o.a) ∧ W.cell? ⟨(a.add (i * 3)).block, (a.add (i * 3)).off + 2, none⟩ = some (.int .i64 o.b)) ∧ ((Lit.int .i64 o.k).wf = true ∧ (Lit.int .i64 o.a).wf = true ∧ (Lit.int .i64 o.b).wf = true) := by
      intro i hi
      obtain ⟨cs', hc, ht⟩ := hel i (by omega)
      rw [cells56] at hc
      obtain ⟨y0, y1, y2, n', hD, _, h0, h1, h2⟩ := trod_struct3 Tryz.underlying56 ht
      obtain ⟨_, hl3, hcell⟩ := World.cells?_some hc
      have hblk : (a.add (i * 3)).block = a.block := by unfold Addr.add; split <;> rfl
      have hb := World.cells?_block hc (by omega)
      rw [hblk] at hb
      obtain ⟨c0, c1, c2, rfl⟩ := list3 hl3
      have k0 := hcell 0 (by omega)
      have k1 := hcell 1 (by omega)
      have k2 := hcell 2 (by omega)
      simp only [cells3] at h0 h1 h2
      obtain ⟨q0, e0, _, w0⟩ := DataW.trod_int Tryz.underlying3 h0
      obtain ⟨q1, e1, _, w1⟩ := DataW.trod_int Tryz.underlying3 h1
      obtain ⟨q2, e2, _, w2⟩ := DataW.trod_int Tryz.underlying3 h2
      simp at e0 e1 e2
      subst e0 e1 e2
      exact ⟨⟨q0, q1, q2⟩, hb, ⟨k0, k1, k2⟩, w0, w1, w2⟩
    obtain ⟨O, hO⟩ := choose_lt key
    refine ⟨_, _, _, O, rfl, ⟨fun i hi => ⟨a, rfl, (hO i hi).1, (hO i hi).2.1⟩, fun i hi => (hO i hi).2.2⟩, ?_⟩
    have : maxLen = 9223372036854775807 := by decide
    omega

theorem cells83 : Tryz.prog.cellsOf 83 = 4 := by kernel_rfl
theorem cells4 : Tryz.prog.cellsOf 4 = 1 := by kernel_rfl
instance : Inhabited TuR := ⟨⟨0, 0, 0, false⟩⟩
theorem list4 {α : Type} {cs : List α} (h : cs.length = 4) : ∃ c0 c1 c2 c3, cs = [c0, c1, c2, c3] := by
  match cs, h with
  | [c0, c1, c2, c3], _ => exact ⟨c0, c1, c2, c3, rfl⟩
theorem trod_struct4 {H : Type} {enc : TypeId × Value → H} {P : Program} {w : World} {base : Nat} {spare : Nat → Bool} {held : Bool} {t : TypeId} {f0 f1 f2 f3 : Field} {fuel : Nat} {cs : List Value} {x : DataW H × List MemPlace} (ht : P.underlying t = some (.struct #[f0, f1, f2, f3])) (h : DataW.trod enc P w base spare held fuel t cs = some x) :
    ∃ y0 y1 y2 y3 n, DataW.trod enc P w base spare held n f0.type ((cs.drop f0.offset).take (P.cellsOf f0.type)) = some y0 ∧
      DataW.trod enc P w base spare held n f1.type ((cs.drop f1.offset).take (P.cellsOf f1.type)) = some y1 ∧ DataW.trod enc P w base spare held n f2.type ((cs.drop f2.offset).take (P.cellsOf f2.type)) = some y2 ∧ DataW.trod enc P w base spare held n f3.type ((cs.drop f3.offset).take (P.cellsOf f3.type)) = some y3 := by
  obtain ⟨xs, n, _, rfl, hl, hlen, hf⟩ := DataW.trod_struct ht h
  match xs, hlen with
  | [y0, y1, y2, y3], _ => exact ⟨y0, y1, y2, y3, n, by simpa using hf 0 f0 rfl, by simpa using hf 1 f1 rfl, by simpa using hf 2 f2 rfl, by simpa using hf 3 f3 rfl⟩
set_option maxRecDepth 100000 in
/-- What is known of the turns. -/
theorem opened_turns {H : Type} {enc : TypeId × Value → H} {W : World} {base : Nat} {v : Value} {d : DataW H} {p : List MemPlace} (hv : Value.okWide Tryz.prog W .any base 80 v) (h : DataW.Trod enc Tryz.prog W 0 (fun _ => true) true 80 v d p) :
    ∃ so ls cs T, v = .slice so ls cs ∧ TAt W so ls T ∧ ls ≤ 9223372036854775807 := by
  obtain ⟨fuel, hf⟩ := h
  obtain ⟨a0, len, cap, rfl⟩ := okWide_slice Tryz.underlying80 hv
  rcases open_slice Tryz.underlying80 hf with ⟨hcs, hx⟩ | ⟨a, len', cap', m, n, D, Pl, hcs, _, hl, hm, hmm, hx, hel⟩
  · simp [Value.cells] at hcs
    obtain ⟨rfl, rfl, rfl⟩ := hcs
    exact ⟨_, _, _, default, rfl, ⟨fun i hi => by omega, fun i hi => by omega⟩, by omega⟩
  · simp [Value.cells] at hcs
    obtain ⟨rfl, rfl, rfl⟩ := hcs
    simp only [if_true] at hmm
    subst hmm
    have key : ∀ i, i < len → ∃ o : TuR, a.block < W.heap.size ∧ (W.cell? (a.add (i * 4)) = some (.int .i64 o.at_) ∧ W.cell? ⟨(a.add (i * 4)).block, (a.add (i * 4)).off + 1, none⟩ = some (.int .i64 o.by_) ∧ W.cell? ⟨(a.add (i * 4)).block, (a.add (i * 4)).off + 2, none⟩ = some (.int .i64 o.from_) ∧ W.cell? ⟨(a.add (i * 4)).block, (a.add (i * 4)).off + 3, none⟩ = some (.bool o.low)) ∧ ((Lit.int .i64 o.at_).wf = true ∧ (Lit.int .i64 o.by_).wf = true ∧ (Lit.int .i64 o.from_).wf = true) := by
      intro i hi
      obtain ⟨cs', hc, ht⟩ := hel i (by omega)
      rw [cells83] at hc
      obtain ⟨y0, y1, y2, y3, n', h0, h1, h2, h3⟩ := trod_struct4 Tryz.underlying83 ht
      obtain ⟨_, hl4, hcell⟩ := World.cells?_some hc
      have hblk : (a.add (i * 4)).block = a.block := by unfold Addr.add; split <;> rfl
      have hb := World.cells?_block hc (by omega)
      rw [hblk] at hb
      obtain ⟨c0, c1, c2, c3, rfl⟩ := list4 hl4
      have k0 := hcell 0 (by omega)
      have k1 := hcell 1 (by omega)
      have k2 := hcell 2 (by omega)
      have k3 := hcell 3 (by omega)
      simp only [cells3, cells4] at h0 h1 h2 h3
      obtain ⟨q0, e0, _, w0⟩ := DataW.trod_int Tryz.underlying3 h0
      obtain ⟨q1, e1, _, w1⟩ := DataW.trod_int Tryz.underlying3 h1
      obtain ⟨q2, e2, _, w2⟩ := DataW.trod_int Tryz.underlying3 h2
      obtain ⟨q3, e3, _⟩ := DataW.trod_bool Tryz.underlying4 h3
      simp at e0 e1 e2 e3
      subst e0 e1 e2 e3
      exact ⟨⟨q0, q1, q2, q3⟩, hb, ⟨k0, k1, k2, k3⟩, w0, w1, w2⟩
    obtain ⟨T, hT⟩ := choose_lt key
    refine ⟨_, _, _, T, rfl, ⟨fun i hi => ⟨a, rfl, (hT i hi).1, (hT i hi).2.1⟩, fun i hi => (hT i hi).2.2⟩, ?_⟩
    have : maxLen = 9223372036854775807 := by decide
    omega
set_option maxRecDepth 100000 in
theorem lifted (os : Os) (started : os.Started) (H : Type) (enc : TypeId × Value → H) :
    ReturnsInHanded {} Tryz.checked os 8 .any (Rows.imagesSpec.pre6 enc Tryz.prog Tryz.f8 Rows.imagesRow.domain false) (Rows.imagesSpec.post enc Tryz.prog Tryz.f8 false true false false) := by
  refine returnsInHanded_of_change (C := Tryz.checked) own started (by kernel_rfl) Tryz.func8
    (ChangeSpec.witness6 (enc := enc) (C := Tryz.checked) false ⟨#[], #[.int .i64 0, .slice none 0 0, .slice none 0 0, .slice none 0 0], []⟩ 8 (by kernel_rfl) (by kernel_rfl) (by kernel_rfl) (by kernel_rfl)) ?_
  intro W base args ds gs before hval0 hW hcnd _
  have hval : ∀ (j : Nat) t v, Tryz.f8.params[j]? = some t → args[j]? = some v → Value.okWide Tryz.prog W .any base t v := hval0
  have hW' := hW
  obtain ⟨p, q, hA0, hV, rfl, hfz, hnd⟩ := hW
  have hA : DataW.TrodAll enc Tryz.prog W 0 (fun _ => true) true Tryz.f8.params.toList args.toList ds p := hA0
  rw [Tryz.params8] at hA hval
  obtain ⟨v0, vs0, d0, ds0, p0, q0, hargs, rfl, rfl, h0, r0⟩ := trodAll_cons hA
  obtain ⟨v1, vs1, d1, ds1, p1, q1, rfl, rfl, rfl, h1, r1⟩ := trodAll_cons r0
  obtain ⟨v2, vs2, d2, ds2, p2, q2, rfl, rfl, rfl, h2, r2⟩ := trodAll_cons r1
  obtain ⟨v3, vs3, d3, ds3, p3, q3, rfl, rfl, rfl, h3, r3⟩ := trodAll_cons r2
  obtain ⟨rfl, rfl, rfl⟩ := trodAll_nil r3
  obtain rfl : args = #[v0, v1, v2, v3] := by cases args; simp_all
  obtain ⟨rfl, rfl⟩ := trodVars_none hV
  obtain ⟨a0, rfl, rfl, rfl, w0⟩ := open_int Tryz.underlying3 (hval 0 3 v0 rfl rfl) h0
  have hlt : ∀ x ∈ p1, x.block < W.heap.size := fun x hx => hW'.lt x (by simp [hx])
  have hlt2 : ∀ x ∈ p2, x.block < W.heap.size := fun x hx => hW'.lt x (by simp [hx])
  have hlt3 : ∀ x ∈ p3, x.block < W.heap.size := fun x hx => hW'.lt x (by simp [hx])
  obtain ⟨so, ls, cs, O, rfl, hO, hls⟩ := opened_moves (hval 1 51 v1 rfl rfl) h1
  obtain ⟨ta, lt, ct, T, rfl, hT, hltt⟩ := opened_turns (hval 2 80 v2 rfl rfl) h2
  obtain ⟨mo, lm, cm, M, rfl, hM, hlm⟩ := opened_moves (hval 3 51 v3 rfl rfl) h3
  clear hA0 hval0
  refine (images_any W a0 w0 so ls cs O hO hls ta lt ct T hT hltt mo lm cm M hM hlm).mono fun e W' ⟨he, bel⟩ => ?_
  subst he
  have a1 := Below.trod laid (by kernel_rfl) (of_decide_eq_true (by kernel_rfl)) h1 bel hlt
  have a2 := Below.trod laid (by kernel_rfl) (of_decide_eq_true (by kernel_rfl)) h2 bel hlt2
  have a3 := Below.trod laid (by kernel_rfl) (of_decide_eq_true (by kernel_rfl)) h3 bel hlt3
  exact ⟨_, rfl, _, _, _, [], _, [], hW', trodAll_mk1 (shut_bool Tryz.underlying4 _), (trodAll_cons_mk (shut_int Tryz.underlying3 w0) (trodAll_cons_mk a1 (trodAll_cons_mk a2 (trodAll_cons_mk a3 trodAll_mk0)))), rfl, bel.frame _, fun h => by cases h⟩

theorem over : Rows.imagesRow.holds Tryz.pinned (OpenSpec.ofChange Rows.imagesSpec) :=
  OpenClaim.holds_of_wide 8 Tryz.f8 rfl rfl rfl rfl rfl rfl rfl ⟨rfl, rfl, rfl, rfl, rfl⟩ rfl rfl rfl rfl rfl (by kernel_rfl) Tryz.func8 (by kernel_rfl)
    (of_decide_eq_true (by kernel_rfl)) (by unfold Func.isWrapper; first | (rw [if_pos (by decide +kernel)]; kernel_rfl) | (rw [if_neg (by decide +kernel)]; exact ⟨rfl, rfl⟩))
    (fun os started H enc _ => lifted os started H enc)

end Go.Proofs.YtdgbgmffpcooeaaGreat.images
namespace Go.Proofs.YtdgbgmffpcooeaaGreat
/-- The given statement. -/
theorem images_holds : Rows.ImagesSaid := images.over
end Go.Proofs.YtdgbgmffpcooeaaGreat
