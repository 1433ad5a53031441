/- For every number and every list of falls the call of Torn returns true, and its arguments read afterwards as they read before. It has no condition. -/
import Derived.Test.YtdgbgmffpcooeaaGreatRows
import Derived.ProofKit
import Derived.ChangeOld
import Derived.Below
import Derived.Carry
import Derived.Deep.Slices
import Derived.Lib.SmallJoins
import Derived.Test.YtdgbgmffpcooeaaGreatV54
namespace Go.Proofs.YtdgbgmffpcooeaaGreat.torn
open Go.ChangeShapes Go.WideShapes Go.ChangeAt Go.RowKit Go.Joins Go.Deep

theorem own : ownKnob Tryz.prog.godebug = none := by kernel_rfl
theorem cells56 : Tryz.prog.cellsOf 56 = 3 := by kernel_rfl
theorem cells3 : Tryz.prog.cellsOf 3 = 1 := by kernel_rfl
theorem laid : laidOutB Tryz.prog = true := by kernel_rfl
theorem list3 {α : Type} {cs : List α} (h : cs.length = 3) : ∃ c0 c1 c2, cs = [c0, c1, c2] := by
  match cs, h with
  | [c0, c1, c2], _ => exact ⟨c0, c1, c2, rfl⟩
theorem trod_struct3 {H : Type} {enc : TypeId × Value → H} {P : Program} {w : World} {base : Nat} {spare : Nat → Bool} {held : Bool} {t : TypeId} {f0 f1 f2 : Field} {fuel : Nat} {cs : List Value} {x : DataW H × List MemPlace} (ht : P.underlying t = some (.struct #[f0, f1, f2])) (h : DataW.trod enc P w base spare held fuel t cs = some x) :
    ∃ y0 y1 y2 n, x = (.agg [y0.1, y1.1, y2.1], y0.2 ++ (y1.2 ++ y2.2)) ∧ cs.length = P.cellsOf t ∧ DataW.trod enc P w base spare held n f0.type ((cs.drop f0.offset).take (P.cellsOf f0.type)) = some y0 ∧
      DataW.trod enc P w base spare held n f1.type ((cs.drop f1.offset).take (P.cellsOf f1.type)) = some y1 ∧ DataW.trod enc P w base spare held n f2.type ((cs.drop f2.offset).take (P.cellsOf f2.type)) = some y2 := by
  obtain ⟨xs, n, _, rfl, hl, hlen, hf⟩ := DataW.trod_struct ht h
  match xs, hlen with
  | [y0, y1, y2], _ => exact ⟨y0, y1, y2, n, by simp, hl, by simpa using hf 0 f0 rfl, by simpa using hf 1 f1 rfl, by simpa using hf 2 f2 rfl⟩
instance : Inhabited MvR := ⟨⟨0, 0, 0⟩⟩
instance : Inhabited FallR := ⟨⟨none, 0, 0, 0, none, 0, 0, 0, 0, 0, 0, 0, 0, 0⟩⟩
theorem cells34 : Tryz.prog.cellsOf 34 = 4 := by kernel_rfl
theorem cells75 : Tryz.prog.cellsOf 75 = 10 := by kernel_rfl
theorem cells51 : Tryz.prog.cellsOf 51 = 1 := by kernel_rfl
theorem cells35 : Tryz.prog.cellsOf 35 = 1 := by kernel_rfl
theorem cell_lt {W : World} {a : Addr} {v : Value} (h : W.cell? a = some v) : a.block < W.heap.size := by
  unfold World.cell? at h
  cases e : W.heap[a.block]? with
  | none => rw [e] at h; simp at h
  | some o => exact (Array.getElem?_eq_some_iff.1 e).1
theorem list4 {α : Type} {cs : List α} (h : cs.length = 4) : ∃ c0 c1 c2 c3, cs = [c0, c1, c2, c3] := by
  match cs, h with
  | [c0, c1, c2, c3], _ => exact ⟨c0, c1, c2, c3, rfl⟩
theorem list10 {α : Type} {cs : List α} (h : cs.length = 10) : ∃ c0 c1 c2 c3 c4 c5 c6 c7 c8 c9, cs = [c0, c1, c2, c3, c4, c5, c6, c7, c8, c9] := by
  match cs, h with
  | [c0, c1, c2, c3, c4, c5, c6, c7, c8, c9], _ => exact ⟨c0, c1, c2, c3, c4, c5, c6, c7, c8, c9, rfl⟩
theorem trod_struct4 {H : Type} {enc : TypeId × Value → H} {P : Program} {w : World} {base : Nat} {spare : Nat → Bool} {held : Bool} {t : TypeId} {f0 f1 f2 f3 : Field} {fuel : Nat} {cs : List Value} {x : DataW H × List MemPlace} (ht : P.underlying t = some (.struct #[f0, f1, f2, f3])) (h : DataW.trod enc P w base spare held fuel t cs = some x) :
    ∃ y0 y1 y2 y3 n, DataW.trod enc P w base spare held n f0.type ((cs.drop f0.offset).take (P.cellsOf f0.type)) = some y0 ∧
      DataW.trod enc P w base spare held n f1.type ((cs.drop f1.offset).take (P.cellsOf f1.type)) = some y1 ∧ DataW.trod enc P w base spare held n f2.type ((cs.drop f2.offset).take (P.cellsOf f2.type)) = some y2 ∧ DataW.trod enc P w base spare held n f3.type ((cs.drop f3.offset).take (P.cellsOf f3.type)) = some y3 := by
  obtain ⟨xs, n, _, rfl, hl, hlen, hf⟩ := DataW.trod_struct ht h
  match xs, hlen with
  | [y0, y1, y2, y3], _ => exact ⟨y0, y1, y2, y3, n, by simpa using hf 0 f0 rfl, by simpa using hf 1 f1 rfl, by simpa using hf 2 f2 rfl, by simpa using hf 3 f3 rfl⟩
theorem trod_struct7 {H : Type} {enc : TypeId × Value → H} {P : Program} {w : World} {base : Nat} {spare : Nat → Bool} {held : Bool} {t : TypeId} {f0 f1 f2 f3 f4 f5 f6 : Field} {fuel : Nat} {cs : List Value} {x : DataW H × List MemPlace} (ht : P.underlying t = some (.struct #[f0, f1, f2, f3, f4, f5, f6])) (h : DataW.trod enc P w base spare held fuel t cs = some x) :
    ∃ y0 y1 y2 y3 y4 y5 y6 n, DataW.trod enc P w base spare held n f0.type ((cs.drop f0.offset).take (P.cellsOf f0.type)) = some y0 ∧
      DataW.trod enc P w base spare held n f1.type ((cs.drop f1.offset).take (P.cellsOf f1.type)) = some y1 ∧ DataW.trod enc P w base spare held n f2.type ((cs.drop f2.offset).take (P.cellsOf f2.type)) = some y2 ∧ DataW.trod enc P w base spare held n f3.type ((cs.drop f3.offset).take (P.cellsOf f3.type)) = some y3 ∧ DataW.trod enc P w base spare held n f4.type ((cs.drop f4.offset).take (P.cellsOf f4.type)) = some y4 ∧ DataW.trod enc P w base spare held n f5.type ((cs.drop f5.offset).take (P.cellsOf f5.type)) = some y5 ∧ DataW.trod enc P w base spare held n f6.type ((cs.drop f6.offset).take (P.cellsOf f6.type)) = some y6 := by
  obtain ⟨xs, n, _, rfl, hl, hlen, hf⟩ := DataW.trod_struct ht h
  match xs, hlen with
  | [y0, y1, y2, y3, y4, y5, y6], _ => exact ⟨y0, y1, y2, y3, y4, y5, y6, n, by simpa using hf 0 f0 rfl, by simpa using hf 1 f1 rfl, by simpa using hf 2 f2 rfl, by simpa using hf 3 f3 rfl, by simpa using hf 4 f4 rfl, by simpa using hf 5 f5 rfl, by simpa using hf 6 f6 rfl⟩
set_option maxRecDepth 100000 in
/-- What is known of the moves of a fall. -/
theorem opened_moves {H : Type} {enc : TypeId × Value → H} {W : World} {fuel : Nat} {c : Value} {y : DataW H × List MemPlace} (hf : DataW.trod enc Tryz.prog W 0 (fun _ => true) true fuel 51 [c] = some y) :
    ∃ so ls cs O, c = .slice so ls cs ∧ MAt W so ls O ∧ ls ≤ 9223372036854775807 := by
  rcases open_slice Tryz.underlying51 hf with ⟨hcs, hx⟩ | ⟨a, len, cap, m, n, D, Pl, hcs, _, hl, hm, hmm, hx, hel⟩
  · simp at hcs
    subst hcs
    exact ⟨_, _, _, default, rfl, ⟨fun i hi => by omega, fun i hi => by omega⟩, by omega⟩
  · simp at hcs
    subst hcs
    simp only [if_true] at hmm
    subst hmm
    have key : ∀ i, i < len → ∃ o : MvR, a.block < W.heap.size ∧ (W.cell? (a.add (i * 3)) = some (.int .i64 o.k) ∧ W.cell? ⟨(a.add (i * 3)).block, (a.add (i * 3)).off + 1, none⟩ = some (.int .i64 o.a) ∧ W.cell? ⟨(a.add (i * 3)).block, (a.add (i * 3)).off + 2, none⟩ = some (.int .i64 o.b)) ∧ ((Lit.int .i64 o.k).wf = true ∧ (Lit.int .i64 o.a).wf = true ∧ (Lit.int .i64 o.b).wf = true) := by
      intro i hi
      obtain ⟨cs', hc, ht⟩ := hel i (by omega)
      rw [cells56] at hc
      obtain ⟨y0, y1, y2, n', hD, _, h0, h1, h2⟩ := trod_struct3 Tryz.underlying56 ht
      obtain ⟨_, hl3, hcell⟩ := World.cells?_some hc
      have hblk : (a.add (i * 3)).block = a.block := by unfold Addr.add; split <;> rfl
      have hb := World.cells?_block hc (by omega)
      rw [hblk] at hb
      obtain ⟨c0, c1, c2, rfl⟩ := list3 hl3
      have k0 := hcell 0 (by omega)
      have k1 := hcell 1 (by omega)
      have k2 := hcell 2 (by omega)
      simp only [cells3] at h0 h1 h2
      obtain ⟨q0, e0, _, w0⟩ := DataW.trod_int Tryz.underlying3 h0
      obtain ⟨q1, e1, _, w1⟩ := DataW.trod_int Tryz.underlying3 h1
      obtain ⟨q2, e2, _, w2⟩ := DataW.trod_int Tryz.underlying3 h2
      simp at e0 e1 e2
      subst e0 e1 e2
      exact ⟨⟨q0, q1, q2⟩, hb, ⟨k0, k1, k2⟩, w0, w1, w2⟩
    obtain ⟨O, hO⟩ := choose_lt key
    refine ⟨_, _, _, O, rfl, ⟨fun i hi => ⟨a, rfl, (hO i hi).1, (hO i hi).2.1⟩, fun i hi => (hO i hi).2.2⟩, ?_⟩
    have : maxLen = 9223372036854775807 := by decide
    omega
set_option maxRecDepth 100000 in
/-- What is known of a list of numbers in a fall. -/
theorem opened_keep {H : Type} {enc : TypeId × Value → H} {W : World} {fuel : Nat} {c : Value} {y : DataW H × List MemPlace} (hf : DataW.trod enc Tryz.prog W 0 (fun _ => true) true fuel 35 [c] = some y) :
    ∃ ak lk ck K, c = .slice ak lk ck ∧ KAt W ak lk K ∧ lk ≤ 9223372036854775807 := by
  rcases open_ints Tryz.underlying35 Tryz.underlying3 cells3 hf with ⟨hcs, hx⟩ | ⟨a, len, cap, zs, hcs, _, hl, hm, hz, hx, hcell, _⟩
  · simp at hcs
    subst hcs
    exact ⟨_, _, _, fun _ => 0, rfl, ⟨fun i hi => by omega⟩, by omega⟩
  · simp at hcs
    subst hcs
    simp only [if_true] at hz
    refine ⟨_, _, _, fun i => zs.getD i 0, rfl, ⟨fun i hi => ⟨a, rfl, ?_, hcell i (by omega)⟩⟩, ?_⟩
    · have hblk : (a.add i).block = a.block := by unfold Addr.add; split <;> rfl
      rw [← hblk]
      exact cell_lt (hcell i (by omega))
    · have : maxLen = 9223372036854775807 := by decide
      omega
set_option maxRecDepth 100000 in
set_option maxHeartbeats 1000000 in
/-- What is known of the falls. -/
theorem opened_falls {H : Type} {enc : TypeId × Value → H} {W : World} {base : Nat} {v : Value} {d : DataW H} {p : List MemPlace} (hv : Value.okWide Tryz.prog W .any base 72 v) (h : DataW.Trod enc Tryz.prog W 0 (fun _ => true) true 72 v d p) :
    ∃ so ls cs L, v = .slice so ls cs ∧ FAt W so ls L ∧ ls ≤ 9223372036854775807 := by
  obtain ⟨fuel, hf⟩ := h
  obtain ⟨a0, len, cap, rfl⟩ := okWide_slice Tryz.underlying72 hv
  rcases open_slice Tryz.underlying72 hf with ⟨hcs, hx⟩ | ⟨a, len', cap', m, n, D, Pl, hcs, _, hl, hm, hmm, hx, hel⟩
  · simp [Value.cells] at hcs
    obtain ⟨rfl, rfl, rfl⟩ := hcs
    exact ⟨_, _, _, default, rfl, ⟨fun i hi => by omega, fun i hi => by omega, fun i hi => by omega, fun i hi => by omega⟩, by omega⟩
  · simp [Value.cells] at hcs
    obtain ⟨rfl, rfl, rfl⟩ := hcs
    simp only [if_true] at hmm
    subst hmm
    have key : ∀ i, i < len → ∃ o : FallR, (a.block < W.heap.size ∧ W.cell? (a.add (i * 10)) = some (.slice o.ma o.ml o.mc) ∧ ∀ j, 0 < j → j < 10 → W.cell? ⟨(a.add (i * 10)).block, (a.add (i * 10)).off + j, none⟩ = (fallC o)[j]?) ∧ ((Lit.int .i64 o.nn).wf = true ∧ (Lit.int .i64 o.early).wf = true ∧ (Lit.int .i64 o.kind).wf = true) ∧ ((∃ O, MAt W o.ma o.ml O) ∧ o.ml ≤ 9223372036854775807) ∧ ((∃ K, KAt W o.ka o.kl K) ∧ o.kl ≤ 9223372036854775807) := by
      intro i hi
      obtain ⟨cs', hc, ht⟩ := hel i (by omega)
      rw [cells75] at hc
      obtain ⟨y0, y1, y2, y3, y4, y5, y6, n', h0, h1, h2, h3, h4, h5, h6⟩ := trod_struct7 Tryz.underlying75 ht
      obtain ⟨_, hl10, hcell⟩ := World.cells?_some hc
      have hblk : (a.add (i * 10)).block = a.block := by unfold Addr.add; split <;> rfl
      have hb := World.cells?_block hc (by omega)
      rw [hblk] at hb
      obtain ⟨c0, c1, c2, c3, c4, c5, c6, c7, c8, c9, rfl⟩ := list10 hl10
      have k0 := hcell 0 (by omega)
      have k1 := hcell 1 (by omega)
      have k2 := hcell 2 (by omega)
      have k3 := hcell 3 (by omega)
      have k4 := hcell 4 (by omega)
      have k5 := hcell 5 (by omega)
      have k6 := hcell 6 (by omega)
      have k7 := hcell 7 (by omega)
      have k8 := hcell 8 (by omega)
      have k9 := hcell 9 (by omega)
      simp only [cells3, cells51, cells35, cells34] at h0 h1 h2 h3 h4 h5 h6
      obtain ⟨z0, z1, z2, z3, n2, g0, g1, g2, g3⟩ := trod_struct4 Tryz.underlying34 h6
      simp only [cells3] at g0 g1 g2 g3
      obtain ⟨ma, ml, mc, O, e0, hM, hml⟩ := opened_moves h0
      obtain ⟨ka, kl, kc, K, e2, hK, hkl⟩ := opened_keep h2
      obtain ⟨q1, e1, _, w1⟩ := DataW.trod_int Tryz.underlying3 h1
      obtain ⟨q3, e3, _, w3⟩ := DataW.trod_int Tryz.underlying3 h3
      obtain ⟨q4, e4, _, w4⟩ := DataW.trod_int Tryz.underlying3 h4
      obtain ⟨q5, e5, _, w5⟩ := DataW.trod_int Tryz.underlying3 h5
      obtain ⟨q6, e6, _, _⟩ := DataW.trod_int Tryz.underlying3 g0
      obtain ⟨q7, e7, _, _⟩ := DataW.trod_int Tryz.underlying3 g1
      obtain ⟨q8, e8, _, _⟩ := DataW.trod_int Tryz.underlying3 g2
      obtain ⟨q9, e9, _, _⟩ := DataW.trod_int Tryz.underlying3 g3
      simp at e1 e3 e4 e5 e6 e7 e8 e9
      subst e0 e1 e2 e3 e4 e5 e6 e7 e8 e9
      refine ⟨⟨ma, ml, mc, q1, ka, kl, kc, q3, q4, q5, q6, q7, q8, q9⟩, ⟨hb, k0, fun j j1 j2 => ?_⟩, ⟨w1, w3, w4⟩, ⟨⟨O, hM⟩, hml⟩, ⟨K, hK⟩, hkl⟩
      obtain rfl | rfl | rfl | rfl | rfl | rfl | rfl | rfl | rfl : j = 1 ∨ j = 2 ∨ j = 3 ∨ j = 4 ∨ j = 5 ∨ j = 6 ∨ j = 7 ∨ j = 8 ∨ j = 9 := by omega
      · exact k1
      · exact k2
      · exact k3
      · exact k4
      · exact k5
      · exact k6
      · exact k7
      · exact k8
      · exact k9
    obtain ⟨L, hL⟩ := choose_lt key
    refine ⟨_, _, _, L, rfl, ⟨fun i hi => ⟨a, rfl, (hL i hi).1⟩, fun i hi => (hL i hi).2.1, fun i hi => (hL i hi).2.2.1, fun i hi => (hL i hi).2.2.2⟩, ?_⟩
    have : maxLen = 9223372036854775807 := by decide
    omega
set_option maxRecDepth 100000 in
theorem lifted (os : Os) (started : os.Started) (H : Type) (enc : TypeId × Value → H) :
    ReturnsInHanded {} Tryz.checked os 6 .any (Rows.tornSpec.pre6 enc Tryz.prog Tryz.f6 Rows.tornRow.domain false) (Rows.tornSpec.post enc Tryz.prog Tryz.f6 false true false false) := by
  refine returnsInHanded_of_change (C := Tryz.checked) own started (by kernel_rfl) Tryz.func6
    (ChangeSpec.witness6 (enc := enc) (C := Tryz.checked) false ⟨#[], #[.int .i64 0, .slice none 0 0], []⟩ 8 (by kernel_rfl) (by kernel_rfl) (by kernel_rfl) (by kernel_rfl)) ?_
  intro W base args ds gs before hval0 hW hcnd _
  have hval : ∀ (j : Nat) t v, Tryz.f6.params[j]? = some t → args[j]? = some v → Value.okWide Tryz.prog W .any base t v := hval0
  have hW' := hW
  obtain ⟨p, q, hA0, hV, rfl, hfz, hnd⟩ := hW
  have hA : DataW.TrodAll enc Tryz.prog W 0 (fun _ => true) true Tryz.f6.params.toList args.toList ds p := hA0
  rw [Tryz.params6] at hA hval
  obtain ⟨v0, vs0, d0, ds0, p0, q0, hargs, rfl, rfl, h0, r0⟩ := trodAll_cons hA
  obtain ⟨v1, vs1, d1, ds1, p1, q1, rfl, rfl, rfl, h1, r1⟩ := trodAll_cons r0
  obtain ⟨rfl, rfl, rfl⟩ := trodAll_nil r1
  obtain rfl : args = #[v0, v1] := by cases args; simp_all
  obtain ⟨rfl, rfl⟩ := trodVars_none hV
  obtain ⟨a0, rfl, rfl, rfl, w0⟩ := open_int Tryz.underlying3 (hval 0 3 v0 rfl rfl) h0
  have hlt : ∀ x ∈ p1, x.block < W.heap.size := fun x hx => hW'.lt x (by simp [hx])
  obtain ⟨so, ls, cs, L, rfl, hO, hls⟩ := opened_falls (hval 1 72 v1 rfl rfl) h1
  clear hA0 hval0
  refine (torn_any W a0 w0 so ls cs L hO hls).mono fun e W' ⟨he, bel⟩ => ?_
  subst he
  have a1 := Below.trod laid (by kernel_rfl) (of_decide_eq_true (by kernel_rfl)) h1 bel hlt
  exact ⟨_, rfl, _, _, _, [], _, [], hW', trodAll_mk1 (shut_bool Tryz.underlying4 _), (trodAll_cons_mk (shut_int Tryz.underlying3 w0) (trodAll_cons_mk a1 trodAll_mk0)), rfl, bel.frame _, fun h => by cases h⟩

theorem over : Rows.tornRow.holds Tryz.pinned (OpenSpec.ofChange Rows.tornSpec) :=
  OpenClaim.holds_of_wide 6 Tryz.f6 rfl rfl rfl rfl rfl rfl rfl ⟨rfl, rfl, rfl, rfl, rfl⟩ rfl rfl rfl rfl rfl (by kernel_rfl) Tryz.func6 (by kernel_rfl)
    (of_decide_eq_true (by kernel_rfl)) (by unfold Func.isWrapper; first | (rw [if_pos (by decide +kernel)]; kernel_rfl) | (rw [if_neg (by decide +kernel)]; exact ⟨rfl, rfl⟩))
    (fun os started H enc _ => lifted os started H enc)

end Go.Proofs.YtdgbgmffpcooeaaGreat.torn
namespace Go.Proofs.YtdgbgmffpcooeaaGreat
/-- The given statement. -/
theorem torn_holds : Rows.TornSaid := torn.over
end Go.Proofs.YtdgbgmffpcooeaaGreat
