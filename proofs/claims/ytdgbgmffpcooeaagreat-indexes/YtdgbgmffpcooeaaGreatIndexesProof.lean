/- For every list of steps of which the argument holds at most 1048576 values and letters, the call of Indexes returns true, and its argument reads afterwards as it read before. Its condition: that bound ('uptoSmall'). -/
import Derived.Test.YtdgbgmffpcooeaaGreatRows
import Derived.ProofKit
import Derived.ShutString
import Derived.ChangeOld
import Derived.Below
import Derived.Carry
import Derived.JoinedCond
import Derived.Deep.Slices
import Derived.Lib.SmallJoins
import Derived.Test.YtdgbgmffpcooeaaGreatU51
namespace Go.Proofs.YtdgbgmffpcooeaaGreat.indexes
open Go.ChangeShapes Go.WideShapes Go.ChangeAt Go.RowKit Go.Joins Go.Deep

theorem own : ownKnob Tryz.prog.godebug = none := by kernel_rfl
theorem cells46 : Tryz.prog.cellsOf 46 = 9 := by kernel_rfl
theorem cells34 : Tryz.prog.cellsOf 34 = 4 := by kernel_rfl
theorem cells35 : Tryz.prog.cellsOf 35 = 1 := by kernel_rfl
theorem cells9 : Tryz.prog.cellsOf 9 = 1 := by kernel_rfl
theorem cells3 : Tryz.prog.cellsOf 3 = 1 := by kernel_rfl
theorem laid : laidOutB Tryz.prog = true := by kernel_rfl

theorem one_le {H : Type} (d : DataW H) : 1 ≤ Rows.uptoBulk d := by
  cases d with
  | lit l => cases l <;> simp [Rows.uptoBulk]
  | _ => simp [Rows.uptoBulk]
theorem length_le {H : Type} (l : List (DataW H)) : l.length ≤ Rows.uptoBulkAll l := by
  induction l with
  | nil => simp [Rows.uptoBulkAll]
  | cons x r ih => have := one_le x; simp only [Rows.uptoBulkAll, List.length_cons]; omega
theorem mem_le {H : Type} {l : List (DataW H)} {d : DataW H} (h : d ∈ l) : Rows.uptoBulk d ≤ Rows.uptoBulkAll l := by
  induction l with
  | nil => cases h
  | cons x r ih =>
    simp only [Rows.uptoBulkAll]
    rcases List.mem_cons.1 h with rfl | h
    · omega
    · have := ih h; omega
theorem trod_struct6 {H : Type} {enc : TypeId × Value → H} {P : Program} {w : World} {base : Nat} {spare : Nat → Bool} {held : Bool} {t : TypeId} {f0 f1 f2 f3 f4 f5 : Field} {fuel : Nat} {cs : List Value} {x : DataW H × List MemPlace} (ht : P.underlying t = some (.struct #[f0, f1, f2, f3, f4, f5])) (h : DataW.trod enc P w base spare held fuel t cs = some x) :
    ∃ y0 y1 y2 y3 y4 y5 n, x = (.agg [y0.1, y1.1, y2.1, y3.1, y4.1, y5.1], y0.2 ++ (y1.2 ++ (y2.2 ++ (y3.2 ++ (y4.2 ++ y5.2))))) ∧ cs.length = P.cellsOf t ∧ DataW.trod enc P w base spare held n f0.type ((cs.drop f0.offset).take (P.cellsOf f0.type)) = some y0 ∧
      DataW.trod enc P w base spare held n f1.type ((cs.drop f1.offset).take (P.cellsOf f1.type)) = some y1 ∧ DataW.trod enc P w base spare held n f2.type ((cs.drop f2.offset).take (P.cellsOf f2.type)) = some y2 ∧
      DataW.trod enc P w base spare held n f3.type ((cs.drop f3.offset).take (P.cellsOf f3.type)) = some y3 ∧ DataW.trod enc P w base spare held n f4.type ((cs.drop f4.offset).take (P.cellsOf f4.type)) = some y4 ∧ DataW.trod enc P w base spare held n f5.type ((cs.drop f5.offset).take (P.cellsOf f5.type)) = some y5 := by
  obtain ⟨xs, n, _, rfl, hl, hlen, hf⟩ := DataW.trod_struct ht h
  match xs, hlen with
  | [y0, y1, y2, y3, y4, y5], _ => exact ⟨y0, y1, y2, y3, y4, y5, n, by simp, hl, by simpa using hf 0 f0 rfl, by simpa using hf 1 f1 rfl, by simpa using hf 2 f2 rfl, by simpa using hf 3 f3 rfl, by simpa using hf 4 f4 rfl, by simpa using hf 5 f5 rfl⟩
theorem list9 {α : Type} {cs : List α} (h : cs.length = 9) : ∃ c0 c1 c2 c3 c4 c5 c6 c7 c8, cs = [c0, c1, c2, c3, c4, c5, c6, c7, c8] := by
  match cs, h with
  | [c0, c1, c2, c3, c4, c5, c6, c7, c8], _ => exact ⟨c0, c1, c2, c3, c4, c5, c6, c7, c8, rfl⟩

/-- What is known of a list of numbers within a step. -/
theorem opened_keep {H : Type} {enc : TypeId × Value → H} {W : World} {fuel : Nat} {c : Value} {y : DataW H × List MemPlace} (hf : DataW.trod enc Tryz.prog W 0 (fun _ => true) true fuel 35 [c] = some y) :
    ∃ ak lk ck, c = .slice ak lk ck := by
  rcases open_ints Tryz.underlying35 Tryz.underlying3 cells3 hf with ⟨hcs, hx⟩ | ⟨a, len', cap', zs, hcs, _, hl, hm, hz, hx, hcell, _⟩
  · simp only [List.cons.injEq, and_true] at hcs
    exact ⟨_, _, _, hcs⟩
  · simp only [List.cons.injEq, and_true] at hcs
    exact ⟨_, _, _, hcs⟩

instance : Inhabited OpR := ⟨⟨0, 0, 0, ByteArray.empty, none, 0, 0, 0, 0, 0, 0⟩⟩

set_option maxRecDepth 100000 in
/-- What is known of the steps. -/
theorem opened_ops {H : Type} {enc : TypeId × Value → H} {W : World} {base : Nat} {v : Value} {d : DataW H} {p : List MemPlace} (hv : Value.okWide Tryz.prog W .any base 22 v) (h : DataW.Trod enc Tryz.prog W 0 (fun _ => true) true 22 v d p) (hlt : ∀ x ∈ p, x.block < W.heap.size) (hB : Rows.uptoBulk d ≤ 1048576) :
    ∃ so ls cs O, v = .slice so ls cs ∧ OAt W so ls O ∧ ls ≤ 1048576 := by
  obtain ⟨fuel, hf⟩ := h
  obtain ⟨a0, len, cap, rfl⟩ := okWide_slice Tryz.underlying22 hv
  rcases open_slice Tryz.underlying22 hf with ⟨hcs, hx⟩ | ⟨a, len', cap', m, n, D, Pl, hcs, _, hl, hm, hmm, hx, hel⟩
  · simp [Value.cells] at hcs
    obtain ⟨rfl, rfl, rfl⟩ := hcs
    exact ⟨_, _, _, default, rfl, ⟨fun i hi => by omega, fun i hi => by omega, fun i hi => by omega⟩, by omega⟩
  · simp [Value.cells] at hcs
    obtain ⟨rfl, rfl, rfl⟩ := hcs
    simp only [Prod.mk.injEq] at hx
    obtain ⟨rfl, rfl⟩ := hx
    simp only [if_true] at hmm
    subst hmm
    have hlen := length_le ((List.range len).map D)
    simp only [List.length_map, List.length_range] at hlen
    have key : ∀ i, i < len → ∃ o : OpR, a.block < W.heap.size ∧ (W.cell? (a.add (i * 9)) = some (.int .i64 o.kd) ∧ W.cell? ⟨(a.add (i * 9)).block, (a.add (i * 9)).off + 1, none⟩ = some (.int .i64 o.wd) ∧ W.cell? ⟨(a.add (i * 9)).block, (a.add (i * 9)).off + 2, none⟩ = some (.int .i64 o.ad) ∧ W.cell? ⟨(a.add (i * 9)).block, (a.add (i * 9)).off + 3, none⟩ = some (.string o.sd) ∧ W.cell? ⟨(a.add (i * 9)).block, (a.add (i * 9)).off + 4, none⟩ = some (.slice o.ak o.lk o.ck) ∧ W.cell? ⟨(a.add (i * 9)).block, (a.add (i * 9)).off + 5, none⟩ = some (.int .i64 o.r1) ∧ W.cell? ⟨(a.add (i * 9)).block, (a.add (i * 9)).off + 6, none⟩ = some (.int .i64 o.r2) ∧ W.cell? ⟨(a.add (i * 9)).block, (a.add (i * 9)).off + 7, none⟩ = some (.int .i64 o.r3) ∧ W.cell? ⟨(a.add (i * 9)).block, (a.add (i * 9)).off + 8, none⟩ = some (.int .i64 o.r4)) ∧ (-9223372036854775808 ≤ o.wd ∧ o.wd ≤ 9223372036854775807) ∧ (-9223372036854775808 ≤ o.ad ∧ o.ad ≤ 9223372036854775807) := by
      intro i hi
      obtain ⟨cs', hc, ht⟩ := hel i (by omega)
      rw [cells46] at hc
      obtain ⟨y0, y1, y2, y3, y4, y5, n', hD, _, h0, h1, h2, h3, h4, h5⟩ := trod_struct6 Tryz.underlying46 ht
      obtain ⟨_, hl9, hcell⟩ := World.cells?_some hc
      have hblk : (a.add (i * 9)).block = a.block := by unfold Addr.add; split <;> rfl
      have hb := World.cells?_block hc (by omega)
      rw [hblk] at hb
      obtain ⟨c0, c1, c2, c3, c4, c5, c6, c7, c8, rfl⟩ := list9 hl9
      have k0 := hcell 0 (by omega)
      have k1 := hcell 1 (by omega)
      have k2 := hcell 2 (by omega)
      have k3 := hcell 3 (by omega)
      have k4 := hcell 4 (by omega)
      have k5 := hcell 5 (by omega)
      have k6 := hcell 6 (by omega)
      have k7 := hcell 7 (by omega)
      have k8 := hcell 8 (by omega)
      simp only [cells3, cells9, cells35, cells34] at h0 h1 h2 h3 h4 h5
      obtain ⟨q0, e0, _, _⟩ := DataW.trod_int Tryz.underlying3 h0
      obtain ⟨q1, e1, _, w1⟩ := DataW.trod_int Tryz.underlying3 h1
      obtain ⟨q2, e2, _, w2⟩ := DataW.trod_int Tryz.underlying3 h2
      obtain ⟨q3, e3, x3, _⟩ := DataW.trod_string Tryz.underlying9 h3
      obtain ⟨z0, z1, z2, z3, n2, _, _, g0, g1, g2, g3⟩ := trod_struct4 Tryz.underlying34 h5
      simp only [cells3] at g0 g1 g2 g3
      obtain ⟨s0, d0, _, _⟩ := DataW.trod_int Tryz.underlying3 g0
      obtain ⟨s1, d1, _, _⟩ := DataW.trod_int Tryz.underlying3 g1
      obtain ⟨s2, d2, _, _⟩ := DataW.trod_int Tryz.underlying3 g2
      obtain ⟨s3, d3, _, _⟩ := DataW.trod_int Tryz.underlying3 g3
      obtain ⟨ak, lk, ck, e4⟩ := opened_keep (c := c4) (by simpa using h4)
      simp at e0 e1 e2 e3 d0 d1 d2 d3
      subst e0 e1 e2 e3 e4 d0 d1 d2 d3
      exact ⟨⟨q0, q1, q2, q3, ak, lk, ck, s0, s1, s2, s3⟩, hb, ⟨k0, k1, k2, k3, k4, k5, k6, k7, k8⟩, in64_of_wf w1, in64_of_wf w2⟩
    obtain ⟨O, hO⟩ := choose_lt key
    refine ⟨_, _, _, O, rfl, ⟨fun i hi => ⟨a, rfl, (hO i hi).1, (hO i hi).2.1⟩, fun i hi => (hO i hi).2.2.1, fun i hi => (hO i hi).2.2.2⟩, ?_⟩
    simp only [Rows.uptoBulk] at hB
    omega

set_option maxRecDepth 100000 in
theorem contract (H : Type) (enc : TypeId × Value → H) (W : World) (base : Nat) (args : Array Value) (ds gs : List (DataW H)) (before : List MemPlace)
    (hval : ∀ (j : Nat) t v, Tryz.f3.params[j]? = some t → args[j]? = some v → Value.okWide Tryz.prog W .any base t v)
    (hW : DataW.Whole enc Tryz.prog Tryz.f3.params.toList Rows.indexesSpec.vars false W args.toList ds gs before) (hk : Rows.uptoSmall H (ds ++ gs) = true) :
    Calls Tryz.prog 3 args W fun e W' => ∃ v, e = .returned v ∧ Rows.indexesSpec.post enc Tryz.prog Tryz.f3 false true false false W args v W' := by
  have hW' := hW
  obtain ⟨p, q, hA0, hV, rfl, hfz, hnd⟩ := hW
  have hA : DataW.TrodAll enc Tryz.prog W 0 (fun _ => true) true Tryz.f3.params.toList args.toList ds p := hA0
  rw [Tryz.params3] at hA hval
  obtain ⟨v0, vs0, d0, ds0, p0, q0, hargs, rfl, rfl, h0, r0⟩ := trodAll_cons hA
  obtain ⟨rfl, rfl, rfl⟩ := trodAll_nil r0
  obtain rfl : args = #[v0] := by cases args; simp_all
  obtain ⟨rfl, rfl⟩ := trodVars_none hV
  clear hA0
  simp only [List.append_nil] at hW' hk
  have hlt : ∀ x ∈ p0, x.block < W.heap.size := fun x hx => by simpa using hW'.lt x hx
  have hbulk := of_decide_eq_true hk
  simp only [Rows.uptoBulkAll] at hbulk
  obtain ⟨so, ls, cs, O, rfl, hO, hls⟩ := opened_ops (hval 0 22 v0 rfl rfl) h0 hlt (by omega)
  refine (indexes_any W so ls cs O hO hls).mono fun e W' ⟨he, bel⟩ => ?_
  subst he
  have a0 := Below.trod laid (by kernel_rfl) (of_decide_eq_true (by kernel_rfl)) h0 bel hlt
  refine ⟨_, rfl, _, _, _, [], _, [], hW', trodAll_mk1 (shut_bool Tryz.underlying4 _), trodAll_cons_mk a0 trodAll_mk0, rfl, bel.frame _, fun h => by cases h⟩

set_option maxRecDepth 100000 in
theorem lifted (os : Os) (started : os.Started) (H : Type) (enc : TypeId × Value → H) (F : Stop.Interp) :
    ReturnsInHanded {} Tryz.checked os 3 .any ((Rows.OpenSpec.upto Rows.indexesSpec).pre6 enc Tryz.prog Tryz.f3 Rows.indexesUptoRow.domain false) (((Rows.OpenSpec.upto Rows.indexesSpec).at F).post enc Tryz.prog Tryz.f3 false true false false) := by
  refine returnsInHanded_of_cond (C := Tryz.checked) (s := Rows.OpenSpec.upto Rows.indexesSpec) (k := Rows.uptoSmall) rfl own started (by kernel_rfl) Tryz.func3
    (OpenSpec.witness (enc := enc) (C := Tryz.checked) (s := Rows.OpenSpec.upto Rows.indexesSpec) (k := Rows.uptoSmall) rfl false ⟨#[], #[.slice none 0 0], []⟩ 8 (by kernel_rfl) (by kernel_rfl) (by kernel_rfl)
      (x := ([.nil], [], [])) (by kernel_rfl) rfl (by kernel_rfl)) ?_
  intro W base args ds gs before hval hW _ hk _
  exact contract H enc W base args ds gs before hval hW hk

theorem over : Rows.IndexesUptoSaid :=
  OpenClaim.holds_of_cond 3 Tryz.f3 rfl rfl rfl rfl rfl rfl rfl ⟨rfl, rfl, rfl, rfl, rfl⟩ rfl rfl rfl rfl rfl (by kernel_rfl) Tryz.func3 (by kernel_rfl)
    (of_decide_eq_true (by kernel_rfl)) (by unfold Func.isWrapper; first | (rw [if_pos (by decide +kernel)]; kernel_rfl) | (rw [if_neg (by decide +kernel)]; exact ⟨rfl, rfl⟩))
    (fun os started H enc _ F => lifted os started H enc F)
end Go.Proofs.YtdgbgmffpcooeaaGreat.indexes
namespace Go.Proofs.YtdgbgmffpcooeaaGreat
/-- The given statement. -/
theorem indexes_holds : Rows.IndexesUptoSaid := indexes.over
end Go.Proofs.YtdgbgmffpcooeaaGreat
