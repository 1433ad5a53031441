/- For every two rectangles and every two numbers the call of Celled returns true, and its arguments read afterwards as they read before. No condition. -/
import Derived.Test.YtdgbgmffpcooeaaRows
import Derived.WalkKit
import Derived.ProofKit
import Derived.OpenShut
import Derived.ShutString
import Derived.ChangeOld
import Derived.Below
import Derived.Lib.SmallJoins
import Derived.Test.YtdgbgmffpcooeaaCelled2
namespace Go.Proofs.Ytdgbgmffpcooeaa.celled
open Go.ChangeShapes Go.WideShapes Go.ChangeAt Go.RowKit Go.Joins

theorem own : ownKnob Try.prog.godebug = none := by kernel_rfl
theorem cells30 : Try.prog.cellsOf 30 = 4 := by kernel_rfl

theorem walk (a b c d a2 b2 c2 d2 x y : Int) (wx : (Lit.int .i64 x).wf = true) (wy : (Lit.int .i64 y).wf = true) (w : World) :
    Calls Try.prog 4 #[.agg #[.int .i64 a, .int .i64 b, .int .i64 c, .int .i64 d], .agg #[.int .i64 a2, .int .i64 b2, .int .i64 c2, .int .i64 d2], .int .i64 x, .int .i64 y] w fun e w' => e = .returned (.bool true) ∧ Below w.heap.size w w' := by
  cases h : rightB a b c d with
  | false =>
    cases h2 : rightB a2 b2 c2 d2 with
    | false => exact celled_nn a b c d h a2 b2 c2 d2 h2 x y w
    | true =>
      obtain ⟨s, hs, rfl, rfl, rfl, rfl⟩ := box_of_right h2
      exact celled_ny a b c d h s hs x y w
  | true =>
    obtain ⟨r, hr, rfl, rfl, rfl, rfl⟩ := box_of_right h
    cases h2 : rightB a2 b2 c2 d2 with
    | false => exact celled_yn r hr a2 b2 c2 d2 h2 x y w
    | true =>
      obtain ⟨s, hs, rfl, rfl, rfl, rfl⟩ := box_of_right h2
      exact celled_yy r hr s hs x y wx wy w

set_option maxRecDepth 100000 in
theorem lifted (os : Os) (started : os.Started) (H : Type) (enc : TypeId × Value → H) :
    ReturnsInHanded {} Try.checked os 4 .any (Rows.celledSpec.pre6 enc Try.prog Try.f4 Rows.celledRow.domain false) (Rows.celledSpec.post enc Try.prog Try.f4 false true false false) := by
  refine returnsInHanded_of_change (C := Try.checked) own started (by kernel_rfl) Try.func4
    (ChangeSpec.witness6 (enc := enc) (C := Try.checked) false ⟨#[], #[.agg #[.int .i64 0, .int .i64 0, .int .i64 0, .int .i64 0], .agg #[.int .i64 0, .int .i64 0, .int .i64 0, .int .i64 0], .int .i64 0, .int .i64 0], []⟩ 8 (by kernel_rfl) (by kernel_rfl) (by kernel_rfl) (by kernel_rfl)) ?_
  intro W base args ds gs before hval0 hW hcnd _
  have hval : ∀ (j : Nat) t v, Try.f4.params[j]? = some t → args[j]? = some v → Value.okWide Try.prog W .any base t v := hval0
  have hW' := hW
  obtain ⟨p, q, hA0, hV, rfl, hfz, hnd⟩ := hW
  have hA : DataW.TrodAll enc Try.prog W 0 (fun _ => true) true Try.f4.params.toList args.toList ds p := hA0
  rw [Try.params4] at hA hval
  obtain ⟨v0, vs0, d0, ds0, p0, q0, hargs, rfl, rfl, h0, r0⟩ := trodAll_cons hA
  obtain ⟨v1, vs1, d1, ds1, p1, q1, rfl, rfl, rfl, h1, r1⟩ := trodAll_cons r0
  obtain ⟨v2, vs2, d2, ds2, p2, q2, rfl, rfl, rfl, h2, r2⟩ := trodAll_cons r1
  obtain ⟨v3, vs3, d3, ds3, p3, q3, rfl, rfl, rfl, h3, r3⟩ := trodAll_cons r2
  obtain ⟨rfl, rfl, rfl⟩ := trodAll_nil r3
  obtain rfl : args = #[v0, v1, v2, v3] := by cases args; simp_all
  obtain ⟨rfl, rfl⟩ := trodVars_none hV
  obtain ⟨c0, c1, c2, c3, y0, y1, y2, y3, m, rfl, rfl, rfl, hy0, hy1, hy2, hy3⟩ := open_agg4 Try.underlying30 (by kernel_rfl) cells30 (hval 0 30 v0 rfl rfl) h0
  obtain ⟨a, e0, rfl, wa⟩ := DataW.trod_int Try.underlying3 hy0
  obtain ⟨b, e1, rfl, wb⟩ := DataW.trod_int Try.underlying3 hy1
  obtain ⟨c, e2, rfl, wc⟩ := DataW.trod_int Try.underlying3 hy2
  obtain ⟨d, e3, rfl, wd⟩ := DataW.trod_int Try.underlying3 hy3
  simp at e0 e1 e2 e3
  subst e0 e1 e2 e3
  obtain ⟨c0, c1, c2, c3, y0, y1, y2, y3, m', rfl, rfl, rfl, hz0, hz1, hz2, hz3⟩ := open_agg4 Try.underlying30 (by kernel_rfl) cells30 (hval 1 30 v1 rfl rfl) h1
  obtain ⟨a2, e0, rfl, wa2⟩ := DataW.trod_int Try.underlying3 hz0
  obtain ⟨b2, e1, rfl, wb2⟩ := DataW.trod_int Try.underlying3 hz1
  obtain ⟨cc2, e2, rfl, wc2⟩ := DataW.trod_int Try.underlying3 hz2
  obtain ⟨dd2, e3, rfl, wd2⟩ := DataW.trod_int Try.underlying3 hz3
  simp at e0 e1 e2 e3
  subst e0 e1 e2 e3
  obtain ⟨x, rfl, rfl, rfl, wx⟩ := open_int Try.underlying3 (hval 2 3 v2 rfl rfl) h2
  obtain ⟨y, rfl, rfl, rfl, wy⟩ := open_int Try.underlying3 (hval 3 3 v3 rfl rfl) h3
  clear hA0 hval0
  have rect : ∀ (W' : World) (sp : Nat → Bool) (a b c d : Int), (Lit.int .i64 a).wf = true → (Lit.int .i64 b).wf = true → (Lit.int .i64 c).wf = true → (Lit.int .i64 d).wf = true →
      DataW.Trod enc Try.prog W' 0 sp true 30 (.agg #[.int .i64 a, .int .i64 b, .int .i64 c, .int .i64 d]) (.agg [.lit (.int .i64 a), .lit (.int .i64 b), .lit (.int .i64 c), .lit (.int .i64 d)]) [] := fun W' sp a b c d ha hb hc hd =>
    shut_agg4 (y0 := (.lit (.int .i64 a), [])) (y1 := (.lit (.int .i64 b), [])) (y2 := (.lit (.int .i64 c), [])) (y3 := (.lit (.int .i64 d), [])) Try.underlying30 (by kernel_rfl) cells30 ⟨1, by simp [DataW.trod, Try.underlying3, ha]⟩ ⟨1, by simp [DataW.trod, Try.underlying3, hb]⟩ ⟨1, by simp [DataW.trod, Try.underlying3, hc]⟩ ⟨1, by simp [DataW.trod, Try.underlying3, hd]⟩
  refine (walk a b c d a2 b2 cc2 dd2 x y wx wy W).mono fun e W' ⟨he, bel⟩ => ?_
  subst he
  exact ⟨_, rfl, _, _, _, [], _, [], hW', trodAll_mk1 (shut_bool Try.underlying4 _), (trodAll_cons_mk (rect _ _ a b c d wa wb wc wd) (trodAll_cons_mk (rect _ _ a2 b2 cc2 dd2 wa2 wb2 wc2 wd2) (trodAll_cons_mk (shut_int Try.underlying3 wx) (trodAll_cons_mk (shut_int Try.underlying3 wy) trodAll_mk0)))), rfl, bel.frame _, fun h => by cases h⟩

theorem over : Rows.celledRow.holds Try.pinned (OpenSpec.ofChange Rows.celledSpec) :=
  OpenClaim.holds_of_wide 4 Try.f4 rfl rfl rfl rfl rfl rfl rfl ⟨rfl, rfl, rfl, rfl, rfl⟩ rfl rfl rfl rfl rfl (by kernel_rfl) Try.func4 (by kernel_rfl)
    (of_decide_eq_true (by kernel_rfl)) (by unfold Func.isWrapper; first | (rw [if_pos (by decide +kernel)]; kernel_rfl) | (rw [if_neg (by decide +kernel)]; exact ⟨rfl, rfl⟩))
    (fun os started H enc _ => lifted os started H enc)

end Go.Proofs.Ytdgbgmffpcooeaa.celled
namespace Go.Proofs.Ytdgbgmffpcooeaa
/-- The given statement. -/
theorem celled_holds : Rows.CelledSaid := celled.over
end Go.Proofs.Ytdgbgmffpcooeaa
