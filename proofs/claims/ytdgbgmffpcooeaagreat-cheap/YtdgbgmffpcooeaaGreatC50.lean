/- Nm6 -/
import Derived.Test.YtdgbgmffpcooeaaGreatC49
section
/- Does an index have just what a table has? -/
namespace Go.Proofs.YtdgbgmffpcooeaaGreat
open Go.RowKit Go.Lib
theorem eq34 (a b c d a' b' c' d' : Int) (w : World) : (Op.equalIn 10000 34 (.agg #[.int .i64 a, .int .i64 b, .int .i64 c, .int .i64 d]) (.agg #[.int .i64 a', .int .i64 b', .int .i64 c', .int .i64 d'])).run Tryz.prog w = .ok (decide ((a, b, c, d) = (a', b', c', d'))) w := by
  have u3 := Tryz.underlying3
  have a3 := Tryz.isAgg3
  have z3 := Tryz.sizeOf3
  rw [show (10000 : Nat) = 9999 + 1 from rfl, Op.equalIn]
  simp only [Sem.run_bind, run_underlying Tryz.underlying34, Result.andThen_ok]
  go_simp
  by_cases h1 : a = a' <;> by_cases h2 : b = b' <;> by_cases h3 : c = c' <;> by_cases h4 : d = d' <;> simp [h1, h2, h3, h4]
theorem CalmW.new {d : Nat → Prop} {a b c : World} {B : Nat} (h : CalmW d a b) (ho : Off (fun k => k = B) b c) (hB : a.heap.size ≤ B) : CalmW d a c :=
  ⟨ho.os.trans h.os, ho.tape.trans h.tape, ho.output.trans h.output, Nat.le_trans h.size ho.size, fun k cs t fr e n => (ho.block k (Array.getElem?_eq_some_iff.1 (h.block k cs t fr e n)).1 (by have := (Array.getElem?_eq_some_iff.1 e).1; omega)).trans (h.block k cs t fr e n), fun k h1 h2 => (ho.block k (Nat.lt_of_lt_of_le h2 h.size) (by omega)).trans (h.low k h1 h2)⟩
end Go.Proofs.YtdgbgmffpcooeaaGreat
end
