/- Nv0 Nv1 Nv2 -/
import Derived.Test.YtdgbgmffpcooeaaGreatV47
namespace Go.Proofs.YtdgbgmffpcooeaaGreat
open Go.RowKit Go.Lib
section
def pickI (c m : Int) : Int := (if c < 0 then -(c + 1) else c) % m
theorem pickI_lt (c m : Int) (h : 0 < m) : 0 ≤ pickI c m ∧ pickI c m < m := ⟨Int.emod_nonneg _ (by omega),Int.emod_lt_of_pos _ h⟩
theorem pickI_neg (c m : Int) (h : (Lit.int .i64 c).wf = true) (hc : c < 0) : (wrap64 (-wrap64 (c + 1))).tmod m = pickI c m := by
 have hb := bounds_i64 h
 have e1 : wrap64 (c + 1) = c + 1 := by unfold wrap64; omega
 have e2 : wrap64 (-(c + 1)) = -(c + 1) := by unfold wrap64; omega
 rw [e1,e2,Int.tmod_eq_emod_of_nonneg (by omega),pickI,if_pos hc]
set_option maxHeartbeats 400000 in
theorem pick_eq (c m : Int) (w : World) (hm : 0 < m) (h : (Lit.int .i64 c).wf = true) :
  Calls Tryz.prog 24 #[.int .i64 c, .int .i64 m] w fun e w' => e = .returned (.int .i64 (pickI c m)) ∧ w' = w := by
 by_cases hc : c < 0
 ·have H : Hid ((wrap64 (-wrap64 (c + 1))).tmod m = pickI c m) := pickI_neg c m h hc
  go_enter Tryz.func24,Tryz.ntmps24
  go_wp2
  go_ret
  exact ⟨ret_int H.out,rfl⟩
 ·have H : Hid (c % m = pickI c m) := by show c % m = _; unfold pickI; rw [if_neg hc]
  go_enter Tryz.func24,Tryz.ntmps24
  go_wp2
  go_ret
  exact ⟨ret_int H.out,rfl⟩
end
end Go.Proofs.YtdgbgmffpcooeaaGreat
namespace Go.Proofs.YtdgbgmffpcooeaaGreat
section
open Go.RowKit Go.Lib
end
section
open Go.RowKit Go.Lib
end
end Go.Proofs.YtdgbgmffpcooeaaGreat
