/- Sort SortC -/
import Derived.Shelf.SlSortCmp.SmallK
import Derived.Shelf.SlGeneric
import Derived.Ground.SlsfProg
import Derived.Test.YtdgbgmffpcooeaaGreatProg
import Derived.Test.YtdgbgmffpcooeaaGreatK05
section
/-
  The contracts of the library: slices.SortFunc at cells and at entries, laid at this program (a table of numbers, and that each body is the one of which the contract was proved).
-/
namespace Go.Proofs
open Go.Shelf
def Tryz.sortCell_ren : Go.Shelf.Ren := ⟨fun | 6 => 140 | 15 => 126 | 14 => 176 | 28 => 162 | 29 => 163 | 20 => 203 | 21 => 204 | 22 => 205 | 23 => 206 | 24 => 207 | 25 => 208 | 26 => 209 | 27 => 210 | 46 => 219 | 47 => 191 | 48 => 192 | 49 => 220 | 50 => 221 | 57 => 229 | n => n, fun | 22 => 40 | 24 => 99 | 25 => 221 | 3 => 3 | 39 => 204 | 0 => 0 | 53 => 243 | 55 => 245 | 4 => 4 | 46 => 237 | 45 => 236 | 50 => 125 | 5 => 5 | 9 => 9 | 66 => 266 | 70 => 270 | 76 => 295 | 77 => 200 | n => n, fun | n => n⟩
theorem Tryz.sortCell : Go.Proofs.SlLaysF0.n6 Tryz.prog Tryz.sortCell_ren := {
  mixed := by kernel_rfl
  f6 := ⟨Tryz.f140.name, by decide, Tryz.func140.trans (congrArg some (by kernel_rfl))⟩
  f14 := ⟨Tryz.f176.name, by decide, Tryz.func176.trans (congrArg some (by kernel_rfl))⟩
  f15 := Tryz.func126.trans (congrArg some (by kernel_rfl))
  f20 := ⟨Tryz.f203.name, by decide, Tryz.func203.trans (congrArg some (by kernel_rfl))⟩
  f21 := ⟨Tryz.f204.name, by decide, Tryz.func204.trans (congrArg some (by kernel_rfl))⟩
  f22 := ⟨Tryz.f205.name, by decide, Tryz.func205.trans (congrArg some (by kernel_rfl))⟩
  f23 := ⟨Tryz.f206.name, by decide, Tryz.func206.trans (congrArg some (by kernel_rfl))⟩
  f24 := ⟨Tryz.f207.name, by decide, Tryz.func207.trans (congrArg some (by kernel_rfl))⟩
  f25 := ⟨Tryz.f208.name, by decide, Tryz.func208.trans (congrArg some (by kernel_rfl))⟩
  f26 := ⟨Tryz.f209.name, by decide, Tryz.func209.trans (congrArg some (by kernel_rfl))⟩
  f27 := ⟨Tryz.f210.name, by decide, Tryz.func210.trans (congrArg some (by kernel_rfl))⟩
  f28 := Tryz.func162.trans (congrArg some (by kernel_rfl))
  f29 := Tryz.func163.trans (congrArg some (by kernel_rfl))
  f46 := ⟨Tryz.f219.name, by decide, Tryz.func219.trans (congrArg some (by kernel_rfl))⟩
  f47 := Tryz.func191.trans (congrArg some (by kernel_rfl))
  f48 := Tryz.func192.trans (congrArg some (by kernel_rfl))
  f49 := ⟨Tryz.f220.name, by decide, Tryz.func220.trans (congrArg some (by kernel_rfl))⟩
  f50 := ⟨Tryz.f221.name, by decide, Tryz.func221.trans (congrArg some (by kernel_rfl))⟩
  f57 := ⟨Tryz.f229.name, by decide, Tryz.func229.trans (congrArg some (by kernel_rfl))⟩
  t0 := Tryz.underlying0
  a0 := Tryz.isAgg0
  z0 := Tryz.sizeOf0
  v0 := Tryz.zeroValue0
  t3 := Tryz.underlying3
  a3 := Tryz.isAgg3
  z3 := Tryz.sizeOf3
  v3 := Tryz.zeroValue3
  t4 := Tryz.underlying4
  a4 := Tryz.isAgg4
  z4 := Tryz.sizeOf4
  v4 := Tryz.zeroValue4
  t5 := Tryz.underlying5
  a5 := Tryz.isAgg5
  z5 := Tryz.sizeOf5
  v5 := Tryz.zeroValue5
  t9 := Tryz.underlying9
  a9 := Tryz.isAgg9
  z9 := Tryz.sizeOf9
  v9 := Tryz.zeroValue9
  t22 := Tryz.underlying40
  a22 := Tryz.isAgg40
  z22 := Tryz.sizeOf40
  v22 := Tryz.zeroValue40
  t25 := Tryz.underlying221
  a25 := Tryz.isAgg221
  z25 := Tryz.sizeOf221
  v25 := Tryz.zeroValue221
  t39 := Tryz.underlying204
  a39 := Tryz.isAgg204
  z39 := Tryz.sizeOf204
  v39 := Tryz.zeroValue204
  t45 := Tryz.underlying236
  a45 := Tryz.isAgg236
  z45 := Tryz.sizeOf236
  v45 := Tryz.zeroValue236
  t46 := Tryz.underlying237
  a46 := Tryz.isAgg237
  z46 := Tryz.sizeOf237
  v46 := Tryz.zeroValue237
  t50 := Tryz.underlying125
  a50 := Tryz.isAgg125
  z50 := Tryz.sizeOf125
  v50 := Tryz.zeroValue125
  t53 := Tryz.underlying243
  a53 := Tryz.isAgg243
  z53 := Tryz.sizeOf243
  v53 := Tryz.zeroValue243
  t55 := Tryz.underlying245
  a55 := Tryz.isAgg245
  z55 := Tryz.sizeOf245
  v55 := Tryz.zeroValue245
  t66 := Tryz.underlying266
  a66 := Tryz.isAgg266
  z66 := Tryz.sizeOf266
  v66 := Tryz.zeroValue266
  t70 := Tryz.underlying270
  a70 := Tryz.isAgg270
  z70 := Tryz.sizeOf270
  v70 := Tryz.zeroValue270
  t76 := Tryz.underlying295
  a76 := Tryz.isAgg295
  z76 := Tryz.sizeOf295
  v76 := Tryz.zeroValue295
  t77 := Tryz.underlying200
  a77 := Tryz.isAgg200
  z77 := Tryz.sizeOf200
  v77 := Tryz.zeroValue200 }
def Tryz.sortEnt_ren : Go.Shelf.Ren := ⟨fun | 6 => 102 | 15 => 126 | 14 => 134 | 28 => 162 | 29 => 163 | 20 => 168 | 21 => 169 | 22 => 170 | 23 => 171 | 24 => 172 | 25 => 173 | 26 => 174 | 27 => 175 | 46 => 200 | 47 => 191 | 48 => 192 | 49 => 201 | 50 => 202 | 57 => 218 | n => n, fun | 22 => 151 | 24 => 156 | 25 => 180 | 3 => 3 | 39 => 204 | 0 => 0 | 53 => 243 | 55 => 245 | 4 => 4 | 46 => 237 | 45 => 236 | 50 => 125 | 5 => 5 | 9 => 9 | 66 => 266 | 70 => 270 | 76 => 295 | 77 => 200 | n => n, fun | n => n⟩
theorem Tryz.sortEnt : Go.Proofs.SlLaysF0.n6 Tryz.prog Tryz.sortEnt_ren := {
  mixed := by kernel_rfl
  f6 := ⟨Tryz.f102.name, by decide, Tryz.func102.trans (congrArg some (by kernel_rfl))⟩
  f14 := ⟨Tryz.f134.name, by decide, Tryz.func134.trans (congrArg some (by kernel_rfl))⟩
  f15 := Tryz.func126.trans (congrArg some (by kernel_rfl))
  f20 := ⟨Tryz.f168.name, by decide, Tryz.func168.trans (congrArg some (by kernel_rfl))⟩
  f21 := ⟨Tryz.f169.name, by decide, Tryz.func169.trans (congrArg some (by kernel_rfl))⟩
  f22 := ⟨Tryz.f170.name, by decide, Tryz.func170.trans (congrArg some (by kernel_rfl))⟩
  f23 := ⟨Tryz.f171.name, by decide, Tryz.func171.trans (congrArg some (by kernel_rfl))⟩
  f24 := ⟨Tryz.f172.name, by decide, Tryz.func172.trans (congrArg some (by kernel_rfl))⟩
  f25 := ⟨Tryz.f173.name, by decide, Tryz.func173.trans (congrArg some (by kernel_rfl))⟩
  f26 := ⟨Tryz.f174.name, by decide, Tryz.func174.trans (congrArg some (by kernel_rfl))⟩
  f27 := ⟨Tryz.f175.name, by decide, Tryz.func175.trans (congrArg some (by kernel_rfl))⟩
  f28 := Tryz.func162.trans (congrArg some (by kernel_rfl))
  f29 := Tryz.func163.trans (congrArg some (by kernel_rfl))
  f46 := ⟨Tryz.f200.name, by decide, Tryz.func200.trans (congrArg some (by kernel_rfl))⟩
  f47 := Tryz.func191.trans (congrArg some (by kernel_rfl))
  f48 := Tryz.func192.trans (congrArg some (by kernel_rfl))
  f49 := ⟨Tryz.f201.name, by decide, Tryz.func201.trans (congrArg some (by kernel_rfl))⟩
  f50 := ⟨Tryz.f202.name, by decide, Tryz.func202.trans (congrArg some (by kernel_rfl))⟩
  f57 := ⟨Tryz.f218.name, by decide, Tryz.func218.trans (congrArg some (by kernel_rfl))⟩
  t0 := Tryz.underlying0
  a0 := Tryz.isAgg0
  z0 := Tryz.sizeOf0
  v0 := Tryz.zeroValue0
  t3 := Tryz.underlying3
  a3 := Tryz.isAgg3
  z3 := Tryz.sizeOf3
  v3 := Tryz.zeroValue3
  t4 := Tryz.underlying4
  a4 := Tryz.isAgg4
  z4 := Tryz.sizeOf4
  v4 := Tryz.zeroValue4
  t5 := Tryz.underlying5
  a5 := Tryz.isAgg5
  z5 := Tryz.sizeOf5
  v5 := Tryz.zeroValue5
  t9 := Tryz.underlying9
  a9 := Tryz.isAgg9
  z9 := Tryz.sizeOf9
  v9 := Tryz.zeroValue9
  t22 := Tryz.underlying151
  a22 := Tryz.isAgg151
  z22 := Tryz.sizeOf151
  v22 := Tryz.zeroValue151
  t25 := Tryz.underlying180
  a25 := Tryz.isAgg180
  z25 := Tryz.sizeOf180
  v25 := Tryz.zeroValue180
  t39 := Tryz.underlying204
  a39 := Tryz.isAgg204
  z39 := Tryz.sizeOf204
  v39 := Tryz.zeroValue204
  t45 := Tryz.underlying236
  a45 := Tryz.isAgg236
  z45 := Tryz.sizeOf236
  v45 := Tryz.zeroValue236
  t46 := Tryz.underlying237
  a46 := Tryz.isAgg237
  z46 := Tryz.sizeOf237
  v46 := Tryz.zeroValue237
  t50 := Tryz.underlying125
  a50 := Tryz.isAgg125
  z50 := Tryz.sizeOf125
  v50 := Tryz.zeroValue125
  t53 := Tryz.underlying243
  a53 := Tryz.isAgg243
  z53 := Tryz.sizeOf243
  v53 := Tryz.zeroValue243
  t55 := Tryz.underlying245
  a55 := Tryz.isAgg245
  z55 := Tryz.sizeOf245
  v55 := Tryz.zeroValue245
  t66 := Tryz.underlying266
  a66 := Tryz.isAgg266
  z66 := Tryz.sizeOf266
  v66 := Tryz.zeroValue266
  t70 := Tryz.underlying270
  a70 := Tryz.isAgg270
  z70 := Tryz.sizeOf270
  v70 := Tryz.zeroValue270
  t76 := Tryz.underlying295
  a76 := Tryz.isAgg295
  z76 := Tryz.sizeOf295
  v76 := Tryz.zeroValue295
  t77 := Tryz.underlying200
  a77 := Tryz.isAgg200
  z77 := Tryz.sizeOf200
  v77 := Tryz.zeroValue200 }
end Go.Proofs
end
section
/- What the sort of cells does: a row of at most twelve cells holds them by rising codes afterwards. -/
namespace Go.Proofs.YtdgbgmffpcooeaaGreat
open Go.RowKit Go.Shelf Go.Lib Go.Sort

def encC (x : Nat × Nat) : List Value := [.int .i64 (x.1 : Int), .int .i64 (x.2 : Int)]
def cmpC (x y : Nat × Nat) : Int := if x.1 < y.1 then -1 else if y.1 < x.1 then 1 else 0

set_option maxHeartbeats 400000 in
theorem compare_any (x y : Nat × Nat) (w : World) : Calls Tryz.prog 142 #[.int .i64 (x.1 : Int), .int .i64 (y.1 : Int)] w fun e w' => e = .returned (.int .i64 (cmpC x y)) ∧ w' = w := by
  rcases Nat.lt_trichotomy x.1 y.1 with h | h | h
  · have h1 : (x.1 : Int) < (y.1 : Int) := by omega
    have e : cmpC x y = -1 := by unfold cmpC; rw [if_pos h]
    rw [e]; clear e
    go_enter Tryz.func142, Tryz.ntmps142
    go_wp2
    go_ret
    exact ⟨rfl, rfl⟩
  · have h1 : ¬ (x.1 : Int) < (y.1 : Int) := by omega
    have h2 : ¬ (y.1 : Int) < (x.1 : Int) := by omega
    have e : cmpC x y = 0 := by unfold cmpC; rw [if_neg (by omega), if_neg (by omega)]
    rw [e]; clear e h
    go_enter Tryz.func142, Tryz.ntmps142
    go_wp2
    go_ret
    exact ⟨rfl, rfl⟩
  · have h1 : ¬ (x.1 : Int) < (y.1 : Int) := by omega
    have h2 : (y.1 : Int) < (x.1 : Int) := by omega
    have e : cmpC x y = 1 := by unfold cmpC; rw [if_neg (by omega), if_pos (by omega)]
    rw [e]; clear e h
    go_enter Tryz.func142, Tryz.ntmps142
    go_wp2
    go_ret
    exact ⟨rfl, rfl⟩

set_option maxHeartbeats 1000000 in
theorem closure_any (x y : Nat × Nat) (W : World) : Calls Tryz.prog 141 #[.agg #[.int .i64 (x.1 : Int), .int .i64 (x.2 : Int)], .agg #[.int .i64 (y.1 : Int), .int .i64 (y.2 : Int)]] W fun e w' => e = .returned (.int .i64 (cmpC x y)) ∧ ∃ q os', w' = grow (W.drewN q) os' := by
  have hcon := fun W' => compare_any x y W'
  generalize cmpC x y = r at hcon ⊢
  go_enter Tryz.func141, Tryz.ntmps141
  go_wp2_with (go_at_call 142; refine (hcon _).mono ?_; rintro e w' ⟨rfl, rfl⟩)
  go_ret
  exact ⟨rfl, 0, _, by rw [alloc_eq_grow, alloc_eq_grow, grow_grow]; rfl⟩

theorem cmpLays_any (blk off size : Nat) (w : World) : CmpLays Tryz.prog 141 #[] encC 2 cmpC blk off size w :=
  fun _ _ _ _ x y => closure_any x y _

set_option maxHeartbeats 1000000 in
theorem len_any (n : Nat) (W : World) (h : n ≤ 12) : Calls Tryz.prog 126 #[.int .u64 n] W fun e w' => (∃ l : Int, e = .returned (.int .i64 l)) ∧ w' = W := by
  have : n = 0 ∨ n = 1 ∨ n = 2 ∨ n = 3 ∨ n = 4 ∨ n = 5 ∨ n = 6 ∨ n = 7 ∨ n = 8 ∨ n = 9 ∨ n = 10 ∨ n = 11 ∨ n = 12 := by omega
  rcases this with rfl | rfl | rfl | rfl | rfl | rfl | rfl | rfl | rfl | rfl | rfl | rfl | rfl
  all_goals
    go_enter Tryz.func126, Tryz.ntmps126
    go_wp2
    go_ret
    exact ⟨⟨_, rfl⟩, rfl⟩

theorem ltC (x y : Nat × Nat) : ltOf cmpC x y = decide (x.1 < y.1) := by
  unfold ltOf cmpC
  rw [decide_eq_decide]
  split
  · simp; assumption
  · split <;> simp <;> omega
theorem swoC : SWO (ltOf cmpC) := by
  refine ⟨fun x => ?_, fun x y z h1 h2 => ?_, fun x y z h1 h2 => ?_⟩
  · rw [ltC]; simp
  · rw [ltC, decide_eq_true_iff] at h1 h2 ⊢; omega
  · rw [ltC, decide_eq_false_iff_not] at h1 h2 ⊢; omega

theorem sort_any (blk off cap : Nat) (d : Array (Nat × Nat)) (w : World) (hH : HoldsK encC 2 w blk off d) (hblk : blk < w.heap.size) (h12 : d.size ≤ 12) :
    Calls Tryz.prog 140 #[.slice (some ⟨blk, off, none⟩) d.size cap, .func (.func 141) #[] #[]] w fun e w' => e = .returned (.tuple #[]) ∧ ∃ d' n os, PermIn 0 d.size d d' ∧ SortedIn (ltOf cmpC) 0 d.size d' ∧ w' = sortWorldK encC 2 w blk off n d' os :=
  AnyQ.slices_SortFunc_small_sorted Tryz.sortCell 2 Tryz.isAgg99 Tryz.sizeOf99 encC (fun _ => rfl) (fun x v hv => by simp [encC] at hv; rcases hv with rfl | rfl <;> rfl) cmpC 141 #[] swoC blk off cap d w (enters_of Tryz.func141 (by kernel_rfl) rfl) (cmpLays_any blk off d.size w) hH hblk h12 len_any

/-- A row of cells, laid flat. -/
def flatC (l : List (Nat × Nat)) : List Value := l.flatMap encC
theorem flatC_snoc (l : List (Nat × Nat)) (x : Nat × Nat) : flatC (l ++ [x]) = flatC l ++ [.int .i64 (x.1 : Int), .int .i64 (x.2 : Int)] := by simp [flatC, encC]
theorem length_flatC (l : List (Nat × Nat)) : (flatC l).length = l.length * 2 := by
  induction l with
  | nil => rfl
  | cons x r ih => show (encC x ++ flatC r).length = _; rw [List.length_append, ih]; simp [encC]; omega
theorem get_flatC : ∀ (l : List (Nat × Nat)) (t : Nat), (flatC l)[t]? = (l[t / 2]?).bind fun x => (encC x)[t % 2]?
  | [], t => by simp [flatC]
  | x :: r, 0 => rfl
  | x :: r, 1 => rfl
  | x :: r, t + 2 => by
    show (encC x ++ flatC r)[t + 2]? = _
    rw [show t + 2 = (encC x).length + t by simp only [encC, List.length_cons, List.length_nil]; omega, List.getElem?_append_right (by omega), show (encC x).length + t - (encC x).length = t by omega, get_flatC r t, show ((encC x).length + t) / 2 = t / 2 + 1 by simp only [encC, List.length_cons, List.length_nil]; omega, show ((encC x).length + t) % 2 = t % 2 by simp only [encC, List.length_cons, List.length_nil]; omega]
    simp
theorem flatK_flatC (l : List (Nat × Nat)) : (flatK encC 2 l.toArray).toList = flatC l := by
  apply List.ext_getElem?
  intro t
  rw [get_flatC]
  by_cases h : t < l.length * 2
  · have hl : t / 2 < l.length := by omega
    have h2 : t % 2 < 2 := by omega
    rw [List.getElem?_eq_getElem (l := l) hl]
    simp only [flatK, Array.toList_map, Array.toList_range, List.getElem?_map, List.size_toArray]
    rw [List.getElem?_range h]
    simp only [Option.map_some, Option.bind_some]
    have e : (l.toArray[t / 2]! : Nat × Nat) = l[t / 2] := by simp [hl]
    rw [e]
    rcases (show t % 2 = 0 ∨ t % 2 = 1 by omega) with g | g <;> rw [g] <;> rfl
  · rw [List.getElem?_eq_none (by simp [flatK]; omega), List.getElem?_eq_none (l := l) (by omega)]; rfl

theorem holds_of_row {w : World} {g : Nat} {cur : Array Value} {e : TypeId} {l : List (Nat × Nat)} (hb : w.heap[g]? = some (.cells cur e (0, 0))) (ht : cur.toList.take (l.length * 2) = flatC l) : HoldsK encC 2 w g 0 l.toArray := by
  intro j hj
  have hj' : j < l.length * 2 := by simpa using hj
  refine ⟨?_, by simp [World.frozen?, hb]⟩
  have h1 : (cur.toList.take (l.length * 2))[j]? = (flatC l)[j]? := by rw [ht]
  rw [List.getElem?_take_of_lt hj', ← flatK_flatC] at h1
  simp only [World.cell?, hb, Nat.zero_add]
  simp only [Option.isSome_none, Bool.false_eq_true, if_false]
  rw [← Array.getElem?_toList, h1]
  rw [Array.getElem?_toList, Array.getElem?_eq_getElem hj, getElem!_pos (flatK encC 2 l.toArray) j hj]; rfl

theorem row_sorted {w : World} {base g cap n : Nat} {e : TypeId} {os : Array Obj} {cur : Array Value} {l l' : List (Nat × Nat)} (hl : l'.length = l.length) (hbase : base ≤ g) (hb : w.heap[g]? = some (.cells cur e (0, 0)))
    (h1 : l.length ≤ cap) (h2 : cap ≤ maxLen) (h3 : cur.size = cap * 2) :
    (sortWorldK encC 2 w g 0 n l'.toArray os).ownsRow base e 2 (.slice (some ⟨g, 0, none⟩) l.length cap) l.length (flatC l') := by
  have hg : g < w.heap.size := (Array.getElem?_eq_some_iff.1 hb).1
  have hheap : (sortWorldK encC 2 w g 0 n l'.toArray os).heap[g]? = some (.cells (putCells id 0 (flatK encC 2 l'.toArray) cur) e (0, 0)) := by
    unfold sortWorldK putRowK
    rw [heap_grow_old _ _ (by simpa using hg)]
    simp [putRow, mapBlock, Sort.ahead, Array.getElem?_modify, hb, onCells]
  refine ⟨by rw [length_flatC, hl], .inr ⟨g, cap, _, rfl, hbase, hheap, h1, h2, by simp [putCells, h3], ?_⟩⟩
  rw [← flatK_flatC]
  have hsz : (flatK encC 2 l'.toArray).size = l.length * 2 := by simp [hl]
  apply List.ext_getElem?
  intro j
  by_cases hj : j < l.length * 2
  · rw [List.getElem?_take_of_lt hj, Array.getElem?_toList]
    have h5 : j < cur.size := by rw [h3]; have := Nat.mul_le_mul_right 2 h1; omega
    simp only [putCells]
    simp [h5, hl, hj]
  · rw [List.getElem?_take_eq_none (by omega), List.getElem?_eq_none (by rw [Array.length_toList, hsz]; omega)]
theorem below_sorted {w : World} {g n m : Nat} {os : Array Obj} {d : Array (Nat × Nat)} (hm : m ≤ g) (hg : g < w.heap.size) : Go.RowKit.Below m w (sortWorldK encC 2 w g 0 n d os) := by
  refine ⟨rfl, rfl, rfl, by simp [sortWorldK, putRowK], fun k hk => ?_⟩
  unfold sortWorldK putRowK
  rw [heap_grow_old _ _ (by simp; omega)]
  have : g ≠ k := by omega
  simp [putRow, mapBlock, Sort.ahead, Array.getElem?_modify, this]
end Go.Proofs.YtdgbgmffpcooeaaGreat
end
