/- Sort SortC Cover Own Gen Rf -/
import Derived.Shelf.SlSortCmp.SmallK
import Derived.Shelf.SlGeneric
import Derived.Ground.SlsfProg
import Derived.Test.YtdgbgmffpcooeaaGreatU04
import Derived.Deep.RegionHeld3
import Derived.Deep.AppendLies
import Derived.OwnWalk
import Derived.RegionTactic
import Derived.BigRegion
import Derived.Lib.AppendStr
import Derived.Laws.IdiomStrings
import Derived.Deep.Cut
namespace Go.Proofs
open Go.Shelf
section
def Tryz.sortCell_ren : Go.Shelf.Ren := ⟨fun | 6 => 140 | 15 => 126 | 14 => 176 | 28 => 162 | 29 => 163 | 20 => 203 | 21 => 204 | 22 => 205 | 23 => 206 | 24 => 207 | 25 => 208 | 26 => 209 | 27 => 210 | 46 => 219 | 47 => 191 | 48 => 192 | 49 => 220 | 50 => 221 | 57 => 229 | n => n,fun | 22 => 40 | 24 => 99 | 25 => 221 | 3 => 3 | 39 => 204 | 0 => 0 | 53 => 243 | 55 => 245 | 4 => 4 | 46 => 237 | 45 => 236 | 50 => 125 | 5 => 5 | 9 => 9 | 66 => 266 | 70 => 270 | 76 => 295 | 77 => 200 | n => n,fun | n => n⟩
theorem Tryz.sortCell : Go.Proofs.SlLaysF0.n6 Tryz.prog Tryz.sortCell_ren := {
 mixed := by kernel_rfl
 f6 := ⟨Tryz.f140.name,by decide,Tryz.func140.trans (congrArg some (by kernel_rfl))⟩
 f14 := ⟨Tryz.f176.name,by decide,Tryz.func176.trans (congrArg some (by kernel_rfl))⟩
 f15 := Tryz.func126.trans (congrArg some (by kernel_rfl))
 f20 := ⟨Tryz.f203.name,by decide,Tryz.func203.trans (congrArg some (by kernel_rfl))⟩
 f21 := ⟨Tryz.f204.name,by decide,Tryz.func204.trans (congrArg some (by kernel_rfl))⟩
 f22 := ⟨Tryz.f205.name,by decide,Tryz.func205.trans (congrArg some (by kernel_rfl))⟩
 f23 := ⟨Tryz.f206.name,by decide,Tryz.func206.trans (congrArg some (by kernel_rfl))⟩
 f24 := ⟨Tryz.f207.name,by decide,Tryz.func207.trans (congrArg some (by kernel_rfl))⟩
 f25 := ⟨Tryz.f208.name,by decide,Tryz.func208.trans (congrArg some (by kernel_rfl))⟩
 f26 := ⟨Tryz.f209.name,by decide,Tryz.func209.trans (congrArg some (by kernel_rfl))⟩
 f27 := ⟨Tryz.f210.name,by decide,Tryz.func210.trans (congrArg some (by kernel_rfl))⟩
 f28 := Tryz.func162.trans (congrArg some (by kernel_rfl))
 f29 := Tryz.func163.trans (congrArg some (by kernel_rfl))
 f46 := ⟨Tryz.f219.name,by decide,Tryz.func219.trans (congrArg some (by kernel_rfl))⟩
 f47 := Tryz.func191.trans (congrArg some (by kernel_rfl))
 f48 := Tryz.func192.trans (congrArg some (by kernel_rfl))
 f49 := ⟨Tryz.f220.name,by decide,Tryz.func220.trans (congrArg some (by kernel_rfl))⟩
 f50 := ⟨Tryz.f221.name,by decide,Tryz.func221.trans (congrArg some (by kernel_rfl))⟩
 f57 := ⟨Tryz.f229.name,by decide,Tryz.func229.trans (congrArg some (by kernel_rfl))⟩
 t0 := Tryz.underlying0
 a0 := Tryz.isAgg0
 z0 := Tryz.sizeOf0
 v0 := Tryz.zeroValue0
 t3 := Tryz.underlying3
 a3 := Tryz.isAgg3
 z3 := Tryz.sizeOf3
 v3 := Tryz.zeroValue3
 t4 := Tryz.underlying4
 a4 := Tryz.isAgg4
 z4 := Tryz.sizeOf4
 v4 := Tryz.zeroValue4
 t5 := Tryz.underlying5
 a5 := Tryz.isAgg5
 z5 := Tryz.sizeOf5
 v5 := Tryz.zeroValue5
 t9 := Tryz.underlying9
 a9 := Tryz.isAgg9
 z9 := Tryz.sizeOf9
 v9 := Tryz.zeroValue9
 t22 := Tryz.underlying40
 a22 := Tryz.isAgg40
 z22 := Tryz.sizeOf40
 v22 := Tryz.zeroValue40
 t25 := Tryz.underlying221
 a25 := Tryz.isAgg221
 z25 := Tryz.sizeOf221
 v25 := Tryz.zeroValue221
 t39 := Tryz.underlying204
 a39 := Tryz.isAgg204
 z39 := Tryz.sizeOf204
 v39 := Tryz.zeroValue204
 t45 := Tryz.underlying236
 a45 := Tryz.isAgg236
 z45 := Tryz.sizeOf236
 v45 := Tryz.zeroValue236
 t46 := Tryz.underlying237
 a46 := Tryz.isAgg237
 z46 := Tryz.sizeOf237
 v46 := Tryz.zeroValue237
 t50 := Tryz.underlying125
 a50 := Tryz.isAgg125
 z50 := Tryz.sizeOf125
 v50 := Tryz.zeroValue125
 t53 := Tryz.underlying243
 a53 := Tryz.isAgg243
 z53 := Tryz.sizeOf243
 v53 := Tryz.zeroValue243
 t55 := Tryz.underlying245
 a55 := Tryz.isAgg245
 z55 := Tryz.sizeOf245
 v55 := Tryz.zeroValue245
 t66 := Tryz.underlying266
 a66 := Tryz.isAgg266
 z66 := Tryz.sizeOf266
 v66 := Tryz.zeroValue266
 t70 := Tryz.underlying270
 a70 := Tryz.isAgg270
 z70 := Tryz.sizeOf270
 v70 := Tryz.zeroValue270
 t76 := Tryz.underlying295
 a76 := Tryz.isAgg295
 z76 := Tryz.sizeOf295
 v76 := Tryz.zeroValue295
 t77 := Tryz.underlying200
 a77 := Tryz.isAgg200
 z77 := Tryz.sizeOf200
 v77 := Tryz.zeroValue200 }
def Tryz.sortEnt_ren : Go.Shelf.Ren := ⟨fun | 6 => 102 | 15 => 126 | 14 => 134 | 28 => 162 | 29 => 163 | 20 => 168 | 21 => 169 | 22 => 170 | 23 => 171 | 24 => 172 | 25 => 173 | 26 => 174 | 27 => 175 | 46 => 200 | 47 => 191 | 48 => 192 | 49 => 201 | 50 => 202 | 57 => 218 | n => n,fun | 22 => 151 | 24 => 156 | 25 => 180 | 3 => 3 | 39 => 204 | 0 => 0 | 53 => 243 | 55 => 245 | 4 => 4 | 46 => 237 | 45 => 236 | 50 => 125 | 5 => 5 | 9 => 9 | 66 => 266 | 70 => 270 | 76 => 295 | 77 => 200 | n => n,fun | n => n⟩
theorem Tryz.sortEnt : Go.Proofs.SlLaysF0.n6 Tryz.prog Tryz.sortEnt_ren := {
 mixed := by kernel_rfl
 f6 := ⟨Tryz.f102.name,by decide,Tryz.func102.trans (congrArg some (by kernel_rfl))⟩
 f14 := ⟨Tryz.f134.name,by decide,Tryz.func134.trans (congrArg some (by kernel_rfl))⟩
 f15 := Tryz.func126.trans (congrArg some (by kernel_rfl))
 f20 := ⟨Tryz.f168.name,by decide,Tryz.func168.trans (congrArg some (by kernel_rfl))⟩
 f21 := ⟨Tryz.f169.name,by decide,Tryz.func169.trans (congrArg some (by kernel_rfl))⟩
 f22 := ⟨Tryz.f170.name,by decide,Tryz.func170.trans (congrArg some (by kernel_rfl))⟩
 f23 := ⟨Tryz.f171.name,by decide,Tryz.func171.trans (congrArg some (by kernel_rfl))⟩
 f24 := ⟨Tryz.f172.name,by decide,Tryz.func172.trans (congrArg some (by kernel_rfl))⟩
 f25 := ⟨Tryz.f173.name,by decide,Tryz.func173.trans (congrArg some (by kernel_rfl))⟩
 f26 := ⟨Tryz.f174.name,by decide,Tryz.func174.trans (congrArg some (by kernel_rfl))⟩
 f27 := ⟨Tryz.f175.name,by decide,Tryz.func175.trans (congrArg some (by kernel_rfl))⟩
 f28 := Tryz.func162.trans (congrArg some (by kernel_rfl))
 f29 := Tryz.func163.trans (congrArg some (by kernel_rfl))
 f46 := ⟨Tryz.f200.name,by decide,Tryz.func200.trans (congrArg some (by kernel_rfl))⟩
 f47 := Tryz.func191.trans (congrArg some (by kernel_rfl))
 f48 := Tryz.func192.trans (congrArg some (by kernel_rfl))
 f49 := ⟨Tryz.f201.name,by decide,Tryz.func201.trans (congrArg some (by kernel_rfl))⟩
 f50 := ⟨Tryz.f202.name,by decide,Tryz.func202.trans (congrArg some (by kernel_rfl))⟩
 f57 := ⟨Tryz.f218.name,by decide,Tryz.func218.trans (congrArg some (by kernel_rfl))⟩
 t0 := Tryz.underlying0
 a0 := Tryz.isAgg0
 z0 := Tryz.sizeOf0
 v0 := Tryz.zeroValue0
 t3 := Tryz.underlying3
 a3 := Tryz.isAgg3
 z3 := Tryz.sizeOf3
 v3 := Tryz.zeroValue3
 t4 := Tryz.underlying4
 a4 := Tryz.isAgg4
 z4 := Tryz.sizeOf4
 v4 := Tryz.zeroValue4
 t5 := Tryz.underlying5
 a5 := Tryz.isAgg5
 z5 := Tryz.sizeOf5
 v5 := Tryz.zeroValue5
 t9 := Tryz.underlying9
 a9 := Tryz.isAgg9
 z9 := Tryz.sizeOf9
 v9 := Tryz.zeroValue9
 t22 := Tryz.underlying151
 a22 := Tryz.isAgg151
 z22 := Tryz.sizeOf151
 v22 := Tryz.zeroValue151
 t25 := Tryz.underlying180
 a25 := Tryz.isAgg180
 z25 := Tryz.sizeOf180
 v25 := Tryz.zeroValue180
 t39 := Tryz.underlying204
 a39 := Tryz.isAgg204
 z39 := Tryz.sizeOf204
 v39 := Tryz.zeroValue204
 t45 := Tryz.underlying236
 a45 := Tryz.isAgg236
 z45 := Tryz.sizeOf236
 v45 := Tryz.zeroValue236
 t46 := Tryz.underlying237
 a46 := Tryz.isAgg237
 z46 := Tryz.sizeOf237
 v46 := Tryz.zeroValue237
 t50 := Tryz.underlying125
 a50 := Tryz.isAgg125
 z50 := Tryz.sizeOf125
 v50 := Tryz.zeroValue125
 t53 := Tryz.underlying243
 a53 := Tryz.isAgg243
 z53 := Tryz.sizeOf243
 v53 := Tryz.zeroValue243
 t55 := Tryz.underlying245
 a55 := Tryz.isAgg245
 z55 := Tryz.sizeOf245
 v55 := Tryz.zeroValue245
 t66 := Tryz.underlying266
 a66 := Tryz.isAgg266
 z66 := Tryz.sizeOf266
 v66 := Tryz.zeroValue266
 t70 := Tryz.underlying270
 a70 := Tryz.isAgg270
 z70 := Tryz.sizeOf270
 v70 := Tryz.zeroValue270
 t76 := Tryz.underlying295
 a76 := Tryz.isAgg295
 z76 := Tryz.sizeOf295
 v76 := Tryz.zeroValue295
 t77 := Tryz.underlying200
 a77 := Tryz.isAgg200
 z77 := Tryz.sizeOf200
 v77 := Tryz.zeroValue200 }
end
end Go.Proofs
namespace Go.Proofs.YtdgbgmffpcooeaaGreat
open Go.RowKit Go.Shelf Go.Lib Go.Sort
section
def encC (x : Nat × Nat) : List Value := [.int .i64 (x.1 : Int), .int .i64 (x.2 : Int)]
def cmpC (x y : Nat × Nat) : Int := if x.1 < y.1 then -1 else if y.1 < x.1 then 1 else 0
set_option maxHeartbeats 400000 in
theorem compare_any (x y : Nat × Nat) (w : World) : Calls Tryz.prog 142 #[.int .i64 (x.1 : Int), .int .i64 (y.1 : Int)] w fun e w' => e = .returned (.int .i64 (cmpC x y)) ∧ w' = w := by
 rcases Nat.lt_trichotomy x.1 y.1 with h | h | h
 ·have h1 : (x.1 : Int) < (y.1 : Int) := by omega
  have e : cmpC x y = -1 := by unfold cmpC; rw [if_pos h]
  rw [e]; clear e
  go_enter Tryz.func142,Tryz.ntmps142
  go_wp2
  go_ret
  exact ⟨rfl,rfl⟩
 ·have h1 : ¬ (x.1 : Int) < (y.1 : Int) := by omega
  have h2 : ¬ (y.1 : Int) < (x.1 : Int) := by omega
  have e : cmpC x y = 0 := by unfold cmpC; rw [if_neg (by omega),if_neg (by omega)]
  rw [e]; clear e h
  go_enter Tryz.func142,Tryz.ntmps142
  go_wp2
  go_ret
  exact ⟨rfl,rfl⟩
 ·have h1 : ¬ (x.1 : Int) < (y.1 : Int) := by omega
  have h2 : (y.1 : Int) < (x.1 : Int) := by omega
  have e : cmpC x y = 1 := by unfold cmpC; rw [if_neg (by omega),if_pos (by omega)]
  rw [e]; clear e h
  go_enter Tryz.func142,Tryz.ntmps142
  go_wp2
  go_ret
  exact ⟨rfl,rfl⟩
set_option maxHeartbeats 1000000 in
theorem closure_any (x y : Nat × Nat) (W : World) : Calls Tryz.prog 141 #[.agg #[.int .i64 (x.1 : Int), .int .i64 (x.2 : Int)], .agg #[.int .i64 (y.1 : Int), .int .i64 (y.2 : Int)]] W fun e w' => e = .returned (.int .i64 (cmpC x y)) ∧ ∃ q os',w' = grow (W.drewN q) os' := by
 have hcon := fun W' => compare_any x y W'
 generalize cmpC x y = r at hcon ⊢
 go_enter Tryz.func141,Tryz.ntmps141
 go_wp2_with (go_at_call 142; refine (hcon _).mono ?_; rintro e w' ⟨rfl,rfl⟩)
 go_ret
 exact ⟨rfl, 0,_,by rw [alloc_eq_grow,alloc_eq_grow,grow_grow]; rfl⟩
theorem cmpLays_any (blk off size : Nat) (w : World) : CmpLays Tryz.prog 141 #[] encC 2 cmpC blk off size w :=
 fun _ _ _ _ x y => closure_any x y _
set_option maxHeartbeats 1000000 in
theorem len_any (n : Nat) (W : World) (h : n ≤ 12) : Calls Tryz.prog 126 #[.int .u64 n] W fun e w' => (∃ l : Int,e = .returned (.int .i64 l)) ∧ w' = W := by
 have : n = 0 ∨ n = 1 ∨ n = 2 ∨ n = 3 ∨ n = 4 ∨ n = 5 ∨ n = 6 ∨ n = 7 ∨ n = 8 ∨ n = 9 ∨ n = 10 ∨ n = 11 ∨ n = 12 := by omega
 rcases this with rfl | rfl | rfl | rfl | rfl | rfl | rfl | rfl | rfl | rfl | rfl | rfl | rfl
 all_goals
  go_enter Tryz.func126,Tryz.ntmps126
  go_wp2
  go_ret
  exact ⟨⟨_,rfl⟩,rfl⟩
theorem ltC (x y : Nat × Nat) : ltOf cmpC x y = decide (x.1 < y.1) := by
 unfold ltOf cmpC
 rw [decide_eq_decide]
 split
 ·simp; assumption
 ·split <;> simp <;> omega
theorem swoC : SWO (ltOf cmpC) := by
 refine ⟨fun x => ?_,fun x y z h1 h2 => ?_,fun x y z h1 h2 => ?_⟩
 ·rw [ltC]; simp
 ·rw [ltC,decide_eq_true_iff] at h1 h2 ⊢; omega
 ·rw [ltC,decide_eq_false_iff_not] at h1 h2 ⊢; omega
theorem sort_any (blk off cap : Nat) (d : Array (Nat × Nat)) (w : World) (hH : HoldsK encC 2 w blk off d) (hblk : blk < w.heap.size) (h12 : d.size ≤ 12) :
  Calls Tryz.prog 140 #[.slice (some ⟨blk,off,none⟩) d.size cap, .func (.func 141) #[] #[]] w fun e w' => e = .returned (.tuple #[]) ∧ ∃ d' n os,PermIn 0 d.size d d' ∧ SortedIn (ltOf cmpC) 0 d.size d' ∧ w' = sortWorldK encC 2 w blk off n d' os :=
 AnyQ.slices_SortFunc_small_sorted Tryz.sortCell 2 Tryz.isAgg99 Tryz.sizeOf99 encC (fun _ => rfl) (fun x v hv => by simp [encC] at hv; rcases hv with rfl | rfl <;> rfl) cmpC 141 #[] swoC blk off cap d w (enters_of Tryz.func141 (by kernel_rfl) rfl) (cmpLays_any blk off d.size w) hH hblk h12 len_any
def flatC (l : List (Nat × Nat)) : List Value := l.flatMap encC
theorem flatC_snoc (l : List (Nat × Nat)) (x : Nat × Nat) : flatC (l ++ [x]) = flatC l ++ [.int .i64 (x.1 : Int), .int .i64 (x.2 : Int)] := by simp [flatC,encC]
theorem length_flatC (l : List (Nat × Nat)) : (flatC l).length = l.length * 2 := by
 induction l with
 | nil => rfl
 | cons x r ih => show (encC x ++ flatC r).length = _; rw [List.length_append,ih]; simp [encC]; omega
theorem get_flatC : ∀ (l : List (Nat × Nat)) (t : Nat),(flatC l)[t]? = (l[t / 2]?).bind fun x => (encC x)[t % 2]?
 | [],t => by simp [flatC]
 | x :: r, 0 => rfl
 | x :: r, 1 => rfl
 | x :: r,t + 2 => by
  show (encC x ++ flatC r)[t + 2]? = _
  rw [show t + 2 = (encC x).length + t by simp only [encC,List.length_cons,List.length_nil]; omega,List.getElem?_append_right (by omega),show (encC x).length + t - (encC x).length = t by omega,get_flatC r t,show ((encC x).length + t) / 2 = t / 2 + 1 by simp only [encC,List.length_cons,List.length_nil]; omega,show ((encC x).length + t) % 2 = t % 2 by simp only [encC,List.length_cons,List.length_nil]; omega]
  simp
theorem flatK_flatC (l : List (Nat × Nat)) : (flatK encC 2 l.toArray).toList = flatC l := by
 apply List.ext_getElem?
 intro t
 rw [get_flatC]
 by_cases h : t < l.length * 2
 ·have hl : t / 2 < l.length := by omega
  have h2 : t % 2 < 2 := by omega
  rw [List.getElem?_eq_getElem (l := l) hl]
  simp only [flatK,Array.toList_map,Array.toList_range,List.getElem?_map,List.size_toArray]
  rw [List.getElem?_range h]
  simp only [Option.map_some,Option.bind_some]
  have e : (l.toArray[t / 2]! : Nat × Nat) = l[t / 2] := by simp [hl]
  rw [e]
  rcases (show t % 2 = 0 ∨ t % 2 = 1 by omega) with g | g <;> rw [g] <;> rfl
 ·rw [List.getElem?_eq_none (by simp [flatK]; omega),List.getElem?_eq_none (l := l) (by omega)]; rfl
theorem holds_of_row {w : World} {g : Nat} {cur : Array Value} {e : TypeId} {l : List (Nat × Nat)} (hb : w.heap[g]? = some (.cells cur e (0, 0))) (ht : cur.toList.take (l.length * 2) = flatC l) : HoldsK encC 2 w g 0 l.toArray := by
 intro j hj
 have hj' : j < l.length * 2 := by simpa using hj
 refine ⟨?_,by simp [World.frozen?,hb]⟩
 have h1 : (cur.toList.take (l.length * 2))[j]? = (flatC l)[j]? := by rw [ht]
 rw [List.getElem?_take_of_lt hj', ← flatK_flatC] at h1
 simp only [World.cell?,hb,Nat.zero_add]
 simp only [Option.isSome_none,Bool.false_eq_true,if_false]
 rw [← Array.getElem?_toList,h1]
 rw [Array.getElem?_toList,Array.getElem?_eq_getElem hj,getElem!_pos (flatK encC 2 l.toArray) j hj]; rfl
theorem row_sorted {w : World} {base g cap n : Nat} {e : TypeId} {os : Array Obj} {cur : Array Value} {l l' : List (Nat × Nat)} (hl : l'.length = l.length) (hbase : base ≤ g) (hb : w.heap[g]? = some (.cells cur e (0, 0)))
  (h1 : l.length ≤ cap) (h2 : cap ≤ maxLen) (h3 : cur.size = cap * 2) :
  (sortWorldK encC 2 w g 0 n l'.toArray os).ownsRow base e 2 (.slice (some ⟨g, 0,none⟩) l.length cap) l.length (flatC l') := by
 have hg : g < w.heap.size := (Array.getElem?_eq_some_iff.1 hb).1
 have hheap : (sortWorldK encC 2 w g 0 n l'.toArray os).heap[g]? = some (.cells (putCells id 0 (flatK encC 2 l'.toArray) cur) e (0, 0)) := by
  unfold sortWorldK putRowK
  rw [heap_grow_old _ _ (by simpa using hg)]
  simp [putRow,mapBlock,Sort.ahead,Array.getElem?_modify,hb,onCells]
 refine ⟨by rw [length_flatC,hl], .inr ⟨g,cap,_,rfl,hbase,hheap,h1,h2,by simp [putCells,h3], ?_⟩⟩
 rw [← flatK_flatC]
 have hsz : (flatK encC 2 l'.toArray).size = l.length * 2 := by simp [hl]
 apply List.ext_getElem?
 intro j
 by_cases hj : j < l.length * 2
 ·rw [List.getElem?_take_of_lt hj,Array.getElem?_toList]
  have h5 : j < cur.size := by rw [h3]; have := Nat.mul_le_mul_right 2 h1; omega
  simp only [putCells]
  simp [h5,hl,hj]
 ·rw [List.getElem?_take_eq_none (by omega),List.getElem?_eq_none (by rw [Array.length_toList,hsz]; omega)]
theorem below_sorted {w : World} {g n m : Nat} {os : Array Obj} {d : Array (Nat × Nat)} (hm : m ≤ g) (hg : g < w.heap.size) : Go.RowKit.Below m w (sortWorldK encC 2 w g 0 n d os) := by
 refine ⟨rfl,rfl,rfl,by simp [sortWorldK,putRowK],fun k hk => ?_⟩
 unfold sortWorldK putRowK
 rw [heap_grow_old _ _ (by simp; omega)]
 have : g ≠ k := by omega
 simp [putRow,mapBlock,Sort.ahead,Array.getElem?_modify,this]
end
end Go.Proofs.YtdgbgmffpcooeaaGreat
namespace Go.Proofs.YtdgbgmffpcooeaaGreat
open Go.RowKit
section
def celAt (k x y : Nat) : Nat × Nat := (code (x * 2 ^ k) (y * 2 ^ k),k)
def gridL (k A B nr n m : Nat) : List (Nat × Nat) := ((List.range n).flatMap fun i => (List.range nr).map fun j => celAt k (A + i) (B + j)) ++ (List.range m).map fun j => celAt k (A + n) (B + j)
theorem gridL_row (k A B nr n m : Nat) : gridL k A B nr n (m + 1) = gridL k A B nr n m ++ [celAt k (A + n) (B + m)] := by
 unfold gridL; rw [List.range_succ,List.map_append,List.append_assoc]; rfl
theorem gridL_col (k A B nr n : Nat) : gridL k A B nr (n + 1) 0 = gridL k A B nr n nr := by
 unfold gridL; rw [List.range_succ (n := n),List.flatMap_append]; simp
theorem length_gridL (k A B nr n m : Nat) : (gridL k A B nr n m).length = n * nr + m := by
 unfold gridL
 induction n with
 | zero => simp
 | succ n ih =>
  rw [List.range_succ (n := n),List.flatMap_append]
  simp only [List.length_append,List.length_map,List.length_range,List.flatMap_cons,List.flatMap_nil,List.length_nil] at ih ⊢
  rw [Nat.add_mul]; omega
theorem info99 : (Tryz.prog.info? 99).map (fun i => (i.zero,i.size,i.bytes)) = some (some (.agg #[.int .i64 0, .int .i64 0]), 2, 16) := by kernel_rfl
theorem shl_nat (p k : Nat) (h : p * 2 ^ k < 65536) : IntKind.i64.wrap ((p : Int) * 2 ^ k) = ((p * 2 ^ k : Nat) : Int) := by
 rw [pow_cast, ← Int.natCast_mul]; exact wrap_i64_nat _ (by omega)
theorem code_shl (p q k : Nat) (w : World) (hp : p * 2 ^ k < 65536) (hq : q * 2 ^ k < 65536) :
  Calls Tryz.prog 139 #[.int .i64 (IntKind.i64.wrap ((p : Int) * 2 ^ k)), .int .i64 (IntKind.i64.wrap ((q : Int) * 2 ^ k))] w fun e w' => e = .returned (.int .i64 ((celAt k p q).1 : Int)) ∧ w' = w := by
 rw [shl_nat p k hp,shl_nat q k hq]; exact code_any _ _ w hp hq
theorem shl_le (x k : Nat) : x / 2 ^ k * 2 ^ k ≤ x := Nat.div_mul_le_self x (2 ^ k)
structure IsCover (r : Box) (k : Nat) (l : List (Nat × Nat)) : Prop where
 size : IsSize r k
 perm : l.Perm (gridL k (r.a / 2 ^ k) (r.b / 2 ^ k) (r.d / 2 ^ k - r.b / 2 ^ k + 1) (r.c / 2 ^ k - r.a / 2 ^ k + 1) 0)
 sorted : l.Pairwise fun x y => x.1 ≤ y.1
theorem perm_of_permIn {l : List (Nat × Nat)} {d' : Array (Nat × Nat)} (h : Go.Sort.PermIn 0 l.length l.toArray d') : d'.toList.length = l.length ∧ d'.toList.Perm l := by
 obtain ⟨h1,_,h3⟩ := h
 simp only [List.size_toArray] at h1
 have h2 : d'.toList.length = l.length := by simpa using h1
 refine ⟨h2, ?_⟩
 simp at h3
 rwa [List.take_of_length_le (by omega)] at h3
theorem sorted_of_sortedIn {l : List (Nat × Nat)} {d' : Array (Nat × Nat)} (hl : d'.toList.length = l.length) (h : Go.Sort.SortedIn (ltOf cmpC) 0 l.length d') : d'.toList.Pairwise fun x y => x.1 ≤ y.1 := by
 rw [List.pairwise_iff_getElem]
 intro i j hi hj hij
 have := h i j (Nat.zero_le _) hij (by omega)
 rw [ltC,decide_eq_false_iff_not] at this
 have e1 : d'[i]! = d'.toList[i] := by simp at hi; simp [hi]
 have e2 : d'[j]! = d'.toList[j] := by simp at hj; simp [hj]
 rw [e1,e2] at this
 omega
theorem own_ge {w : World} {base : Nat} {e : TypeId} {size : Nat} {v : Value} {n : Nat} {xs : List Value} (h : w.ownsRow base e size v n xs) {j : Nat} (hj : v.ownBlock = some j) : base ≤ j := by
 obtain ⟨_,⟨rfl,_⟩ | ⟨g,cap,cur,rfl,hb,_⟩⟩ := h
 ·cases hj
 ·simp only [Value.ownBlock,Option.some.injEq] at hj; omega
set_option maxRecDepth 100000 in
set_option maxHeartbeats 2000000 in
theorem gcover_any (r : Box) (hr : r.ok) (w : World) :
  Calls Tryz.prog 111 #[.agg #[.int .i64 (r.a : Int), .int .i64 (r.b : Int), .int .i64 (r.c : Int), .int .i64 (r.d : Int)]] w fun e w' => ∃ (g cap k : Nat) (l : List (Nat × Nat)),e = .returned (.slice (some ⟨g, 0,none⟩) l.length cap) ∧ w'.ownsRow (w.heap.size + 1) 99 2 (.slice (some ⟨g, 0,none⟩) l.length cap) l.length (flatC l) ∧ IsCover r k l ∧ Below w.heap.size w w' := by
 obtain ⟨i0,hi0,hz0,hz1,hz2⟩ := info_parts info99
 go_enter Tryz.func111,Tryz.ntmps111
 go_wp2_with fail
 refine (size_any r hr _).mono ?_
 rintro e w1 ⟨⟨k,rfl,hk⟩,hb1⟩
 have hk15 := size_le hr hk
 have HK : Hid (IsSize r k) := hk
 obtain ⟨A,hA⟩ : ∃ A,r.a / 2 ^ k = A := ⟨_,rfl⟩
 obtain ⟨C,hC⟩ : ∃ A,r.c / 2 ^ k = A := ⟨_,rfl⟩
 obtain ⟨B,hB⟩ : ∃ A,r.b / 2 ^ k = A := ⟨_,rfl⟩
 obtain ⟨D,hD⟩ : ∃ A,r.d / 2 ^ k = A := ⟨_,rfl⟩
 have sA := shr_nat r.a k
 have sB := shr_nat r.b k
 have sC := shr_nat r.c k
 have sD := shr_nat r.d k
 rw [hA] at sA; rw [hB] at sB; rw [hC] at sC; rw [hD] at sD
 have hcx : ∀ p,p ≤ C → p * 2 ^ k < 65536 := fun p hp => by
  have h1 := Nat.mul_le_mul_right (2 ^ k) hp; have h2 := shl_le r.c k; have h3 := hr.2.1; rw [hC] at h2; omega
 have hcy : ∀ p,p ≤ D → p * 2 ^ k < 65536 := fun p hp => by
  have h1 := Nat.mul_le_mul_right (2 ^ k) hp; have h2 := shl_le r.d k; have h3 := hr.2.2.2; rw [hD] at h2; omega
 have hAC : A ≤ C := by rw [← hA, ← hC]; exact Nat.div_le_div_right hr.1
 have hBD : B ≤ D := by rw [← hB, ← hD]; exact Nat.div_le_div_right hr.2.2.1
 have hAC2 : C ≤ A + 1 := by rw [← hA, ← hC]; exact hk.1.1
 have hBD2 : D ≤ B + 1 := by rw [← hB, ← hD]; exact hk.1.2
 have hC65 : C < 65536 := by rw [← hC]; exact Nat.lt_of_le_of_lt (Nat.div_le_self _ _) hr.2.1
 have hD65 : D < 65536 := by rw [← hD]; exact Nat.lt_of_le_of_lt (Nat.div_le_self _ _) hr.2.2.2
 have hsz := hb1.size
 simp only [World.size_alloc] at hsz hb1
 obtain ⟨W0,hW0⟩ : ∃ W0,w.alloc (.cells #[.int .i64 (r.a : Int), .int .i64 (r.b : Int), .int .i64 (r.c : Int), .int .i64 (r.d : Int)] 34) = W0 := ⟨_,rfl⟩
 have b0 := Blk.new w 34 #[.int .i64 (r.a : Int), .int .i64 (r.b : Int), .int .i64 (r.c : Int), .int .i64 (r.d : Int)]
 rw [hW0] at b0 hb1
 have hBW : Below w.heap.size w W0 := by rw [← hW0]; exact (Below.refl _ _).alloc (Nat.le_refl _) _
 have hW0s : W0.heap.size = w.heap.size + 1 := by rw [← hW0]; simp
 clear hW0
 have HA : Hid (r.a / 2 ^ k = A) := hA
 have HC : Hid (r.c / 2 ^ k = C) := hC
 have HB : Hid (r.b / 2 ^ k = B) := hB
 have HD : Hid (r.d / 2 ^ k = D) := hD
 clear hA hB hC hD hk
 have cells_of : ∀ wr,Below (w.heap.size + 1) W0 wr → wr.cell? ⟨w.heap.size, 0,none⟩ = some (.int .i64 (r.a : Int)) ∧ wr.cell? ⟨w.heap.size, 1,none⟩ = some (.int .i64 (r.b : Int)) ∧ wr.cell? ⟨w.heap.size, 2,none⟩ = some (.int .i64 (r.c : Int)) ∧ wr.cell? ⟨w.heap.size, 3,none⟩ = some (.int .i64 (r.d : Int)) := fun wr h => by
  have b := b0.below h (by omega)
  exact ⟨b.cell 0,b.cell 1,b.cell 2,b.cell 3⟩
 have HCELL := cells_of
 obtain ⟨c0,c1,c2,c3⟩ := cells_of w1 hb1
 clear cells_of
 obtain ⟨nr,hnr⟩ : ∃ nr,nr = D - B + 1 := ⟨_,rfl⟩
 obtain ⟨nc,hnc⟩ : ∃ nc,nc = C - A + 1 := ⟨_,rfl⟩
 have HNR : Hid (nr = D - B + 1) := hnr
 have HNC : Hid (nc = C - A + 1) := hnc
 have hnr2 : nr ≤ 2 := by omega
 have hnc2 : nc ≤ 2 := by omega
 clear hnr hnc
 go_wp2
 go_loopw [4, 5] (fun s x wr => ∃ (n p : Nat),x = .int .i64 (p : Int) ∧ Hid (p = A + n) ∧ n ≤ nc ∧ wr.ownsRow (w.heap.size + 1) 99 2 s (n * nr) (flatC (gridL k A B nr n 0)) ∧ Below (w.heap.size + 1) W0 wr) (fun _ x _ => C + 1 - (intOf x).toNat)
 case atStart => exact ⟨0,A,rfl,by show A = A + 0; omega,by omega,by simp [gridL,flatC]; exact World.ownsRow_nil _ _ _ _,hb1⟩
 case round =>
  obtain ⟨n,p,rfl,hp,hn,hown,hBr⟩ := hrel
  obtain ⟨c0,c1,c2,c3⟩ := HCELL _ hBr
  by_cases hlt : n < nc
  ·have hpC : p ≤ C := by have := hp.out; have := HNC.out; omega
   have hpC' : (p : Int) ≤ (C : Int) := by omega
   have hpx := hcx p hpC
   go_wp2
   go_loopw [4, 6] (fun s x ws => ∃ (m q : Nat),x = .int .i64 (q : Int) ∧ Hid (q = B + m) ∧ m ≤ nr ∧ ws.ownsRow (w.heap.size + 1) 99 2 s (n * nr + m) (flatC (gridL k A B nr n m)) ∧ Below (w.heap.size + 1) W0 ws) (fun _ x _ => D + 1 - (intOf x).toNat)
   case atStart => exact ⟨0,B,rfl,by show B = B + 0; omega,by omega,hown,hBr⟩
   case round =>
    clear hown hBr c0 c1 c2 c3
    obtain ⟨m,q,rfl,hq,hm,hown,hBr⟩ := hrel
    obtain ⟨c0,c1,c2,c3⟩ := HCELL _ hBr
    by_cases hlt2 : m < nr
    ·have hqD : q ≤ D := by have := hq.out; have := HNR.out; omega
     have hqD' : (q : Int) ≤ (D : Int) := by omega
     have hqx := hcy q hqD
     have hnm : n * nr ≤ 4 := by
      have := Nat.mul_le_mul (show n ≤ 2 by omega) hnr2; omega
     have hsw := hBr.size
     obtain ⟨c,hce⟩ : ∃ c : Nat,c = (celAt k p q).1 := ⟨_,rfl⟩
     have hcon : ∀ W,Calls Tryz.prog 139 #[.int .i64 (IntKind.i64.wrap ((p : Int) * 2 ^ k)), .int .i64 (IntKind.i64.wrap ((q : Int) * 2 ^ k))] W fun e w' => e = .returned (.int .i64 (c : Int)) ∧ w' = W := by
      rw [hce]; exact fun W => code_shl p q k W hpx hqx
     have HCE : Hid (c = (celAt k p q).1) := hce
     clear hce c0 c1 c2 c3
     go_wp2
     go_region_held3 (fun _ => True) (trivial)
      (first
       | (go_at_call 139; refine (hcon _).mono ?_; rintro e w' ⟨rfl,rfl⟩)
       | (refine step_append_lies _ (by rfl) _ _ _ (by rfl) (w.heap.size + 1) 99 i0 _ 2 16 Tryz.underlying40 hi0 hz0 hz1 hz2 rfl (by omega) u4 (n * nr + m) _ (by rfl) ((hown.alloc _).drew) ⟨wr.heap.size, 0,none⟩ 1 1 [.int .i64 (c : Int), .int .i64 (k : Int)] (by rfl) (by rfl) (World.news_of_block (cs := #[.int .i64 (c : Int), .int .i64 (k : Int)]) (t := 99) (fr := (0, 0)) (heap_alloc_new wr _)) (by simp [Value.oneCell']) (by omega) (by unfold maxLen; omega) (by omega) (by simp; omega) (wr.heap.size + 1) (by simp) ?_; intro gg cap w2 hown2 hgrow hat hlt3))
     go_wp2
     refine ⟨⟨m + 1,q + 1,by go_num,by show q + 1 = B + (m + 1); have := hq.out; omega,by omega, ?_, ?_⟩,by simp [intOf]; omega⟩
     ·rw [gridL_row,flatC_snoc, ← hp.out, ← hq.out]
      rw [HCE.out] at hown2
      exact hown2
     ·exact ((hBr.alloc (by omega) _).drew).grown hgrow (by simp; omega) (fun j hj => own_ge hown hj)
    ·have hmn : m = nr := by omega
     have hqD' : ¬ (q : Int) ≤ (D : Int) := by have := hq.out; have := HNR.out; omega
     have hown3 : wr.ownsRow (w.heap.size + 1) 99 2 u4 ((n + 1) * nr) (flatC (gridL k A B nr (n + 1) 0)) := by
      rw [gridL_col,Nat.add_mul,Nat.one_mul]; rw [hmn] at hown; exact hown
     clear hmn hown
     go_wp2
     go_roundw
     case rel => exact ⟨n + 1,p + 1,by go_num,by show p + 1 = A + (n + 1); have := hp.out; omega,by omega,hown3,hBr⟩
     case measure => simp [intOf]; omega
  ·have hnn : n = nc := by omega
   have hpC' : ¬ (p : Int) ≤ (C : Int) := by have := hp.out; have := HNC.out; omega
   have hL := length_gridL k A B nr nc 0
   rw [hnn] at hown
   obtain ⟨l,hl⟩ : ∃ l,gridL k A B nr nc 0 = l := ⟨_,rfl⟩
   rw [hl] at hown hL
   have HL : Hid (gridL k A B nr nc 0 = l) := hl
   have hlen : l.length = nc * nr := by omega
   have hpos : 0 < nc * nr := Nat.mul_pos (by have := HNC.out; omega) (by have := HNR.out; omega)
   have hsmall : nc * nr ≤ 4 := by have := Nat.mul_le_mul hnc2 hnr2; omega
   rw [← hlen] at hown hpos hsmall
   obtain ⟨_,⟨_,h0⟩ | ⟨g,cap,cur,hv,hbase,hblk,h1,h2,h3,h4⟩⟩ := hown
   ·omega
   ·subst hv
    have hcon := sort_any g 0 cap l.toArray wr (holds_of_row hblk h4) (Array.getElem?_eq_some_iff.1 hblk).1 (by simp; omega)
    simp only [List.size_toArray] at hcon
    have hg := (Array.getElem?_eq_some_iff.1 hblk).1
    have HBLK : Hid (wr.heap[g]? = some (.cells cur 99 (0, 0))) := hblk
    clear hblk h4 hlen hL hl hnn
    go_wp2_with (go_at_call 140; refine hcon.mono ?_; rintro e w' ⟨rfl,d',nn,os,hperm,hsort,hw'⟩)
    go_wp2
    go_ret
    obtain ⟨hpl,hpp⟩ := perm_of_permIn hperm
    have hle : (d'.toList).length = l.length := hpl
    have hBl : Below w.heap.size w wr := hBW.trans (hBr.mono (by omega))
    refine ⟨g,cap,k,d'.toList,by rw [hle]; rfl, ?_,⟨HK.out, ?_,sorted_of_sortedIn hpl hsort⟩,hBl.trans (below_sorted (by omega) hg)⟩
    ·rw [hle]
     have := row_sorted (n := nn) (os := os) (l := l) (l' := d'.toList) hle hbase HBLK.out h1 h2 h3
     simpa using this
    ·rw [HA.out,HB.out,HC.out,HD.out, ← HNR.out, ← HNC.out,HL.out]; exact hpp
end
section
theorem own_below {W W' : World} {base : Nat} {e : TypeId} {size : Nat} {v : Value} {n : Nat} {xs : List Value} (h : W.ownsRow base e size v n xs) (hb : Below W.heap.size W W') : W'.ownsRow base e size v n xs := by
 obtain ⟨h0,h1 | ⟨g,cap,cur,e1,e2,e3,e4⟩⟩ := h
 ·exact ⟨h0, .inl h1⟩
 ·exact ⟨h0, .inr ⟨g,cap,cur,e1,e2,(hb.block g (Array.getElem?_eq_some_iff.1 e3).1).trans e3,e4⟩⟩
theorem own_shape {W : World} {base : Nat} {e : TypeId} {size : Nat} {v : Value} {n : Nat} {xs : List Value} (h : W.ownsRow base e size v n xs) : ∃ a cap,v = .slice a n cap ∧ (a.isSome ∨ n = 0) ∧ n ≤ maxLen ∧ n ≤ cap := by
 obtain ⟨_,⟨rfl,rfl⟩ | ⟨g,cap,cur,rfl,_,_,h1,h2,_⟩⟩ := h
 ·exact ⟨none, 0,rfl, .inr rfl,by unfold maxLen; omega,by omega⟩
 ·exact ⟨_,cap,rfl, .inl rfl,Nat.le_trans h1 h2,h1⟩
theorem own_cell {W : World} {base : Nat} {e : TypeId} {size : Nat} {g n cap : Nat} {xs : List Value} (h : W.ownsRow base e size (.slice (some ⟨g, 0,none⟩) n cap) n xs) (t : Nat) (ht : t < n * size) : W.cell? ⟨g,t,none⟩ = xs[t]? ∧ W.frozen? ⟨g,t,none⟩ = false := by
 obtain ⟨_,⟨e1,_⟩ | ⟨g',cap',cur,e1,_,h1,_,_,_,h2⟩⟩ := h
 ·cases e1
 ·cases e1
  constructor
  ·have e : (cur.toList.take (n * size))[t]? = xs[t]? := by rw [h2]
   rw [List.getElem?_take_of_lt ht,Array.getElem?_toList] at e
   simp [World.cell?,h1,e]
  ·simp [World.frozen?,h1]
theorem own_lt {W : World} {base : Nat} {e : TypeId} {size : Nat} {g n cap : Nat} {xs : List Value} (h : W.ownsRow base e size (.slice (some ⟨g, 0,none⟩) n cap) n xs) : base ≤ g ∧ g < W.heap.size := by
 obtain ⟨_,⟨e1,_⟩ | ⟨g',cap',cur,e1,hb,h1,_,_,_,h2⟩⟩ := h
 ·cases e1
 ·cases e1; exact ⟨hb,(Array.getElem?_eq_some_iff.1 h1).1⟩
end
end Go.Proofs.YtdgbgmffpcooeaaGreat
namespace Go.Proofs.YtdgbgmffpcooeaaGreat
open Go.RowKit Go.Lib
section
theorem Blk.set {W : World} {B : Nat} {t : TypeId} {vs : Array Value} (h : Blk W B t vs) (i : Nat) (v : Value) : Blk (W.setCell ⟨B,i,none⟩ v) B t (vs.setIfInBounds i v) := by
 obtain ⟨hlt,hk⟩ := Array.getElem?_eq_some_iff.1 h
 show (W.heap.modify B _)[B]? = _
 rw [Array.getElem?_eq_getElem (by rw [Array.size_modify]; exact hlt),Array.getElem_modify_self,hk]
 rfl
theorem Blk.other {W : World} {B B' : Nat} {t : TypeId} {vs : Array Value} (h : Blk W B t vs) (hne : B ≠ B') (i : Nat) (v : Value) : Blk (W.setCell ⟨B',i,none⟩ v) B t vs := by
 show (W.setCell ⟨B',i,none⟩ v).heap[B]? = _
 rw [Below.heap_setCell W ⟨B',i,none⟩ v B hne]; exact h
theorem Blk.drew {W : World} {B : Nat} {t : TypeId} {vs : Array Value} (h : Blk W B t vs) : Blk W.drew B t vs := h
theorem run_append_old {P : Program} (w : World) (t ty : TypeId) (base : Nat) (e : TypeId) (i : TypeInfo) (z : Value) (size bytes : Nat) (ht : P.underlying t = some (.slice e)) (hi : P.info? e = some i) (hz : i.zero = some z)
  (hsize : i.size = size) (hby : i.bytes = bytes) (hzs : z.cells.size = size) (hsz : 0 < size)
  (v : Value) (n : Nat) (xs : List Value) (hown : w.ownsRow base e size v n xs)
  (ad : Addr) (m c : Nat) (news : List Value) (hl : news.length = m * size) (hnews : ∀ j u,news[j]? = some u → w.cell? (ad.add j) = some u) (h1 : ∀ u ∈ news,u.oneCell' = true)
  (hm : 0 < m) (h63 : n + m ≤ maxLen) (hbytes : (n + m) * bytes ≤ 140737488355328) (hbase : base ≤ w.heap.size) (H : Nat) (hH : w.heap.size = H) :
  ∃ g cap w',(Builtin.append_ #[t,t] ty #[v, .slice (some ad) m c]).run P w = .ok (.slice (some ⟨g, 0,none⟩) (n + m) cap) w' ∧
   w'.ownsRow base e size (.slice (some ⟨g, 0,none⟩) (n + m) cap) (n + m) (xs ++ news) ∧ w.grownBy w' v.ownBlock ∧ (v.ownBlock = some g ∨ g = H) ∧ g < w'.heap.size ∧
   ∀ j,v.ownBlock = some j → ∃ cur,w'.heap[j]? = some (.cells cur e (0, 0)) ∧ cur.toList.take (n * size) = xs := by
 obtain ⟨g,cap,w',hr,h2,h3,h4,h5⟩ := run_append_lies (P := P) w t ty base e i z size bytes ht hi hz hsize hby hzs hsz v n xs hown ad m c news hl hnews h1 hm h63 hbytes hbase H hH
 refine ⟨g,cap,w',hr,h2,h3,h4,h5,fun j hj => ?_⟩
 have hlen := hown.1
 obtain ⟨_,⟨e1,_⟩ | ⟨g0,cap0,cur0,e1,_,hb0,q1,q2,q3,q4⟩⟩ := hown
 ·rw [e1] at hj; cases hj
 ·rw [e1] at hj hr
  simp only [Value.ownBlock,Option.some.injEq] at hj
  rw [← hj]
  by_cases hroom : n + m ≤ cap0
  ·have hfit : n * i.size + news.length ≤ cur0.size := by rw [hl,q3,hsize, ← Nat.add_mul]; exact Nat.mul_le_mul_right _ hroom
   have hr2 := run_append_room (P := P) w t ty e i ht hi g0 n cap0 cur0 hb0 ad m c news (by rw [hsize]; exact hl) hnews h1 hroom hfit
   rw [hr2] at hr
   injection hr with hv hw
   rw [← hw]
   refine ⟨_,setRow_heap w g0 cur0 _ e _ hb0, ?_⟩
   rw [hsize,q4]
   simp only [List.append_assoc]
   rw [← hlen]
   exact List.take_left
  ·have holds : ∀ j u,xs[j]? = some u → w.cell? ((⟨g0, 0,none⟩ : Addr).add j) = some u := (show w.ownsRow base e size v n xs from ⟨hlen, .inr ⟨g0,cap0,cur0,e1, ‹_›,hb0,q1,q2,q3,q4⟩⟩).cells (g := g0) (by rw [e1]; rfl)
   have hr2 := run_append_grow (P := P) w t ty e i z ht hi hz ⟨g0, 0,none⟩ n cap0 xs (by rw [hsize]; exact hlen) holds ad m c news (by rw [hsize]; exact hl) hnews (by omega) (by unfold maxLen at h63; omega) (growslice_fits (by omega) (by rw [hby]; exact hbytes))
   rw [hr2] at hr
   injection hr with hv hw
   rw [← hw]
   exact ⟨cur0,(Below.heap_alloc w.drew _ g0 (Array.getElem?_eq_some_iff.1 hb0).1).trans hb0,q4⟩
theorem wpList_append_old {P : Program} (w : World) {ops : Array Oper} {rest : List Oper} {o : Oper} {a : Act} {Q : Exit → Act → World → Prop} (hgd : o.guard = none) (s x : Operand) (t : TypeId)
  (ho : o.op = .call { callee := .builtin .append,args := #[s,x],argTypes := #[t,t] })
  (base : Nat) (e : TypeId) (i : TypeInfo) (z : Value) (size bytes : Nat) (ht : P.underlying t = some (.slice e)) (hi : P.info? e = some i) (hz : i.zero = some z)
  (hsize : i.size = size) (hby : i.bytes = bytes) (hzs : z.cells.size = size) (hsz : 0 < size)
  (v : Value) (n : Nat) (xs : List Value) (hs : a.eval s = v) (hown : w.ownsRow base e size v n xs)
  (ad : Addr) (m c : Nat) (news : List Value) (hx : a.eval x = .slice (some ad) m c) (hl : news.length = m * size) (hnews : ∀ j u,news[j]? = some u → w.cell? (ad.add j) = some u) (h1 : ∀ u ∈ news,u.oneCell' = true)
  (hm : 0 < m) (h63 : n + m ≤ maxLen) (hbytes : (n + m) * bytes ≤ 140737488355328) (hbase : base ≤ w.heap.size) (H : Nat) (hH : w.heap.size = H)
  (h : ∀ g cap w',w'.ownsRow base e size (.slice (some ⟨g, 0,none⟩) (n + m) cap) (n + m) (xs ++ news) → w.grownBy w' v.ownBlock → (v.ownBlock = some g ∨ g = H) → g < w'.heap.size → (∀ j,v.ownBlock = some j → ∃ cur,w'.heap[j]? = some (.cells cur e (0, 0)) ∧ cur.toList.take (n * size) = xs) → wpList P ops Q rest (a.put o.dst (.slice (some ⟨g, 0,none⟩) (n + m) cap)) w') : wpList P ops Q (o :: rest) a w := by
 refine wpList_plain hgd fun K hK => ?_
 obtain ⟨g,cap,w',hr,h2,h3,h4,h5,h6⟩ := run_append_old (P := P) w t o.type base e i z size bytes ht hi hz hsize hby hzs hsz v n xs hown ad m c news hl hnews h1 hm h63 hbytes hbase H hH
 unfold Oper.wp execOp
 simp only [ho,resolve,invoke,builtin,Sem.run_bind,Sem.run_pure,Result.andThen_ok,List.map_toArray,List.map_cons,List.map_nil,hs,hx,hr]
 exact hK _ _ (h g cap w' h2 h3 h4 h5 h6)
theorem own_set {W : World} {base : Nat} {e : TypeId} {size g n cap : Nat} {xs : List Value} (h : W.ownsRow base e size (.slice (some ⟨g, 0,none⟩) n cap) n xs) (t : Nat) (u : Value) : (W.setCell ⟨g,t,none⟩ u).ownsRow base e size (.slice (some ⟨g, 0,none⟩) n cap) n (xs.set t u) := by
 obtain ⟨h0,⟨e1,_⟩ | ⟨g',cap',cur,e1,hb,h1,q1,q2,q3,q4⟩⟩ := h
 ·cases e1
 ·cases e1
  refine ⟨by rw [List.length_set]; exact h0, .inr ⟨g,cap,cur.setIfInBounds t u,rfl,hb,Blk.set h1 t u,q1,q2,by rw [Array.size_setIfInBounds]; exact q3, ?_⟩⟩
  rw [Array.toList_setIfInBounds,List.take_set,q4]
theorem own_tagged {W : World} {base : Nat} {e : TypeId} {size : Nat} {v : Value} {n : Nat} {xs : List Value} (h : W.ownsRow base e size v n xs) {j : Nat} (hj : v.ownBlock = some j) : base ≤ j ∧ ∃ cs,W.heap[j]? = some (.cells cs e (0, 0)) := by
 obtain ⟨_,⟨rfl,_⟩ | ⟨g,cap,cur,rfl,h1,h2,_⟩⟩ := h
 ·cases hj
 ·simp only [Value.ownBlock,Option.some.injEq] at hj
  subst hj; exact ⟨h1,cur,h2⟩
theorem own_other {W : World} {base : Nat} {e : TypeId} {size : Nat} {v : Value} {n : Nat} {xs : List Value} (h : W.ownsRow base e size v n xs) {B i : Nat} {cs : Array Value} {t : TypeId} {f : Nat × Nat} (hB : W.heap[B]? = some (.cells cs t f)) (ht : t ≠ e) (u : Value) : (W.setCell ⟨B,i,none⟩ u).ownsRow base e size v n xs := by
 obtain ⟨h0,h1 | ⟨g,cap,cur,e1,e2,e3,e4⟩⟩ := h
 ·exact ⟨h0, .inl h1⟩
 ·refine ⟨h0, .inr ⟨g,cap,cur,e1,e2,(Below.heap_setCell W ⟨B,i,none⟩ u g fun e => ?_).trans e3,e4⟩⟩
  simp only at e
  subst e
  rw [e3] at hB; cases hB; exact ht rfl
theorem own_far {W : World} {base : Nat} {e : TypeId} {size : Nat} {v : Value} {n : Nat} {xs : List Value} (h : W.ownsRow base e size v n xs) {B i : Nat} (hne : v.ownBlock ≠ some B) (u : Value) : (W.setCell ⟨B,i,none⟩ u).ownsRow base e size v n xs := by
 obtain ⟨h0,h1 | ⟨g,cap,cur,e1,e2,e3,e4⟩⟩ := h
 ·exact ⟨h0, .inl h1⟩
 ·refine ⟨h0, .inr ⟨g,cap,cur,e1,e2,(Below.heap_setCell W ⟨B,i,none⟩ u g fun e => ?_).trans e3,e4⟩⟩
  simp only at e
  subst e
  rw [e1] at hne; exact hne rfl
theorem Blk.grown {W W' : World} {B : Nat} {t : TypeId} {vs : Array Value} {row : Option Nat} (h : Blk W B t vs) (hg : W.grownBy W' row) (hr : ∀ j,row = some j → j ≠ B) : Blk W' B t vs := h.kept hg (fun e => hr B e.symm rfl)
theorem tag_ne {W : World} {B j : Nat} {t s : TypeId} {vs cs : Array Value} (h : Blk W B t vs) (hj : W.heap[j]? = some (.cells cs s (0, 0))) (hne : s ≠ t) : j ≠ B := fun e => by
 subst e; rw [show W.heap[j]? = _ from h] at hj; cases hj; exact hne rfl
structure Off (F : Nat → Prop) (W W' : World) : Prop where
 os : W'.os = W.os
 tape : W'.tape = W.tape
 output : W'.output = W.output
 size : W.heap.size ≤ W'.heap.size
 block : ∀ k,k < W.heap.size → ¬ F k → W'.heap[k]? = W.heap[k]?
theorem Off.refl (F : Nat → Prop) (W : World) : Off F W W := ⟨rfl,rfl,rfl,Nat.le_refl _,fun _ _ _ => rfl⟩
theorem Off.trans {F : Nat → Prop} {a b c : World} (h : Off F a b) (k : Off F b c) : Off F a c :=
 ⟨k.os.trans h.os,k.tape.trans h.tape,k.output.trans h.output,Nat.le_trans h.size k.size,fun i hi hf => (k.block i (Nat.lt_of_lt_of_le hi h.size) hf).trans (h.block i hi hf)⟩
theorem Off.mono {F G : Nat → Prop} {W W' : World} (h : Off F W W') (hg : ∀ k,k < W.heap.size → F k → G k) : Off G W W' := ⟨h.os,h.tape,h.output,h.size,fun k hk hf => h.block k hk (fun hF => hf (hg k hk hF))⟩
theorem Off.step {F G : Nat → Prop} {a b c : World} (h : Off F a b) (k : Off G b c) (hg : ∀ i,i < a.heap.size → G i → F i) : Off F a c :=
 ⟨k.os.trans h.os,k.tape.trans h.tape,k.output.trans h.output,Nat.le_trans h.size k.size,fun i hi hf => (k.block i (Nat.lt_of_lt_of_le hi h.size) (fun hG => hf (hg i hi hG))).trans (h.block i hi hf)⟩
theorem Off.of_below {F : Nat → Prop} {W W' : World} (h : Below W.heap.size W W') : Off F W W' := ⟨h.os,h.tape,h.output,h.size,fun k hk _ => h.block k hk⟩
theorem Off.below {F : Nat → Prop} {W W' : World} {n : Nat} (h : Off F W W') (hn : n ≤ W.heap.size) (hF : ∀ k,F k → n ≤ k) : Below n W W' :=
 ⟨h.os,h.tape,h.output,h.size,fun k hk => h.block k (Nat.lt_of_lt_of_le hk hn) (fun hf => by have := hF k hf; omega)⟩
theorem Off.setCell {F : Nat → Prop} {W0 W : World} (h : Off F W0 W) {B i : Nat} (u : Value) (hB : F B ∨ W0.heap.size ≤ B) : Off F W0 (W.setCell ⟨B,i,none⟩ u) :=
 ⟨h.os,h.tape,h.output,by simp [World.setCell]; exact h.size,fun k hk hf => (Below.heap_setCell W ⟨B,i,none⟩ u k (fun e => by
  simp only at e
  subst e
  rcases hB with g | g
  ·exact hf g
  ·omega)).trans (h.block k hk hf)⟩
theorem Off.drew {F : Nat → Prop} {W0 W : World} (h : Off F W0 W) : Off F W0 W.drew := ⟨h.os,h.tape,h.output,h.size,h.block⟩
theorem Off.alloc {F : Nat → Prop} {W0 W : World} (h : Off F W0 W) (o : Obj) : Off F W0 (W.alloc o) := h.trans (Off.of_below ((Below.refl _ W).alloc (Nat.le_refl _) o))
theorem Off.grown {F : Nat → Prop} {W0 W W' : World} {row : Option Nat} (h : Off F W0 W) (hg : W.grownBy W' row) (hr : ∀ j,row = some j → F j ∨ W0.heap.size ≤ j) : Off F W0 W' :=
 ⟨hg.os.trans h.os,hg.tape.trans h.tape,hg.output.trans h.output,Nat.le_trans h.size hg.size,fun k hk hf => (hg.block k (Nat.lt_of_lt_of_le hk h.size) (fun e => by
  rcases hr k e.symm with g | g
  ·exact hf g
  ·omega)).trans (h.block k hk hf)⟩
theorem Blk.off {F : Nat → Prop} {W W' : World} {B : Nat} {t : TypeId} {vs : Array Value} (h : Blk W B t vs) (ho : Off F W W') (hB : ¬ F B) : Blk W' B t vs := (ho.block B h.lt hB).trans h
def upd {α : Type} (f : Nat → α) (i : Nat) (b : α) : Nat → α := fun j => if j = i then b else f j
theorem upd_same {α : Type} (f : Nat → α) (i : Nat) (b : α) : upd f i b i = b := by simp [upd]
theorem upd_ne {α : Type} (f : Nat → α) {i j : Nat} (b : α) (h : j ≠ i) : upd f i b j = f j := by simp [upd,h]
structure KAt (w : World) (ak : Option Addr) (lk : Nat) (K : Nat → Int) : Prop where
 at_ : ∀ i,i < lk → ∃ a,ak = some a ∧ a.block < w.heap.size ∧ w.cell? (a.add i) = some (.int .i64 (K i))
def keptAt (K : Nat → Int) (k : Nat) (a : Nat) : Bool := (List.range k).any fun j => K j == (a : Int)
def rank (d : Nat → Bool) (t : Nat) : Nat := (List.range t).countP d
theorem rank_le (d : Nat → Bool) (t : Nat) : rank d t ≤ t := by
 have := List.countP_le_length (p := d) (l := List.range t)
 simpa [rank] using this
theorem info5 : (Tryz.prog.info? 5).map (fun i => (i.zero,i.size,i.bytes)) = some (some (.int .u8 0), 1, 1) := by kernel_rfl
theorem length_data (b : ByteArray) : b.data.toList.length = b.size := by rw [Array.length_toList]; rfl
def byteCells (l : List UInt8) : List Value := l.map fun b => .int .u8 b.toNat
def zeros (n : Nat) : ByteArray := ⟨(List.replicate n (0 : UInt8)).toArray⟩
theorem size_zeros (n : Nat) : (zeros n).size = n := by unfold zeros; show (List.replicate n (0 : UInt8)).toArray.size = n; simp
theorem own_mono {w : World} {base b' : Nat} {e : TypeId} {size : Nat} {v : Value} {n : Nat} {xs : List Value} (h : w.ownsRow base e size v n xs) (hb : b' ≤ base) : w.ownsRow b' e size v n xs := by
 obtain ⟨h0,h1 | ⟨g,cap,cur,e1,e2,e3⟩⟩ := h
 ·exact ⟨h0, .inl h1⟩
 ·exact ⟨h0, .inr ⟨g,cap,cur,e1,Nat.le_trans hb e2,e3⟩⟩
end
section
def LoopAt (l : Nat) (W : World) : Prop := ∃ r,W.heap[l]? = some (.loop r)
def Grow (M : Nat → Prop) (W W' : World) (k : Nat) : Prop := M k ∨ (W.heap.size ≤ k ∧ k < W'.heap.size)
theorem off_putObj (W : World) (l : Nat) (o : Obj) : Off (fun k => k = l) W (W.putObj l o) :=
 ⟨rfl,rfl,rfl,by simp [World.putObj],fun _ _ h => World.putObj_heap_other h⟩
theorem size_putObj (W : World) (l : Nat) (o : Obj) : (W.putObj l o).heap.size = W.heap.size := by simp [World.putObj]
def Tells {α : Type} (n : Nat) (P : Program) (g : Nat) (lb : Array Value) (encs : α → Array Value) (Fb M0 : Nat → Prop) (xs : List α) (Ed : World → Prop) (Es : Nat → World → Prop) (w : World) : Prop :=
 ∀ (l : Nat) (J : Nat → (Nat → Prop) → World → Prop) (Jx : Nat → World → Prop) (W : World),Below w.heap.size w W → LoopAt l W → w.heap.size ≤ l →
  (∀ i M X Y,J i M X → Off Fb X Y → J i M Y) → (∀ i X Y,Jx i X → Off Fb X Y → Jx i Y) →
  (∀ i x M W1,xs[i]? = some x → J i M W1 → YieldAt Fence.wide (n - 1) P l (encs x) W1 fun e W' =>
   Off (fun k => M k ∨ k = l) W1 W' ∧ LoopAt l W' ∧ ((e = .returned (.bool true) ∧ J (i + 1) (Grow M W1 W') W') ∨ (e = .returned (.bool false) ∧ Jx (i + 1) W'))) →
  J 0 M0 W →
  CallsIn Fence.wide n P g (#[.func (.yield l) #[] #[]] ++ lb) W fun e W' => (∃ v,e = .returned v) ∧ ((∃ M,J xs.length M W' ∧ Ed W') ∨ (∃ i, 1 ≤ i ∧ Jx i W' ∧ Es i W'))
def tellPost (M : Nat → Prop) (I : Nat → (Nat → Prop) → World → Prop) (Ix : Code → Nat → World → Prop) (i : Nat) (W : World) : Exit → Act → World → Prop
 | .normal,_,W' => Off M W W' ∧ I i (Grow M W W') W'
 | .ret,_,W' => Off M W W' ∧ Ix .ret i W'
 | .exit id,_,W' => Off M W W' ∧ Ix (.exit id) i W'
 | .goto t,_,W' => Off M W W' ∧ Ix (.goto t) i W'
 | .panic _,_,_ => False
 | .outgrown,_,_ => False
variable {n : Nat} {P : Program}
theorem wpIn_tells {α : Type} {g : Operand} {ps : Array Tmp} {assign body : Code} {Q : Exit → Act → World → Prop} {a : Act} {w : World}
  (h1 : 1 ≤ n) {gf : Nat} {lb : Array Value} (hg : a.eval g = .func (.func gf) #[] lb) (eg : ∀ args w,(callFunc gf args).run P w = .ok (.enter gf args) w)
  {encs : α → Array Value} {Fb M0 : Nat → Prop} {xs : List α} {Ed : World → Prop} {Es : Nat → World → Prop} (hseq : Tells (n - 1) P gf lb encs Fb M0 xs Ed Es w) (hps : ∀ x,(encs x).size = ps.size)
  (hFb : ∀ k,Fb k → k < w.heap.size) (hM0 : ∀ k,M0 k → k < w.heap.size)
  (I : Nat → (Nat → Prop) → World → Prop) (Ix : Code → Nat → World → Prop)
  (hI : ∀ i M X Y,I i M X → Off (fun k => Fb k ∨ k = w.heap.size + 1) X Y → I i M Y) (hIx : ∀ c i X Y,Ix c i X → Off (fun k => Fb k ∨ k = w.heap.size + 1) X Y → Ix c i Y)
  (hEd : ∀ X Y,Ed X → LoopAt (w.heap.size + 1) X → Off (fun k => k = w.heap.size + 1) X Y → Ed Y) (hEs : ∀ i X Y,Es i X → LoopAt (w.heap.size + 1) X → Off (fun k => k = w.heap.size + 1) X Y → Es i Y) (h0 : I 0 M0 w)
  (Ax : α → Act → World → Prop) (hAx : ∀ x a' X Y,Ax x a' X → Off (fun k => k = w.heap.size + 1) X Y → Ax x a' Y)
  (hassign : ∀ (l i : Nat) (x : α) (M : Nat → Prop) (W : World) (K : Act → World → Prop),xs[i]? = some x → I i M W → (∀ k,M k → k < W.heap.size) → w.heap.size + 1 < W.heap.size → (∀ a' W',Off M W W' → I i (Grow M W W') W' → Ax x a' W' → K a' W') →
   assign.wpIn (Fence.wide.inRound l) (n - 1 - 1) P (Exit.then K (fun _ _ _ => False)) { tmps := (ps.zip (encs x)).foldl (fun t (p,v) => t.setIfInBounds p v) a.tmps,defers := [] } W)
  (hbody : ∀ (l i : Nat) (x : α) (M : Nat → Prop) (a' : Act) (W : World),xs[i]? = some x → I i M W → Ax x a' W → (∀ k,M k → k < W.heap.size) → w.heap.size + 1 < W.heap.size → body.wpIn (Fence.wide.inRound l) (n - 1 - 1) P (tellPost M I Ix (i + 1) W) a' W)
  (hdone : ∀ (M : Nat → Prop) (W : World),I xs.length M W → Ed W → W.heap[w.heap.size]? = some (.deferred (some [])) → Q .normal { a with defers := { target := .collected w.heap.size,args := #[] } :: a.defers } W)
  (hstop : ∀ (c : Code) (i : Nat) (W : World), 1 ≤ i → Ix c i W → Es i W → W.heap[w.heap.size]? = some (.deferred (some [])) → c.wpIn Fence.wide n P Q { a with defers := { target := .collected w.heap.size,args := #[] } :: a.defers } W) :
  (Code.rangeFunc g ps assign body).wpIn Fence.wide n P Q a w := by
 refine wpIn_rangeFunc ?_
 intro fn hfn
 rw [show (Fence.wide).round = none from rfl]
 obtain ⟨rec,hrec⟩ : ∃ rec : LoopState → Option Code → Loop,rec = fun st pe => { state := st,pending := pe,fn,tmps := a.tmps,params := ps,assign,body,defers := w.heap.size } := ⟨_,rfl⟩
 obtain ⟨W1,hW1⟩ : ∃ W1,(w.alloc (.deferred (some []))).alloc (.loop (rec .ready none)) = W1 := ⟨_,rfl⟩
 have hL1 : W1.heap[w.heap.size + 1]? = some (.loop (rec .ready none)) := by
  rw [← hW1]; have := World.alloc_heap_new (w.alloc (.deferred (some []))) (.loop (rec .ready none)); rwa [World.size_alloc] at this
 have hK1 : W1.heap[w.heap.size]? = some (.deferred (some [])) := by
  rw [← hW1]; exact (Below.heap_alloc _ _ _ (by simp)).trans (World.alloc_heap_new w _)
 have hsz1 : W1.heap.size = w.heap.size + 2 := by rw [← hW1]; simp
 have hb1 : Below w.heap.size w W1 := by
  rw [← hW1]; exact ((Below.refl _ w).alloc (Nat.le_refl _) _).alloc (by simp) _
 have hI1 : I 0 M0 W1 := hI 0 M0 w W1 h0 (Off.of_below hb1)
 refine ⟨w.heap.size + 1, [{ target := .collected w.heap.size,args := #[] }],W1, { target := .fn (.func gf) lb,args := #[.func (.yield (w.heap.size + 1)) #[] #[]] },W1,gf,
  #[.func (.yield (w.heap.size + 1)) #[] #[]] ++ lb,W1, ?_, ?_, ?_, ?_,fun _ => h1, ?_⟩
 ·rw [← hW1,hrec]; exact run_enterLoop_outer _ _ _ _ _
 ·simp only [resolve,hg]
  simp [go_sem]
 ·intro f' _; trivial
 ·simp [invoke,go_sem,eg]
 ·refine (hseq (w.heap.size + 1)
   (fun i M W => I i M W ∧ ((∀ k,M k → k < W.heap.size) ∧ ¬ M w.heap.size ∧ ¬ M (w.heap.size + 1)) ∧ W.heap[w.heap.size + 1]? = some (.loop (rec .ready none)) ∧ W.heap[w.heap.size]? = some (.deferred (some [])))
   (fun i W => ∃ c,Ix c i W ∧ W.heap[w.heap.size + 1]? = some (.loop (rec .done (some c))) ∧ W.heap[w.heap.size]? = some (.deferred (some [])))
   W1 hb1 ⟨_,hL1⟩ (by omega) ?_ ?_ ?_ ⟨hI1,⟨fun k hk => by have := hM0 k hk; omega,fun hk => by have := hM0 _ hk; omega,fun hk => by have := hM0 _ hk; omega⟩,hL1,hK1⟩).mono ?_
  ·rintro i M X Y ⟨a1,⟨a2,a3,a4⟩,a5,a6⟩ ho
   have l5 := (Array.getElem?_eq_some_iff.1 a5).1
   have hs := ho.size
   exact ⟨hI i M X Y a1 (ho.mono fun k _ h => .inl h),⟨fun k hk => by have := a2 k hk; omega,a3,a4⟩,(ho.block _ l5 (fun h => by have := hFb _ h; omega)).trans a5,(ho.block _ (by omega) (fun h => by have := hFb _ h; omega)).trans a6⟩
  ·rintro i X Y ⟨c,a1,a5,a6⟩ ho
   have l5 := (Array.getElem?_eq_some_iff.1 a5).1
   exact ⟨c,hIx c i X Y a1 (ho.mono fun k _ h => .inl h),(ho.block _ l5 (fun h => by have := hFb _ h; omega)).trans a5,(ho.block _ (by omega) (fun h => by have := hFb _ h; omega)).trans a6⟩
  ·rintro i x M W hx ⟨hi,⟨hM,hMd,hMl⟩,hl,hk⟩
   have hlt : w.heap.size + 1 < W.heap.size := (Array.getElem?_eq_some_iff.1 hl).1
   have hy := run_yield (P := P) (args := encs x) hl (by rw [hrec]; exact hps x)
   rw [hrec] at hy
   refine ⟨fn,_,assign,body,hy,roundIn_of_wpIn hfn (hassign _ i x M W _ hx hi hM hlt ?_)⟩
   clear hy
   intro a' Wa hoa hia hax
   have hla := (hoa.block _ hlt hMl).trans hl
   have hka := (hoa.block _ (by omega) hMd).trans hk
   have hsa := hoa.size
   have hlta : w.heap.size + 1 < Wa.heap.size := by omega
   refine ⟨_,run_beginRound hla (by rw [hrec]), ?_⟩
   obtain ⟨W2,hW2⟩ : ∃ W2,Wa.putObj (w.heap.size + 1) (.loop { rec .ready none with state := .busy }) = W2 := ⟨_,rfl⟩
   have ho2 : Off (fun k => k = w.heap.size + 1) Wa W2 := by rw [← hW2]; exact off_putObj _ _ _
   have hsz2 : W2.heap.size = Wa.heap.size := by rw [← hW2]; exact size_putObj _ _ _
   have hl2 : W2.heap[w.heap.size + 1]? = some (.loop { rec .ready none with state := .busy }) := by rw [← hW2]; exact World.putObj_heap_same hlta
   have hk2 : W2.heap[w.heap.size]? = some (.deferred (some [])) := (ho2.block _ (by omega) (by omega)).trans hka
   rw [hW2]
   clear hW2
   have hMl1 : ¬ Grow M W Wa (w.heap.size + 1) := fun h => h.elim hMl (fun h => by omega)
   have hMd1 : ¬ Grow M W Wa w.heap.size := fun h => h.elim hMd (fun h => by omega)
   refine wpIn_mono (hbody _ i x (Grow M W Wa) a' W2 hx (hI i _ Wa W2 hia (ho2.mono fun k _ h => .inr h)) (hAx x a' Wa W2 hax ho2) (fun k hk => hk.elim (fun h => by have := hM k h; omega) (fun h => by omega)) (by omega)) ?_
   have fin : ∀ (jump : Option Code) (W3 : World),Off (Grow M W Wa) W2 W3 → ∃ W4,(Instr.endRound (w.heap.size + 1) jump).run P W3 = .ok (.bool jump.isNone) W4 ∧ W4.heap[w.heap.size + 1]? = some (.loop (rec (if jump.isNone then .ready else .done) jump)) ∧ W4.heap[w.heap.size]? = some (.deferred (some [])) ∧ Off (fun k => k = w.heap.size + 1) W3 W4 ∧ W4.heap.size = W3.heap.size ∧ Off (fun k => M k ∨ k = w.heap.size + 1) W W4 ∧ Grow (Grow M W Wa) W2 W3 = Grow M W W4 := fun jump W3 ho3 => by
    have hl3 := (ho3.block _ (by omega) hMl1).trans hl2
    have hk3 := (ho3.block _ (by omega) hMd1).trans hk2
    have hs3 := ho3.size
    have := run_endRound (P := P) jump hl3
    refine ⟨_,this, ?_, ?_,off_putObj _ _ _,size_putObj _ _ _, ?_, ?_⟩
    ·rw [hrec]; exact World.putObj_heap_same (Array.getElem?_eq_some_iff.1 hl3).1
    ·exact (World.putObj_heap_other (by omega)).trans hk3
    ·refine ((((hoa.mono fun k _ h => .inl h).step ho2 fun k _ h => .inr h).step ho3 fun k hk h => ?_).step (off_putObj _ _ _) fun k _ h => .inr h)
     exact .inl (h.elim id (fun h => by omega))
    ·funext k
     refine propext ⟨fun h => ?_,fun h => ?_⟩
     ·rcases h with (h | h) | h
      ·exact .inl h
      ·exact .inr ⟨h.1,by rw [size_putObj]; omega⟩
      ·exact .inr ⟨by omega,by rw [size_putObj]; omega⟩
     ·rcases h with h | h
      ·exact .inl (.inl h)
      ·rw [size_putObj] at h
       by_cases hk : k < Wa.heap.size
       ·exact .inl (.inr ⟨h.1,hk⟩)
       ·exact .inr ⟨by omega,h.2⟩
   rintro e a3 W3 hp
   cases e with
   | normal =>
    obtain ⟨ho3,hi3⟩ := hp
    obtain ⟨W4,hr,hl4,hk4,ho4,hs4,ho5,hgr⟩ := fin none W3 ho3
    rw [hgr] at hi3
    have hs3 := ho3.size
    refine ⟨_,W4,hr,ho5,⟨_,hl4⟩, .inl ⟨rfl,hI _ _ W3 W4 hi3 (ho4.mono fun k _ h => .inr h),⟨fun k hk => ?_,fun h => h.elim hMd (fun h => by omega),fun h => h.elim hMl (fun h => by omega)⟩,hl4,hk4⟩⟩
    rcases hk with hk | hk
    ·have := hM k hk; omega
    ·exact hk.2
   | ret =>
    obtain ⟨ho3,hi3⟩ := hp
    obtain ⟨W4,hr,hl4,hk4,ho4,hs4,ho5,hgr⟩ := fin (some .ret) W3 ho3
    exact ⟨_,W4,hr,ho5,⟨_,hl4⟩, .inr ⟨rfl, .ret,hIx _ _ W3 W4 hi3 (ho4.mono fun k _ h => .inr h),hl4,hk4⟩⟩
   | exit id =>
    obtain ⟨ho3,hi3⟩ := hp
    obtain ⟨W4,hr,hl4,hk4,ho4,hs4,ho5,hgr⟩ := fin (some (.exit id)) W3 ho3
    exact ⟨_,W4,hr,ho5,⟨_,hl4⟩, .inr ⟨rfl, .exit id,hIx _ _ W3 W4 hi3 (ho4.mono fun k _ h => .inr h),hl4,hk4⟩⟩
   | goto t =>
    obtain ⟨ho3,hi3⟩ := hp
    obtain ⟨W4,hr,hl4,hk4,ho4,hs4,ho5,hgr⟩ := fin (some (.goto t)) W3 ho3
    exact ⟨_,W4,hr,ho5,⟨_,hl4⟩, .inr ⟨rfl, .goto t,hIx _ _ W3 W4 hi3 (ho4.mono fun k _ h => .inr h),hl4,hk4⟩⟩
   | panic ch => exact hp.elim
   | outgrown => exact hp.elim
  ·rintro e W2 ⟨⟨v,rfl⟩,(⟨M,⟨hi,_,hl,hk⟩,hE2⟩ | ⟨i,hi1,⟨c,hi,hl,hk⟩,hE2⟩)⟩
   ·refine ⟨none,_,by have := run_endLoop (P := P) hl (by rw [hrec]; simp); rw [hrec] at this; exact this,hdone M _ (hI _ _ _ _ hi ((off_putObj _ _ _).mono fun k _ h => .inr h)) (hEd _ _ hE2 ⟨_,hl⟩ (off_putObj _ _ _)) ((World.putObj_heap_other (by omega)).trans hk)⟩
   ·refine ⟨some c,_,by have := run_endLoop (P := P) hl (by rw [hrec]; simp); rw [hrec] at this; exact this,hstop c i _ hi1 (hIx _ _ _ _ hi ((off_putObj _ _ _).mono fun k _ h => .inr h)) (hEs _ _ _ hE2 ⟨_,hl⟩ (off_putObj _ _ _)) ((World.putObj_heap_other (by omega)).trans hk)⟩
end
end Go.Proofs.YtdgbgmffpcooeaaGreat
