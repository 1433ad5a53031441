/- What the sort of cells does: a row of at most twelve cells holds them by rising codes afterwards. -/
import Derived.Test.YtdgbgmffpcooeaaW3
import Derived.Test.YtdgbgmffpcooeaaSort
namespace Go.Proofs.Ytdgbgmffpcooeaa
open Go.RowKit Go.Shelf Go.Lib Go.Sort

def encC (x : Nat × Nat) : List Value := [.int .i64 (x.1 : Int), .int .i64 (x.2 : Int)]
def cmpC (x y : Nat × Nat) : Int := if x.1 < y.1 then -1 else if y.1 < x.1 then 1 else 0

set_option maxHeartbeats 400000 in
theorem compare_any (x y : Nat × Nat) (w : World) : Calls Try.prog 59 #[.int .i64 (x.1 : Int), .int .i64 (y.1 : Int)] w fun e w' => e = .returned (.int .i64 (cmpC x y)) ∧ w' = w := by
  rcases Nat.lt_trichotomy x.1 y.1 with h | h | h
  · have h1 : (x.1 : Int) < (y.1 : Int) := by omega
    have e : cmpC x y = -1 := by unfold cmpC; rw [if_pos h]
    rw [e]; clear e
    go_enter Try.func59, Try.ntmps59
    go_wp2
    go_ret
    exact ⟨rfl, rfl⟩
  · have h1 : ¬ (x.1 : Int) < (y.1 : Int) := by omega
    have h2 : ¬ (y.1 : Int) < (x.1 : Int) := by omega
    have e : cmpC x y = 0 := by unfold cmpC; rw [if_neg (by omega), if_neg (by omega)]
    rw [e]; clear e h
    go_enter Try.func59, Try.ntmps59
    go_wp2
    go_ret
    exact ⟨rfl, rfl⟩
  · have h1 : ¬ (x.1 : Int) < (y.1 : Int) := by omega
    have h2 : (y.1 : Int) < (x.1 : Int) := by omega
    have e : cmpC x y = 1 := by unfold cmpC; rw [if_neg (by omega), if_pos (by omega)]
    rw [e]; clear e h
    go_enter Try.func59, Try.ntmps59
    go_wp2
    go_ret
    exact ⟨rfl, rfl⟩

set_option maxHeartbeats 1000000 in
theorem closure_any (x y : Nat × Nat) (W : World) : Calls Try.prog 58 #[.agg #[.int .i64 (x.1 : Int), .int .i64 (x.2 : Int)], .agg #[.int .i64 (y.1 : Int), .int .i64 (y.2 : Int)]] W fun e w' => e = .returned (.int .i64 (cmpC x y)) ∧ ∃ q os', w' = grow (W.drewN q) os' := by
  have hcon := fun W' => compare_any x y W'
  generalize cmpC x y = r at hcon ⊢
  go_enter Try.func58, Try.ntmps58
  go_wp2_with (go_at_call 59; refine (hcon _).mono ?_; rintro e w' ⟨rfl, rfl⟩)
  go_ret
  exact ⟨rfl, 0, _, by rw [alloc_eq_grow, alloc_eq_grow, grow_grow]; rfl⟩

theorem cmpLays_any (blk off size : Nat) (w : World) : CmpLays Try.prog 58 #[] encC 2 cmpC blk off size w :=
  fun _ _ _ _ x y => closure_any x y _

set_option maxHeartbeats 1000000 in
theorem len_any (n : Nat) (W : World) (h : n ≤ 12) : Calls Try.prog 73 #[.int .u64 n] W fun e w' => (∃ l : Int, e = .returned (.int .i64 l)) ∧ w' = W := by
  have : n = 0 ∨ n = 1 ∨ n = 2 ∨ n = 3 ∨ n = 4 ∨ n = 5 ∨ n = 6 ∨ n = 7 ∨ n = 8 ∨ n = 9 ∨ n = 10 ∨ n = 11 ∨ n = 12 := by omega
  rcases this with rfl | rfl | rfl | rfl | rfl | rfl | rfl | rfl | rfl | rfl | rfl | rfl | rfl
  all_goals
    go_enter Try.func73, Try.ntmps73
    go_wp2
    go_ret
    exact ⟨⟨_, rfl⟩, rfl⟩

theorem ltC (x y : Nat × Nat) : ltOf cmpC x y = decide (x.1 < y.1) := by
  unfold ltOf cmpC
  rw [decide_eq_decide]
  split
  · simp; assumption
  · split <;> simp <;> omega
theorem swoC : SWO (ltOf cmpC) := by
  refine ⟨fun x => ?_, fun x y z h1 h2 => ?_, fun x y z h1 h2 => ?_⟩
  · rw [ltC]; simp
  · rw [ltC, decide_eq_true_iff] at h1 h2 ⊢; omega
  · rw [ltC, decide_eq_false_iff_not] at h1 h2 ⊢; omega

theorem sort_any (blk off cap : Nat) (d : Array (Nat × Nat)) (w : World) (hH : HoldsK encC 2 w blk off d) (hblk : blk < w.heap.size) (h12 : d.size ≤ 12) :
    Calls Try.prog 57 #[.slice (some ⟨blk, off, none⟩) d.size cap, .func (.func 58) #[] #[]] w fun e w' => e = .returned (.tuple #[]) ∧ ∃ d' n os, PermIn 0 d.size d d' ∧ SortedIn (ltOf cmpC) 0 d.size d' ∧ w' = sortWorldK encC 2 w blk off n d' os :=
  AnyQ.slices_SortFunc_small_sorted Try.sortCell 2 Try.isAgg34 Try.sizeOf34 encC (fun _ => rfl) (fun x v hv => by simp [encC] at hv; rcases hv with rfl | rfl <;> rfl) cmpC 58 #[] swoC blk off cap d w (enters_of Try.func58 (by kernel_rfl) rfl) (cmpLays_any blk off d.size w) hH hblk h12 len_any

/-- A row of cells, laid flat. -/
def flatC (l : List (Nat × Nat)) : List Value := l.flatMap encC
theorem flatC_nil : flatC [] = [] := rfl
theorem flatC_snoc (l : List (Nat × Nat)) (x : Nat × Nat) : flatC (l ++ [x]) = flatC l ++ [.int .i64 (x.1 : Int), .int .i64 (x.2 : Int)] := by simp [flatC, encC]
theorem length_flatC (l : List (Nat × Nat)) : (flatC l).length = l.length * 2 := by
  induction l with
  | nil => rfl
  | cons x r ih => show (encC x ++ flatC r).length = _; rw [List.length_append, ih]; simp [encC]; omega
theorem get_flatC : ∀ (l : List (Nat × Nat)) (t : Nat), (flatC l)[t]? = (l[t / 2]?).bind fun x => (encC x)[t % 2]?
  | [], t => by simp [flatC]
  | x :: r, 0 => rfl
  | x :: r, 1 => rfl
  | x :: r, t + 2 => by
    show (encC x ++ flatC r)[t + 2]? = _
    rw [show t + 2 = (encC x).length + t by simp only [encC, List.length_cons, List.length_nil]; omega, List.getElem?_append_right (by omega), show (encC x).length + t - (encC x).length = t by omega, get_flatC r t, show ((encC x).length + t) / 2 = t / 2 + 1 by simp only [encC, List.length_cons, List.length_nil]; omega, show ((encC x).length + t) % 2 = t % 2 by simp only [encC, List.length_cons, List.length_nil]; omega]
    simp
theorem flatK_flatC (l : List (Nat × Nat)) : (flatK encC 2 l.toArray).toList = flatC l := by
  apply List.ext_getElem?
  intro t
  rw [get_flatC]
  by_cases h : t < l.length * 2
  · have hl : t / 2 < l.length := by omega
    have h2 : t % 2 < 2 := by omega
    rw [List.getElem?_eq_getElem (l := l) hl]
    simp only [flatK, Array.toList_map, Array.toList_range, List.getElem?_map, List.size_toArray]
    rw [List.getElem?_range h]
    simp only [Option.map_some, Option.bind_some]
    have e : (l.toArray[t / 2]! : Nat × Nat) = l[t / 2] := by simp [hl]
    rw [e]
    rcases (show t % 2 = 0 ∨ t % 2 = 1 by omega) with g | g <;> rw [g] <;> rfl
  · rw [List.getElem?_eq_none (by simp [flatK]; omega), List.getElem?_eq_none (l := l) (by omega)]; rfl

theorem holds_of_row {w : World} {g : Nat} {cur : Array Value} {e : TypeId} {l : List (Nat × Nat)} (hb : w.heap[g]? = some (.cells cur e (0, 0))) (ht : cur.toList.take (l.length * 2) = flatC l) : HoldsK encC 2 w g 0 l.toArray := by
  intro j hj
  have hj' : j < l.length * 2 := by simpa using hj
  refine ⟨?_, by simp [World.frozen?, hb]⟩
  have h1 : (cur.toList.take (l.length * 2))[j]? = (flatC l)[j]? := by rw [ht]
  rw [List.getElem?_take_of_lt hj', ← flatK_flatC] at h1
  simp only [World.cell?, hb, Nat.zero_add]
  simp only [Option.isSome_none, Bool.false_eq_true, if_false]
  rw [← Array.getElem?_toList, h1]
  rw [Array.getElem?_toList, Array.getElem?_eq_getElem hj, getElem!_pos (flatK encC 2 l.toArray) j hj]; rfl

theorem row_sorted {w : World} {base g cap n : Nat} {e : TypeId} {os : Array Obj} {cur : Array Value} {l l' : List (Nat × Nat)} (hl : l'.length = l.length) (hbase : base ≤ g) (hb : w.heap[g]? = some (.cells cur e (0, 0)))
    (h1 : l.length ≤ cap) (h2 : cap ≤ maxLen) (h3 : cur.size = cap * 2) :
    (sortWorldK encC 2 w g 0 n l'.toArray os).ownsRow base e 2 (.slice (some ⟨g, 0, none⟩) l.length cap) l.length (flatC l') := by
  have hg : g < w.heap.size := (Array.getElem?_eq_some_iff.1 hb).1
  have hheap : (sortWorldK encC 2 w g 0 n l'.toArray os).heap[g]? = some (.cells (putCells id 0 (flatK encC 2 l'.toArray) cur) e (0, 0)) := by
    unfold sortWorldK putRowK
    rw [heap_grow_old _ _ (by simpa using hg)]
    simp [putRow, mapBlock, Sort.ahead, Array.getElem?_modify, hb, onCells]
  refine ⟨by rw [length_flatC, hl], .inr ⟨g, cap, _, rfl, hbase, hheap, h1, h2, by simp [putCells, h3], ?_⟩⟩
  rw [← flatK_flatC]
  have hsz : (flatK encC 2 l'.toArray).size = l.length * 2 := by simp [hl]
  apply List.ext_getElem?
  intro j
  by_cases hj : j < l.length * 2
  · rw [List.getElem?_take_of_lt hj, Array.getElem?_toList]
    have h5 : j < cur.size := by rw [h3]; have := Nat.mul_le_mul_right 2 h1; omega
    simp only [putCells]
    simp [h5, hl, hj]
  · rw [List.getElem?_take_eq_none (by omega), List.getElem?_eq_none (by rw [Array.length_toList, hsz]; omega)]
theorem below_sorted {w : World} {g n m : Nat} {os : Array Obj} {d : Array (Nat × Nat)} (hm : m ≤ g) (hg : g < w.heap.size) : Go.RowKit.Below m w (sortWorldK encC 2 w g 0 n d os) := by
  refine ⟨rfl, rfl, rfl, by simp [sortWorldK, putRowK], fun k hk => ?_⟩
  unfold sortWorldK putRowK
  rw [heap_grow_old _ _ (by simp; omega)]
  have : g ≠ k := by omega
  simp [putRow, mapBlock, Sort.ahead, Array.getElem?_modify, this]
end Go.Proofs.Ytdgbgmffpcooeaa
