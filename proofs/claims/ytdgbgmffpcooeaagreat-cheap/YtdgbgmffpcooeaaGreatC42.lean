/- Ck1 Ck2 -/
import Derived.Test.YtdgbgmffpcooeaaGreatC37
import Derived.Test.YtdgbgmffpcooeaaGreatC41
import Derived.Shelf.SlSortCmp.NoneTotal
import Derived.Shelf.SlicesQ.Equal
section
/- Rows of entries are sorted by their keys, and compared. -/
namespace Go.Proofs.YtdgbgmffpcooeaaGreat
open Go.RowKit Go.Shelf Go.Lib Go.Sort
abbrev Ent := Key × Box
instance : Inhabited Ent := ⟨((0, 0), zeroBox)⟩
def cmpE (x y : Ent) : Int := cmpK x.1 y.1
set_option maxRecDepth 100000 in
set_option maxHeartbeats 1000000 in
theorem kcmp_grow (a b : Key) (w : World) :
    Calls Tryz.prog 104 #[.agg #[.int .i64 a.1, .int .i64 a.2], .agg #[.int .i64 b.1, .int .i64 b.2]] w fun e w' => e = .returned (.int .i64 (cmpK a b)) ∧ ∃ q os', w' = grow (w.drewN q) os' := by
  have hb1 := (Blk.new w 154 #[.int .i64 a.1, .int .i64 a.2]).alloc (.cells #[.int .i64 b.1, .int .i64 b.2] 154)
  have hb2 := Blk.new (w.alloc (.cells #[.int .i64 a.1, .int .i64 a.2] 154)) 154 #[.int .i64 b.1, .int .i64 b.2]
  rw [World.size_alloc] at hb2
  have hs := scmp_any a b _ w.heap.size (w.heap.size + 1) (hb1.drew.cell 0) (hb1.drew.cell 1) (hb2.drew.cell 0) (hb2.drew.cell 1)
  go_enter Tryz.func104, Tryz.ntmps104
  go_wp2
  go_region_held3 (fun _ => True) (trivial) ((go_at_call 135; refine hs.mono ?_; rintro e w' ⟨rfl, rfl⟩))
  all_goals
    go_wp2
    go_ret
    exact ⟨rfl, 1, _, by rw [alloc_eq_grow, alloc_eq_grow, grow_grow]; rfl⟩
set_option maxRecDepth 100000 in
set_option maxHeartbeats 1000000 in
theorem closureE_any (x y : Ent) (W : World) : Calls Tryz.prog 103 #[.agg (entC x).toArray, .agg (entC y).toArray] W fun e w' => e = .returned (.int .i64 (cmpE x y)) ∧ ∃ q os', w' = grow (W.drewN q) os' := by
  have hcon := fun W' => kcmp_grow x.1 y.1 W'
  unfold cmpE entC
  generalize cmpK x.1 y.1 = r at hcon ⊢
  go_enter Tryz.func103, Tryz.ntmps103
  go_wp2_with (go_at_call 104; refine (hcon _).mono ?_; rintro e w' ⟨rfl, q, os', rfl⟩)
  go_ret
  exact ⟨rfl, q, _, by rw [alloc_eq_grow, alloc_eq_grow, grow_grow, show ∀ (X : World) os, (grow X os).drewN q = grow (X.drewN q) os from fun _ _ => rfl, grow_grow]⟩
theorem cmpLaysE (blk off size : Nat) (w : World) : CmpLays Tryz.prog 103 #[] entC 6 cmpE blk off size w :=
  fun _ _ _ _ x y => closureE_any x y _
theorem ltE (x y : Ent) : ltOf cmpE x y = decide (klt x.1 y.1) := by
  unfold ltOf cmpE
  rw [decide_eq_decide]; exact cmpK_neg _ _
theorem swoE : SWO (ltOf cmpE) := by
  refine ⟨fun x => ?_, fun x y z h1 h2 => ?_, fun x y z h1 h2 => ?_⟩
  · rw [ltE]; simp [klt]
  · rw [ltE, decide_eq_true_iff] at h1 h2 ⊢; unfold klt at h1 h2 ⊢; omega
  · rw [ltE, decide_eq_false_iff_not] at h1 h2 ⊢; unfold klt at h1 h2 ⊢; omega
theorem sortE_any (blk off cap : Nat) (d : Array Ent) (w : World) (hH : HoldsK entC 6 w blk off d) (hblk : blk < w.heap.size) (hd : d.size < 4611686018427387904) :
    Calls Tryz.prog 102 #[.slice (some ⟨blk, off, none⟩) d.size cap, .func (.func 103) #[] #[]] w fun e w' => e = .returned (.tuple #[]) ∧ ∃ d' n os, PermIn 0 d.size d d' ∧ SortedIn (ltOf cmpE) 0 d.size d' ∧ w' = sortWorldK entC 6 w blk off n d' os :=
  AnyQ.slices_SortFunc Tryz.sortEnt 6 Tryz.isAgg156 Tryz.sizeOf156 entC (fun _ => rfl) (fun x v hv => by simp [entC] at hv; rcases hv with rfl | rfl | rfl | rfl | rfl | rfl <;> rfl) cmpE swoE 103 #[] blk off cap d w (enters_of Tryz.func103 (by kernel_rfl) rfl) (cmpLaysE blk off d.size w) hH hblk hd
theorem flatK_flatE (l : List Ent) : (flatK entC 6 l.toArray).toList = flat pkR l := by
  apply List.ext_getElem?
  intro t
  by_cases h : t < l.length * 6
  · have hl : t / 6 < l.length := by omega
    have h2 : t % 6 < 6 := by omega
    have hg := flat_get pkR (r := l) (List.getElem?_eq_getElem hl) (t % 6) h2
    rw [show t / 6 * pkR.k + t % 6 = t by show t / 6 * 6 + t % 6 = t; omega] at hg
    rw [hg]
    simp only [flatK, Array.toList_map, Array.toList_range, List.getElem?_map, List.size_toArray]
    rw [List.getElem?_range h]
    simp only [Option.map_some]
    have e : (l.toArray[t / 6]! : Ent) = l[t / 6] := by simp [hl]
    rw [e]
    show _ = (entC _)[t % 6]?
    rw [List.getElem?_eq_getElem (by simpa [entC] using h2), getElem!_pos (entC l[t / 6]) (t % 6) (by simpa [entC] using h2)]
  · rw [List.getElem?_eq_none (by simp [flatK]; omega), List.getElem?_eq_none (by rw [flat_length]; show l.length * 6 ≤ t; omega)]
theorem holdsE {w : World} {g : Nat} {cur : Array Value} {e : TypeId} {l : List Ent} (hb : w.heap[g]? = some (.cells cur e (0, 0))) (ht : cur.toList.take (l.length * 6) = flat pkR l) : HoldsK entC 6 w g 0 l.toArray := by
  intro j hj
  have hj' : j < l.length * 6 := by simpa using hj
  refine ⟨?_, by simp [World.frozen?, hb]⟩
  have h1 : (cur.toList.take (l.length * 6))[j]? = (flat pkR l)[j]? := by rw [ht]
  rw [List.getElem?_take_of_lt hj', ← flatK_flatE] at h1
  simp only [World.cell?, hb, Nat.zero_add]
  simp only [Option.isSome_none, Bool.false_eq_true, if_false]
  rw [← Array.getElem?_toList, h1]
  rw [Array.getElem?_toList, Array.getElem?_eq_getElem hj, getElem!_pos (flatK entC 6 l.toArray) j hj]; rfl
theorem rowE_sorted {w : World} {base g cap n : Nat} {e : TypeId} {os : Array Obj} {cur : Array Value} {l l' : List Ent} (hl : l'.length = l.length) (hbase : base ≤ g) (hb : w.heap[g]? = some (.cells cur e (0, 0)))
    (h1 : l.length ≤ cap) (h2 : cap ≤ maxLen) (h3 : cur.size = cap * 6) :
    (sortWorldK entC 6 w g 0 n l'.toArray os).ownsRow base e 6 (.slice (some ⟨g, 0, none⟩) l.length cap) l.length (flat pkR l') := by
  have hg : g < w.heap.size := (Array.getElem?_eq_some_iff.1 hb).1
  have hheap : (sortWorldK entC 6 w g 0 n l'.toArray os).heap[g]? = some (.cells (putCells id 0 (flatK entC 6 l'.toArray) cur) e (0, 0)) := by
    unfold sortWorldK putRowK
    rw [heap_grow_old _ _ (by simpa using hg)]
    simp [putRow, mapBlock, Sort.ahead, Array.getElem?_modify, hb, onCells]
  refine ⟨by rw [flat_length, hl]; rfl, .inr ⟨g, cap, _, rfl, hbase, hheap, h1, h2, by simp [putCells, h3], ?_⟩⟩
  rw [← flatK_flatE]
  have hsz : (flatK entC 6 l'.toArray).size = l.length * 6 := by simp [hl]
  apply List.ext_getElem?
  intro j
  by_cases hj : j < l.length * 6
  · rw [List.getElem?_take_of_lt hj, Array.getElem?_toList]
    have h5 : j < cur.size := by rw [h3]; have := Nat.mul_le_mul_right 6 h1; omega
    simp only [putCells]
    simp [h5, hl, hj]
  · rw [List.getElem?_take_eq_none (by omega), List.getElem?_eq_none (by rw [Array.length_toList, hsz]; omega)]
theorem offE_sorted {w : World} {g n : Nat} {os : Array Obj} {d : Array Ent} : Off (fun k => k = g) w (sortWorldK entC 6 w g 0 n d os) := by
  refine ⟨rfl, rfl, rfl, by simp [sortWorldK, putRowK], fun k hk hne => ?_⟩
  unfold sortWorldK putRowK
  rw [heap_grow_old _ _ (by simp; omega)]
  have : g ≠ k := fun e => hne e.symm
  simp [putRow, mapBlock, Sort.ahead, Array.getElem?_modify, this]
theorem permE {l : List Ent} {d' : Array Ent} (h : Go.Sort.PermIn 0 l.length l.toArray d') : d'.toList.length = l.length ∧ d'.toList.Perm l := by
  obtain ⟨h1, _, h3⟩ := h
  have hs : d'.size = l.length := by simpa using h1
  refine ⟨by simpa using hs, ?_⟩
  have e1 : (d'.extract 0 l.length).toList = d'.toList := by rw [← hs]; simp
  have e2 : (l.toArray.extract 0 l.length).toList = l := by simp
  rwa [e1, e2] at h3
/-- A row of entries is sorted. -/
theorem sortRow_any (w : World) (base : Nat) (v : Value) (l : List Ent) (h : w.ownsRow base 156 6 v l.length (flat pkR l)) (hl : l.length < 4611686018427387904) :
    Calls Tryz.prog 102 #[v, .func (.func 103) #[] #[]] w fun e w' => e = .returned (.tuple #[]) ∧ ∃ l' : List Ent, l'.Perm l ∧ l'.Pairwise (fun x y => ¬ klt y.1 x.1) ∧ w'.ownsRow base 156 6 v l.length (flat pkR l') ∧ Off (fun k => v.ownBlock = some k) w w' := by
  obtain ⟨h0, ⟨rfl, hn⟩ | ⟨g, cap, cur, rfl, hb, hg, h1, h2, h3, h4⟩⟩ := h
  · have : l = [] := List.length_eq_zero_iff.1 hn
    subst this
    refine (AnyF.slices_SortFunc_none Tryz.sortEnt none 0 _ w).mono ?_
    rintro e w' ⟨rfl, rfl⟩
    exact ⟨rfl, [], List.Perm.refl _, List.Pairwise.nil, ⟨rfl, .inl ⟨rfl, rfl⟩⟩, Off.refl _ _⟩
  · have hgl : g < w.heap.size := (Array.getElem?_eq_some_iff.1 hg).1
    have hs := sortE_any g 0 cap l.toArray w (holdsE hg h4) hgl (by simpa using hl)
    rw [List.size_toArray] at hs
    refine hs.mono ?_
    rintro e w' ⟨rfl, d', n, os, hp, hso, rfl⟩
    obtain ⟨p1, p2⟩ := permE hp
    refine ⟨rfl, d'.toList, p2, ?_, ?_, offE_sorted.mono (fun k _ e => by rw [e]; rfl)⟩
    · rw [List.pairwise_iff_getElem]
      intro i j hi hj hij
      have := hso i j (Nat.zero_le _) hij (by omega)
      rw [ltE, decide_eq_false_iff_not] at this
      have hi' : i < d'.size := by simpa using hi
      have hj' : j < d'.size := by simpa using hj
      rw [getElem!_pos d' i hi', getElem!_pos d' j hj'] at this
      simpa using this
    · exact rowE_sorted (l' := d'.toList) p1 hb hg h1 h2 h3
end Go.Proofs.YtdgbgmffpcooeaaGreat
end
section
/- Rows of entries are compared. -/
namespace Go.Proofs.YtdgbgmffpcooeaaGreat
open Go.RowKit Go.Shelf Go.Lib Go.Sort
theorem eq154b (a b c d : Int) (w : World) : (Op.equalIn 9999 154 (.agg #[.int .i64 a, .int .i64 b]) (.agg #[.int .i64 c, .int .i64 d])).run Tryz.prog w = .ok (decide ((a, b) = (c, d))) w := by
  have u3 := Tryz.underlying3
  have a3 := Tryz.isAgg3
  have z3 := Tryz.sizeOf3
  rw [show (9999 : Nat) = 9998 + 1 from rfl, Op.equalIn]
  simp only [Sem.run_bind, run_underlying Tryz.underlying154, Result.andThen_ok]
  simp only [Std.Legacy.Range.forIn_eq_forIn_range', Std.Legacy.Range.size, Nat.sub_zero, Nat.add_sub_cancel, Nat.div_one, List.range'_succ, List.range'_zero, List.forIn_cons, List.forIn_nil]
  go_simp
  by_cases h1 : a = c <;> by_cases h2 : b = d <;> simp [h1, h2]
theorem eq34b (a b c d a' b' c' d' : Int) (w : World) : (Op.equalIn 9999 34 (.agg #[.int .i64 a, .int .i64 b, .int .i64 c, .int .i64 d]) (.agg #[.int .i64 a', .int .i64 b', .int .i64 c', .int .i64 d'])).run Tryz.prog w = .ok (decide ((a, b, c, d) = (a', b', c', d'))) w := by
  have u3 := Tryz.underlying3
  have a3 := Tryz.isAgg3
  have z3 := Tryz.sizeOf3
  rw [show (9999 : Nat) = 9998 + 1 from rfl, Op.equalIn]
  simp only [Sem.run_bind, run_underlying Tryz.underlying34, Result.andThen_ok]
  go_simp
  by_cases h1 : a = a' <;> by_cases h2 : b = b' <;> by_cases h3 : c = c' <;> by_cases h4 : d = d' <;> simp [h1, h2, h3, h4]
def eqEB (x y : Ent) : Bool := decide (x.1.1 = y.1.1 ∧ x.1.2 = y.1.2 ∧ x.2.a = y.2.a ∧ x.2.b = y.2.b ∧ x.2.c = y.2.c ∧ x.2.d = y.2.d)
theorem eqEB_iff {x y : Ent} : eqEB x y = true ↔ x = y := by
  obtain ⟨⟨a, b⟩, ⟨c, d, e, f⟩⟩ := x
  obtain ⟨⟨a', b'⟩, ⟨c', d', e', f'⟩⟩ := y
  simp [eqEB, and_assoc]
theorem eq156 (x y : Ent) (w : World) : (Op.equalIn 10000 156 (.agg (entC x).toArray) (.agg (entC y).toArray)).run Tryz.prog w = .ok (eqEB x y) w := by
  have e1 := eq154b x.1.1 x.1.2 y.1.1 y.1.2 w
  have e2 := eq34b x.2.a x.2.b x.2.c x.2.d y.2.a y.2.b y.2.c y.2.d w
  unfold entC eqEB
  rw [show (10000 : Nat) = 9999 + 1 from rfl, Op.equalIn]
  simp only [Sem.run_bind, run_underlying Tryz.underlying156, Result.andThen_ok]
  have a3 := Tryz.isAgg154
  have z3 := Tryz.sizeOf154
  have a4 := Tryz.isAgg34
  have z4 := Tryz.sizeOf34
  go_simp
  simp only [Int.natCast_inj]
  by_cases h1 : x.1.1 = y.1.1 <;> by_cases h2 : x.1.2 = y.1.2 <;> by_cases h3 : x.2.a = y.2.a <;> by_cases h4 : x.2.b = y.2.b <;> by_cases h5 : x.2.c = y.2.c <;> by_cases h6 : x.2.d = y.2.d <;> simp [h1, h2, h3, h4, h5, h6]
theorem neq156 : NeqAt Tryz.prog 156 (fun x : Ent => .agg (entC x).toArray) eqEB := by
  refine ⟨fun x y w => ?_, GuardAt.agg _ (by kernel_rfl)⟩
  have h := eq156 x y w
  rw [run_neq_struct, h]
  rfl
theorem allEq_iff {a b : List Ent} : Lib.allEq eqEB a b = true ↔ a = b := by
  induction a generalizing b with
  | nil => cases b <;> simp [Lib.allEq]
  | cons x a ih =>
    cases b with
    | nil => simp [Lib.allEq]
    | cons y b => simp only [Lib.allEq, Bool.and_eq_true, eqEB_iff, ih, List.cons.injEq]
theorem rowE_cell {w : World} {g : Nat} {cur : Array Value} {l : List Ent} (hb : w.heap[g]? = some (.cells cur 156 (0, 0))) (ht : cur.toList.take (l.length * 6) = flat pkR l) (j : Nat) (hj : j < l.length) (i : Nat) (v : Value) (hv : (entC l[j]!)[i]? = some v) : w.cell? ⟨g, 0 + j * 6 + i, none⟩ = some v := by
  have hi : i < 6 := by have := (List.getElem?_eq_some_iff.1 hv).1; simpa [entC] using this
  have hg := flat_get pkR (r := l) (List.getElem?_eq_getElem hj) i hi
  have e : (l[j]! : Ent) = l[j] := getElem!_pos l j hj
  rw [e] at hv
  have hg' : (flat pkR l)[j * 6 + i]? = some v := hg.trans hv
  rw [← ht, List.getElem?_take_of_lt (by omega), Array.getElem?_toList] at hg'
  simp only [World.cell?, hb, Nat.zero_add]
  simpa using hg'
set_option maxHeartbeats 1000000 in
theorem eq_apart (p q : Option Addr) (n c m d : Nat) (h : n ≠ m) (w : World) : Calls Tryz.prog 105 #[.slice p n c, .slice q m d] w fun e w' => e = .returned (.bool false) ∧ w' = w := by
  have h1 : ((n : Int) != (m : Int)) = true := by simp; omega
  have HN : Hid (n ≠ m) := h
  clear h
  go_enter Tryz.func105, Tryz.ntmps105
  go_wp2
  go_ret
  exact ⟨rfl, rfl⟩
set_option maxHeartbeats 1000000 in
theorem eq_none (p q : Option Addr) (c d : Nat) (w : World) : Calls Tryz.prog 105 #[.slice p 0 c, .slice q 0 d] w fun e w' => e = .returned (.bool true) ∧ w' = w := by
  go_enter Tryz.func105, Tryz.ntmps105
  go_wp2
  go_loopw [13] (fun y wr => y = .int .i64 0 ∧ wr = w) (fun _ _ => 0)
  case atStart => exact ⟨rfl, rfl⟩
  case round =>
    obtain ⟨rfl, rfl⟩ := hrel
    go_wp2
    go_ret
    exact ⟨rfl, rfl⟩
theorem eqNil_any (p q : Option Addr) (n c m d : Nat) (k l : List Ent) (hk : k.length = n) (hl : l.length = m) (h : n = 0 ∨ m = 0) (w : World) : Calls Tryz.prog 105 #[.slice p n c, .slice q m d] w fun e w' => e = .returned (.bool (Lib.allEq eqEB k l)) ∧ ∃ q, w' = w.drewN q := by
  by_cases hnm : n = m
  · have hn : n = 0 := by omega
    have hm : m = 0 := by omega
    subst hn; subst hm
    have e1 : k = [] := List.length_eq_zero_iff.1 hk
    have e2 : l = [] := List.length_eq_zero_iff.1 hl
    subst e1 e2
    refine (eq_none p q c d w).mono ?_
    rintro e w' ⟨rfl, rfl⟩
    exact ⟨rfl, 0, rfl⟩
  · refine (eq_apart p q n c m d hnm w).mono ?_
    rintro e w' ⟨rfl, rfl⟩
    rw [Lib.allEq_len eqEB k l (by omega)]
    exact ⟨rfl, 0, rfl⟩
/-- Two rows of entries are compared. -/
theorem eqRow_any (w : World) (base : Nat) (u v : Value) (k l : List Ent) (hu : w.ownsRow base 156 6 u k.length (flat pkR k)) (hv : w.ownsRow base 156 6 v l.length (flat pkR l)) (hk : k.length ≤ 1000000) (hl : l.length ≤ 1000000) :
    Calls Tryz.prog 105 #[u, v] w fun e w' => e = .returned (.bool (Lib.allEq eqEB k l)) ∧ ∃ q, w' = w.drewN q := by
  obtain ⟨h0, ⟨rfl, hn⟩ | ⟨g, cap, cur, rfl, hb, hg, h1, h2, h3, h4⟩⟩ := hu
  · obtain ⟨h0', ⟨rfl, hn'⟩ | ⟨g', cap', cur', rfl, hb', hg', h1', h2', h3', h4'⟩⟩ := hv
    · exact eqNil_any none none 0 0 0 0 k l hn hn' (.inl rfl) w
    · exact eqNil_any none _ 0 0 _ cap' k l hn rfl (.inl rfl) w
  · obtain ⟨h0', ⟨rfl, hn⟩ | ⟨g', cap', cur', rfl, hb', hg', h1', h2', h3', h4'⟩⟩ := hv
    · exact eqNil_any _ none _ cap 0 0 k l rfl hn (.inr rfl) w
    · refine (AnyQ.slices_Equal Tryz.eqEnt 6 Tryz.isAgg156 Tryz.sizeOf156 entC (fun _ => rfl) eqEB neq156 g 0 k.length cap g' 0 l.length cap' k l w (Nat.le_refl _) (Nat.le_refl _) (by omega) (by omega) (fun j hj i v h => rowE_cell hg h4 j hj i v h) (fun j hj i v h => rowE_cell hg' h4' j hj i v h)).mono ?_
      rintro e w' ⟨rfl, q, rfl⟩
      rw [List.take_length, List.take_length]
      exact ⟨rfl, q, rfl⟩
end Go.Proofs.YtdgbgmffpcooeaaGreat
end
