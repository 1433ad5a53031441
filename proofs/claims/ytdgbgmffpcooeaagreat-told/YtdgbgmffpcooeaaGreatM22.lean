/- KSort Keys Pk8 Pk9 Tr1 Ch1 -/
import Derived.Shelf.SlIterI.Nil
import Derived.Shelf.SortM.Plain
import Derived.Shelf.SortM.SortNone
import Derived.Ground.GgzProg
import Derived.Ground.SlgmProg
import Derived.Test.YtdgbgmffpcooeaaGreatProg
import Derived.Test.YtdgbgmffpcooeaaGreatM14
import Derived.Test.YtdgbgmffpcooeaaGreatM21
import Derived.Test.YtdgbgmffpcooeaaGreatM20
section
/-
  The contracts of the library: maps.Keys (of sectors and of nodes), slices.Sorted, slices.Sort at integers, laid at this program (tables of numbers, and that each body is the one of which the contract was proved).
-/
namespace Go.Proofs
open Go.Shelf
def Tryz.keysI_ren : Go.Shelf.Ren := ⟨fun | 7 => 72 | 10 => 98 | n => n, fun | 23 => 131 | 26 => 3 | 3 => 135 | 28 => 139 | 0 => 0 | 27 => 138 | 33 => 145 | 4 => 4 | n => n, fun | n => n⟩
theorem Tryz.keysI : Go.Proofs.SlLaysZI.n7 Tryz.prog Tryz.keysI_ren := {
  mixed := by kernel_rfl
  f7 := ⟨Tryz.f72.name, by decide, Tryz.func72.trans (congrArg some (by kernel_rfl))⟩
  f10 := ⟨Tryz.f98.name, by decide, Tryz.func98.trans (congrArg some (by kernel_rfl))⟩
  t0 := Tryz.underlying0
  a0 := Tryz.isAgg0
  z0 := Tryz.sizeOf0
  v0 := Tryz.zeroValue0
  t4 := Tryz.underlying4
  a4 := Tryz.isAgg4
  z4 := Tryz.sizeOf4
  v4 := Tryz.zeroValue4
  t23 := Tryz.underlying131
  a23 := Tryz.isAgg131
  z23 := Tryz.sizeOf131
  v23 := Tryz.zeroValue131
  t26 := Tryz.underlying3
  a26 := Tryz.isAgg3
  z26 := Tryz.sizeOf3
  v26 := Tryz.zeroValue3
  t27 := Tryz.underlying138
  a27 := Tryz.isAgg138
  z27 := Tryz.sizeOf138
  v27 := Tryz.zeroValue138
  t28 := Tryz.underlying139
  a28 := Tryz.isAgg139
  z28 := Tryz.sizeOf139
  v28 := Tryz.zeroValue139
  t33 := Tryz.underlying145
  a33 := Tryz.isAgg145
  z33 := Tryz.sizeOf145
  v33 := Tryz.zeroValue145 }
def Tryz.keysN_ren : Go.Shelf.Ren := ⟨fun | 7 => 148 | 10 => 184 | n => n, fun | 23 => 183 | 26 => 3 | 3 => 175 | 28 => 139 | 0 => 0 | 27 => 138 | 33 => 145 | 4 => 4 | n => n, fun | n => n⟩
theorem Tryz.keysN : Go.Proofs.SlLaysZI.n7 Tryz.prog Tryz.keysN_ren := {
  mixed := by kernel_rfl
  f7 := ⟨Tryz.f148.name, by decide, Tryz.func148.trans (congrArg some (by kernel_rfl))⟩
  f10 := ⟨Tryz.f184.name, by decide, Tryz.func184.trans (congrArg some (by kernel_rfl))⟩
  t0 := Tryz.underlying0
  a0 := Tryz.isAgg0
  z0 := Tryz.sizeOf0
  v0 := Tryz.zeroValue0
  t4 := Tryz.underlying4
  a4 := Tryz.isAgg4
  z4 := Tryz.sizeOf4
  v4 := Tryz.zeroValue4
  t23 := Tryz.underlying183
  a23 := Tryz.isAgg183
  z23 := Tryz.sizeOf183
  v23 := Tryz.zeroValue183
  t26 := Tryz.underlying3
  a26 := Tryz.isAgg3
  z26 := Tryz.sizeOf3
  v26 := Tryz.zeroValue3
  t27 := Tryz.underlying138
  a27 := Tryz.isAgg138
  z27 := Tryz.sizeOf138
  v27 := Tryz.zeroValue138
  t28 := Tryz.underlying139
  a28 := Tryz.isAgg139
  z28 := Tryz.sizeOf139
  v28 := Tryz.zeroValue139
  t33 := Tryz.underlying145
  a33 := Tryz.isAgg145
  z33 := Tryz.sizeOf145
  v33 := Tryz.zeroValue145 }
def Tryz.sortedI_ren : Go.Shelf.Ren := ⟨fun | 6 => 71 | 8 => 97 | 9 => 93 | 11 => 127 | 13 => 126 | 12 => 125 | 23 => 162 | 24 => 163 | 14 => 153 | 15 => 154 | 16 => 155 | 17 => 156 | 18 => 157 | 19 => 158 | 20 => 159 | 21 => 160 | 22 => 161 | 25 => 190 | 26 => 191 | 27 => 192 | 28 => 193 | 29 => 194 | 30 => 177 | 31 => 216 | n => n, fun | 26 => 3 | 28 => 139 | 24 => 35 | 0 => 0 | 3 => 3 | 37 => 204 | 48 => 243 | 50 => 245 | 4 => 4 | 40 => 237 | 39 => 236 | 45 => 125 | 5 => 5 | 9 => 9 | 51 => 266 | 55 => 270 | 57 => 295 | 58 => 200 | 33 => 145 | n => n, fun | n => n⟩
theorem Tryz.sortedI : Go.Proofs.SlLaysZI.n6 Tryz.prog Tryz.sortedI_ren := {
  mixed := by kernel_rfl
  f6 := ⟨Tryz.f71.name, by decide, Tryz.func71.trans (congrArg some (by kernel_rfl))⟩
  f8 := ⟨Tryz.f97.name, by decide, Tryz.func97.trans (congrArg some (by kernel_rfl))⟩
  f11 := ⟨Tryz.f127.name, by decide, Tryz.func127.trans (congrArg some (by kernel_rfl))⟩
  t0 := Tryz.underlying0
  a0 := Tryz.isAgg0
  z0 := Tryz.sizeOf0
  v0 := Tryz.zeroValue0
  t24 := Tryz.underlying35
  a24 := Tryz.isAgg35
  z24 := Tryz.sizeOf35
  v24 := Tryz.zeroValue35
  t26 := Tryz.underlying3
  a26 := Tryz.isAgg3
  z26 := Tryz.sizeOf3
  v26 := Tryz.zeroValue3
  t28 := Tryz.underlying139
  a28 := Tryz.isAgg139
  z28 := Tryz.sizeOf139
  v28 := Tryz.zeroValue139
  i26 := by kernel_rfl }
def Tryz.sortI_ren : Go.Shelf.Ren := ⟨fun | 5 => 93 | 8 => 126 | 7 => 125 | 19 => 162 | 20 => 163 | 10 => 153 | 11 => 154 | 12 => 155 | 13 => 156 | 14 => 157 | 15 => 158 | 16 => 159 | 17 => 160 | 18 => 161 | 30 => 190 | 31 => 191 | 32 => 192 | 33 => 193 | 34 => 194 | 35 => 177 | 40 => 216 | n => n, fun | 23 => 35 | 25 => 3 | 3 => 3 | 32 => 204 | 22 => 35 | 0 => 0 | 44 => 243 | 46 => 245 | 4 => 4 | 36 => 237 | 35 => 236 | 41 => 125 | 5 => 5 | 9 => 9 | 53 => 266 | 57 => 270 | 63 => 295 | 64 => 200 | n => n, fun | n => n⟩
theorem Tryz.sortI : Go.Proofs.SlLaysM.n5 Tryz.prog Tryz.sortI_ren := {
  mixed := by kernel_rfl
  f5 := ⟨Tryz.f93.name, by decide, Tryz.func93.trans (congrArg some (by kernel_rfl))⟩
  f7 := ⟨Tryz.f125.name, by decide, Tryz.func125.trans (congrArg some (by kernel_rfl))⟩
  f8 := Tryz.func126.trans (congrArg some (by kernel_rfl))
  f10 := ⟨Tryz.f153.name, by decide, Tryz.func153.trans (congrArg some (by kernel_rfl))⟩
  f11 := ⟨Tryz.f154.name, by decide, Tryz.func154.trans (congrArg some (by kernel_rfl))⟩
  f12 := ⟨Tryz.f155.name, by decide, Tryz.func155.trans (congrArg some (by kernel_rfl))⟩
  f13 := ⟨Tryz.f156.name, by decide, Tryz.func156.trans (congrArg some (by kernel_rfl))⟩
  f14 := ⟨Tryz.f157.name, by decide, Tryz.func157.trans (congrArg some (by kernel_rfl))⟩
  f15 := ⟨Tryz.f158.name, by decide, Tryz.func158.trans (congrArg some (by kernel_rfl))⟩
  f16 := ⟨Tryz.f159.name, by decide, Tryz.func159.trans (congrArg some (by kernel_rfl))⟩
  f17 := ⟨Tryz.f160.name, by decide, Tryz.func160.trans (congrArg some (by kernel_rfl))⟩
  f18 := ⟨Tryz.f161.name, by decide, Tryz.func161.trans (congrArg some (by kernel_rfl))⟩
  f19 := Tryz.func162.trans (congrArg some (by kernel_rfl))
  f20 := Tryz.func163.trans (congrArg some (by kernel_rfl))
  f30 := ⟨Tryz.f190.name, by decide, Tryz.func190.trans (congrArg some (by kernel_rfl))⟩
  f31 := Tryz.func191.trans (congrArg some (by kernel_rfl))
  f32 := Tryz.func192.trans (congrArg some (by kernel_rfl))
  f33 := ⟨Tryz.f193.name, by decide, Tryz.func193.trans (congrArg some (by kernel_rfl))⟩
  f34 := ⟨Tryz.f194.name, by decide, Tryz.func194.trans (congrArg some (by kernel_rfl))⟩
  f35 := ⟨Tryz.f177.name, by decide, Tryz.func177.trans (congrArg some (by kernel_rfl))⟩
  f40 := ⟨Tryz.f216.name, by decide, Tryz.func216.trans (congrArg some (by kernel_rfl))⟩
  t0 := Tryz.underlying0
  a0 := Tryz.isAgg0
  z0 := Tryz.sizeOf0
  v0 := Tryz.zeroValue0
  t3 := Tryz.underlying3
  a3 := Tryz.isAgg3
  z3 := Tryz.sizeOf3
  v3 := Tryz.zeroValue3
  t4 := Tryz.underlying4
  a4 := Tryz.isAgg4
  z4 := Tryz.sizeOf4
  v4 := Tryz.zeroValue4
  t5 := Tryz.underlying5
  a5 := Tryz.isAgg5
  z5 := Tryz.sizeOf5
  v5 := Tryz.zeroValue5
  t9 := Tryz.underlying9
  a9 := Tryz.isAgg9
  z9 := Tryz.sizeOf9
  v9 := Tryz.zeroValue9
  t22 := Tryz.underlying35
  a22 := Tryz.isAgg35
  z22 := Tryz.sizeOf35
  v22 := Tryz.zeroValue35
  t23 := Tryz.underlying35
  a23 := Tryz.isAgg35
  z23 := Tryz.sizeOf35
  v23 := Tryz.zeroValue35
  t25 := Tryz.underlying3
  a25 := Tryz.isAgg3
  z25 := Tryz.sizeOf3
  v25 := Tryz.zeroValue3
  t32 := Tryz.underlying204
  a32 := Tryz.isAgg204
  z32 := Tryz.sizeOf204
  v32 := Tryz.zeroValue204
  t35 := Tryz.underlying236
  a35 := Tryz.isAgg236
  z35 := Tryz.sizeOf236
  v35 := Tryz.zeroValue236
  t36 := Tryz.underlying237
  a36 := Tryz.isAgg237
  z36 := Tryz.sizeOf237
  v36 := Tryz.zeroValue237
  t41 := Tryz.underlying125
  a41 := Tryz.isAgg125
  z41 := Tryz.sizeOf125
  v41 := Tryz.zeroValue125
  t44 := Tryz.underlying243
  a44 := Tryz.isAgg243
  z44 := Tryz.sizeOf243
  v44 := Tryz.zeroValue243
  t46 := Tryz.underlying245
  a46 := Tryz.isAgg245
  z46 := Tryz.sizeOf245
  v46 := Tryz.zeroValue245
  t53 := Tryz.underlying266
  a53 := Tryz.isAgg266
  z53 := Tryz.sizeOf266
  v53 := Tryz.zeroValue266
  t57 := Tryz.underlying270
  a57 := Tryz.isAgg270
  z57 := Tryz.sizeOf270
  v57 := Tryz.zeroValue270
  t63 := Tryz.underlying295
  a63 := Tryz.isAgg295
  z63 := Tryz.sizeOf295
  v63 := Tryz.zeroValue295
  t64 := Tryz.underlying200
  a64 := Tryz.isAgg200
  z64 := Tryz.sizeOf200
  v64 := Tryz.zeroValue200 }
end Go.Proofs
end
section
/- What slices.Sorted(maps.Keys(m)) hands back, of a map whose keys are integers. -/
namespace Go.Proofs.YtdgbgmffpcooeaaGreat
open Go.RowKit Go.Maps Go.Sort Go.Shelf

theorem sortsI (m : Nat) : AnyZI.SortsIn Tryz.prog Tryz.sortedI_ren Fence.wide m :=
  ⟨fun blk off cap ss W hH hblk hsz => callsIn_wide.2 (AnyM.slices_Sort_int Tryz.sortI blk off cap ss W hH hblk hsz),
   fun p cap W => callsIn_wide.2 (AnyM.slices_Sort_int_none Tryz.sortI p cap W)⟩

theorem keys_call (mb : Option Nat) (W : World) : Calls Tryz.prog 72 #[.map mb] W fun e w' => e = .returned (.func (.func 98) #[] #[.pointer (some ⟨W.heap.size, 0, none⟩)]) ∧ w' = W.alloc (.cells #[.map mb] 131) :=
  callsIn_wide.1 (AnyZI.keys_in Tryz.keysI Fence.wide 5 trivial rfl mb W)

set_option maxHeartbeats 1000000 in
theorem sorted_call (b nn : Nat) (D0 : DataW Unit) (R : Value → Option (DataW Unit × List MemPlace)) (w : World) (hown : w.ownsMap Tryz.prog 3 R b nn D0) (hmax : Maps.size D0 ≤ maxLen) (hbytes : Maps.size D0 * 8 ≤ 140737488355328) :
    Calls Tryz.prog 71 #[.func (.func 98) #[] #[.pointer (some ⟨w.heap.size, 0, none⟩)]] (w.alloc (.cells #[.map (some b)] 131)) fun e w' => ∃ (v : Value) (ss : List Int), e = .returned v ∧ ss.Perm (intKeys D0) ∧
      w'.ownsRow (w.alloc (.cells #[.map (some b)] 131)).heap.size 3 1 v ss.length ((ss.mergeSort (fun x y => decide (x ≤ y))).map encZ) ∧ (v = .slice none 0 0 ↔ ss = []) ∧ Below (w.alloc (.cells #[.map (some b)] 131)).heap.size (w.alloc (.cells #[.map (some b)] 131)) w' := by
  refine (callsIn_wide (n := 5)).1 ?_
  have hbl := hown.lt
  have hseq : SeqGives Fence.wide 2 Tryz.prog 98 #[.pointer (some ⟨w.heap.size, 0, none⟩)] encZ (fun ss => ss.Perm (intKeys D0)) (Maps.size D0) (w.alloc (.cells #[.map (some b)] 131)) :=
    AnyZI.keys_gives (ρ := Tryz.keysI_ren) { Tryz.keysI with } Fence.wide _ trivial rfl (by omega) w.heap.size b nn D0 _ (by simp) (by simp) (by
      obtain ⟨es, clock, hb, Ft, hs, hD⟩ := hown
      exact ⟨es, clock, (Below.heap_alloc _ _ b hbl).trans hb, Ft, hs, hD⟩)
  have cS := AnyZI.sorted_in Tryz.sortedI Fence.wide 5 trivial trivial trivial trivial rfl (by omega) (sortsI _) (enters_of Tryz.func93 (by kernel_rfl) rfl) 98 #[.pointer (some ⟨w.heap.size, 0, none⟩)] trivial (enters_of Tryz.func98 (by kernel_rfl) rfl) _ _ hmax hbytes _ hseq
  exact cS
end Go.Proofs.YtdgbgmffpcooeaaGreat
end
section
/- Plain facts on the row of the sectors that were written: no walk here. -/
namespace Go.Proofs.YtdgbgmffpcooeaaGreat
open Go.RowKit Go.Lib Go.Maps

def dirtyOf (old : Nat → Option ByteArray) (i : Nat) : Bool := (old i).isSome
/-- The sectors that were written, rising. -/
def rowOf (d : Nat → Bool) (n : Nat) : List Nat := (List.range n).filter d
theorem mem_rowOf (d : Nat → Bool) (n i : Nat) : i ∈ rowOf d n ↔ i < n ∧ d i = true := by simp [rowOf]
theorem rowOf_sorted (d : Nat → Bool) (n : Nat) : (rowOf d n).Pairwise (· < ·) := List.Pairwise.filter _ List.pairwise_lt_range
theorem length_rowOf (d : Nat → Bool) (n : Nat) : (rowOf d n).length = rank d n := by simp [rowOf, rank, List.countP_eq_length_filter]
theorem rowOf_split (d : Nat → Bool) {n i : Nat} (hi : i < n) : ∃ r, rowOf d n = rowOf d i ++ (if d i then i :: r else r) := by
  obtain ⟨m, rfl⟩ : ∃ m, n = i + (1 + m) := ⟨n - i - 1, by omega⟩
  refine ⟨((List.range m).map (i + 1 + ·)).filter d, ?_⟩
  unfold rowOf
  rw [List.range_add, List.filter_append]
  congr 1
  rw [Nat.add_comm 1 m, List.range_succ_eq_map]
  simp only [List.map_cons, List.map_map, List.filter_cons, Nat.add_zero]
  have e : (i + ·) ∘ Nat.succ = (i + 1 + ·) := by funext x; simp; omega
  rw [e]
/-- A sector's place in the row. -/
theorem rowOf_rank (d : Nat → Bool) {n i : Nat} (hi : i < n) (hd : d i = true) : (rowOf d n)[rank d i]? = some i := by
  obtain ⟨r, hr⟩ := rowOf_split d hi
  rw [hr, hd, if_pos rfl, List.getElem?_append_right (by rw [length_rowOf]; exact Nat.le_refl _), length_rowOf, Nat.sub_self]
  rfl
theorem rank_lt (d : Nat → Bool) {n i : Nat} (hi : i < n) (hd : d i = true) : rank d i < (rowOf d n).length := by
  have := rowOf_rank d hi hd
  exact (List.getElem?_eq_some_iff.1 this).1
theorem rank_of_get (d : Nat → Bool) {n p i : Nat} (h : (rowOf d n)[p]? = some i) : i < n ∧ d i = true ∧ rank d i = p := by
  obtain ⟨hp, e⟩ := List.getElem?_eq_some_iff.1 h
  have hm : i ∈ rowOf d n := e ▸ List.getElem_mem hp
  obtain ⟨h1, h2⟩ := (mem_rowOf d n i).1 hm
  refine ⟨h1, h2, ?_⟩
  have h3 := rowOf_rank d h1 h2
  obtain ⟨hq, e2⟩ := List.getElem?_eq_some_iff.1 h3
  have hs := List.pairwise_iff_getElem.1 (rowOf_sorted d n)
  rcases Nat.lt_trichotomy (rank d i) p with g | g | g
  · have := hs _ _ hq hp g; omega
  · exact g
  · have := hs _ _ hp hq g; omega

/-- The keys that are told, sorted: the row. -/
theorem keys_sorted {W : World} {m k : Nat} {D : DataW Unit} {old : Nat → Option ByteArray} {n : Nat} (hown : W.ownsMap Tryz.prog 3 secR m k D) (h : MapIs D old n) {ss : List Int} (hp : ss.Perm (intKeys D)) :
    ss.mergeSort (fun x y => decide (x ≤ y)) = (rowOf (dirtyOf old) n).map (fun i : Nat => (i : Int)) ∧ ss.length = (rowOf (dirtyOf old) n).length := by
  obtain ⟨es, rfl, hpw, _⟩ := hown.entries (int_keyed Tryz.underlying3)
  have hkeys : ∀ p ∈ es, ∃ i, i < n ∧ p.1 = kl i := fun p hpm => by
    refine h.keys p.1 ?_
    rw [has_eq, List.any_eq_true]
    obtain ⟨p1, p2⟩ := p
    refine ⟨(p1, p2), hpm, ?_⟩
    have hk : ∃ i : Nat, p1 = p1 := ⟨0, rfl⟩
    have hI := (hown.entries (int_keyed Tryz.underlying3))
    obtain ⟨es', e', _, hkl⟩ := hI
    injection e' with e'
    subst e'
    have := hkl (p1, p2) hpm
    cases p1 <;> simp_all [WideAt.IsKeyLit, Lit.sameKey]
  have hperm : ((rowOf (dirtyOf old) n).map (fun i : Nat => (i : Int))).Perm (intKeys (.map es : DataW Unit)) := by
    refine perm_intKeys hpw (fun p hpm => by obtain ⟨i, _, e⟩ := hkeys p hpm; exact ⟨_, e⟩) ?_ (fun x => ?_)
    · exact List.Pairwise.map _ (fun a b hab => by omega) (rowOf_sorted (dirtyOf old) n)
    · rw [List.mem_map]
      constructor
      · rintro ⟨i, hi, rfl⟩
        obtain ⟨h1, h2⟩ := (mem_rowOf _ _ _).1 hi
        rw [h.has_ i h1]; exact h2
      · intro hx
        obtain ⟨i, hi, e⟩ := h.keys _ hx
        have e' : (Lit.int .i64 x) = .int .i64 (i : Int) := e
        injection e' with _ e2
        subst e2
        rw [h.has_ i hi] at hx
        exact ⟨i, (mem_rowOf _ _ _).2 ⟨hi, hx⟩, rfl⟩
  have hpp : ss.Perm ((rowOf (dirtyOf old) n).map (fun i : Nat => (i : Int))) := hp.trans hperm.symm
  refine ⟨?_, by rw [hpp.length_eq, List.length_map]⟩
  have := mergeSort_of_perm_i hpp
  rw [this]
  refine List.mergeSort_of_pairwise ?_
  exact List.Pairwise.map _ (fun a b hab => by simp; omega) (rowOf_sorted (dirtyOf old) n)
theorem map_size {W : World} {m k : Nat} {D : DataW Unit} (hown : W.ownsMap Tryz.prog 3 secR m k D) : Maps.size D ≤ k := by
  obtain ⟨es, c, h1, h2, h3, rfl⟩ := hown
  have := length_read (P := Tryz.prog) (k := 3) (R0 := secR) es
  simp only [Maps.size]
  omega

theorem MapIs.del {D : DataW Unit} {old : Nat → Option ByteArray} {n : Nat} (h : MapIs D old n) {i : Nat} (hi : i < n) : MapIs (D.del (kl i)) (upd old i none) n := by
  refine ⟨fun t ht => ?_, fun t c ht hc z => ?_, fun k hk => ?_, fun t c ht hc => ?_⟩
  · by_cases e : t = i
    · subst e; rw [has_del_same, upd_same]; rfl
    · rw [has_del_other (kl_ne e), h.has_ t ht, upd_ne old _ e]
  · by_cases e : t = i
    · subst e; rw [upd_same] at hc; cases hc
    · rw [upd_ne old _ e] at hc
      rw [atKey_del_other (kl_ne e)]
      exact h.val t c ht hc z
  · by_cases e : k = kl i
    · exact ⟨i, hi, e⟩
    · rw [has_del_other e] at hk
      exact h.keys k hk
  · by_cases e : t = i
    · subst e; rw [upd_same] at hc; cases hc
    · rw [upd_ne old _ e] at hc
      exact h.size t c ht hc

/-- Behind k of the places that are kept. -/
def keptOld (old : Nat → Option ByteArray) (K : Nat → Int) (k : Nat) : Nat → Option ByteArray := fun t => if keptAt K k (rank (dirtyOf old) t) then none else old t
theorem keptOld_zero (old : Nat → Option ByteArray) (K : Nat → Int) : keptOld old K 0 = old := by funext t; simp [keptOld, keptAt_zero]
theorem MapIs.congr {D : DataW Unit} {old old' : Nat → Option ByteArray} {n : Nat} (h : MapIs D old n) (he : ∀ t, t < n → old' t = old t) : MapIs D old' n :=
  ⟨fun t ht => by rw [he t ht]; exact h.has_ t ht, fun t b ht hb => h.val t b ht (by rw [← he t ht]; exact hb), h.keys, fun t b ht hb => h.size t b ht (by rw [← he t ht]; exact hb)⟩
theorem keptOld_out (old : Nat → Option ByteArray) (K : Nat → Int) (k n : Nat) (h : K k < 0 ∨ ((rowOf (dirtyOf old) n).length : Int) ≤ K k) : ∀ t, t < n → keptOld old K (k + 1) t = keptOld old K k t := by
  intro t ht
  unfold keptOld
  rw [keptAt_succ]
  cases ho : old t with
  | none => simp
  | some b =>
    have hd : dirtyOf old t = true := by unfold dirtyOf; rw [ho]; rfl
    have := rank_lt (dirtyOf old) ht hd
    have e : (K k == ((rank (dirtyOf old) t : Nat) : Int)) = false := by simp; omega
    rw [e, Bool.or_false]
theorem keptOld_in (old : Nat → Option ByteArray) (K : Nat → Int) (k n p i : Nat) (hp : K k = (p : Int)) (hi : (rowOf (dirtyOf old) n)[p]? = some i) : ∀ t, t < n → keptOld old K (k + 1) t = upd (keptOld old K k) i none t := by
  obtain ⟨h1, h2, h3⟩ := rank_of_get (dirtyOf old) hi
  intro t ht
  unfold upd
  show (if keptAt K (k + 1) (rank (dirtyOf old) t) then none else old t) = if t = i then none else (if keptAt K k (rank (dirtyOf old) t) then none else old t)
  rw [keptAt_succ, hp]
  by_cases e : t = i
  · subst e; simp [h3]
  · rw [if_neg e]
    cases ho : old t with
    | none => simp
    | some b =>
      have hd : dirtyOf old t = true := by unfold dirtyOf; rw [ho]; rfl
      have h4 := rowOf_rank (dirtyOf old) ht hd
      have e2 : ((p : Int) == ((rank (dirtyOf old) t : Nat) : Int)) = false := by
        simp
        intro e3
        have : p = rank (dirtyOf old) t := by omega
        rw [← this, hi] at h4
        injection h4 with h4
        exact e h4.symm
      rw [e2, Bool.or_false]
end Go.Proofs.YtdgbgmffpcooeaaGreat
end
section
/- What the program's disk does at Crash. -/
namespace Go.Proofs.YtdgbgmffpcooeaaGreat
open Go.RowKit Go.Lib Go.Maps

theorem step_delete_own {H : Type} {P : Program} {ops : Array Oper} {o : Oper} {a : Act} {w : World} {K : Act → World → Prop} {Q : Exit → Act → World → Prop} {E : Prop}
    (hg : o.guard = none) (m x : Operand) (t k : TypeId) (hop : o.op = Op.call { callee := Callee.builtin Builtin.delete, args := #[m, x], argTypes := #[t, k] })
    (e : TypeId) (Ky : Keyed P k) (ht : P.underlying t = some (.map k e)) (R : Value → Option (DataW H × List MemPlace)) (b n : Nat) (D : DataW H)
    (hm : a.eval m = .map (some b)) (hown : w.ownsMap P k R b n D) (key : Value) (kl : Lit) (hx : a.eval x = key) (hkey : keyOf P k key = some kl)
    (hK : ∀ w', w'.ownsMap P k R b n (D.del kl) → w.mapTurned w' b → K (a.put o.dst (.tuple #[])) w') :
    if Region.wanted o (yielded ops a.tmps) = true then Oper.wp P o a w K Q else E := by
  have hw : Region.wanted o (yielded ops a.tmps) = true := by simp [Region.wanted, hg]
  rw [if_pos hw]
  obtain ⟨w', hrun, r1, r2⟩ := hown.drop Ky ht hkey o.type
  unfold Oper.wp
  simp [execOp, hop, resolve, invoke, builtin, hm, hx, hrun, Result.andThen]
  exact hK w' r1 r2

theorem secV_inv_eq {a b : ByteArray} (h : secV a = secV b) : a = b := secV_inj h
theorem has_of_at {D : DataW Unit} {k : Lit} {y : DataW Unit} (h : ∀ z, D.atKey k z = y) : Maps.has D k = true := by
  have h1 := h (.lit (.bool true))
  have h2 := h (.lit (.bool false))
  cases D with
  | map es =>
    rw [has_eq]
    cases hf : es.find? (fun p => p.1.sameKey k) with
    | none => simp only [DataW.atKey, hf] at h1 h2; rw [← h2] at h1; cases h1
    | some p => exact List.any_eq_true.2 ⟨p, List.mem_of_find?_eq_some hf, List.find?_some (p := fun p : Lit × DataW Unit => p.1.sameKey k) hf⟩
  | _ => simp only [DataW.atKey] at h1 h2; rw [← h2] at h1; cases h1

theorem ranges_off {F : Nat → Prop} {W W' : World} {b r n cnt : Nat} {D : DataW Unit} {left : Lit → Bool} (h : W.ranges Tryz.prog 3 secR b r n D left cnt) (ho : Off F W W') (hb : ¬ F b) (hr : ¬ F r) : W'.ranges Tryz.prog 3 secR b r n D left cnt := by
  obtain ⟨es, clock, since, seen, c0, h1, h2, h3, h4, h5, h6⟩ := h
  exact ⟨es, clock, since, seen, c0, (ho.block b (Array.getElem?_eq_some_iff.1 h1).1 hb).trans h1, h2, h3, h4, (ho.block r (Array.getElem?_eq_some_iff.1 h5).1 hr).trans h5, h6⟩
theorem Sec.congr {W : World} {g n : Nat} {now now' : Nat → ByteArray} (h : Sec W g n now) (he : ∀ t, t < n → now' t = now t) : Sec W g n now' :=
  ⟨h.blk, fun t ht => by rw [he t ht]; exact h.at_ t ht, fun t ht => by rw [he t ht]; exact h.size t ht⟩
theorem same_kl {i j : Nat} : (kl i).sameKey (kl j) = decide (i = j) := by
  by_cases h : i = j
  · subst h; simp [Lit.sameKey]
  · simp [Lit.sameKey, h]
    omega

def PS.crash (s : PS) (lk : Nat) (K : Nat → Int) : PS := ⟨s.n, fun t => (keptOld s.old K lk t).getD (s.now t), fun _ => none, -1, false, s.steps⟩

set_option maxRecDepth 100000 in
set_option maxHeartbeats 4000000 in
theorem pcrash_any (w : World) (base : Nat) (A : PA) (s : PS) (h : PD w base A s) (ak : Option Addr) (lk ck : Nat) (K : Nat → Int) (hK : KAt w ak lk K) (hlk : lk ≤ 1073741824) (hout : ∀ a, ak = some a → 0 < lk → ¬ A.F a.block) :
    Calls Tryz.prog 50 #[.pointer (some ⟨A.q, 0, none⟩), .slice ak lk ck] w fun e w' => ∃ A' : PA, e = .returned (.tuple #[]) ∧ PD w' base A' (s.crash lk K) ∧ Off A.F w w' ∧ A'.p = A.p ∧ ∀ k, A'.F k → A.F k ∨ w.heap.size ≤ k := by
  have hn2 := h.n2
  obtain ⟨c0, c1, c2, c3, c4⟩ := h.cells
  obtain ⟨km, D, hm1, hm2, hm3⟩ := h.map
  have hkmb : km ≤ 1073741824 := by omega
  have hsz := map_size hm1
  have hsc := sorted_call A.m km D secR w hm1 (by unfold maxLen; omega) (by omega)
  go_enter Tryz.func50, Tryz.ntmps50
  go_upto_region 2 with (first
    | (go_at_call 72; refine (keys_call _ _).mono ?_; rintro e w1 ⟨rfl, rfl⟩)
    | (go_at_call 71; refine hsc.mono ?_; rintro e w2 ⟨v, ss, rfl, hperm, hrow, hnil, hb2⟩))
  obtain ⟨hs1, hs2⟩ := keys_sorted hm1 hm3 hperm
  rw [hs1, hs2] at hrow
  have hB2 : Below w.heap.size w w2 := ((Below.refl _ w).alloc (Nat.le_refl _) _).trans (hb2.mono (by simp))
  have hrow2 := own_mono hrow (show w.heap.size ≤ _ by simp)
  clear hsc hperm hnil hb2 hs1 hs2 hrow c0 c1 c2 c3 c4
  obtain ⟨dl, hdl⟩ : ∃ dl, rowOf (dirtyOf s.old) s.n = dl := ⟨_, rfl⟩
  rw [hdl] at hrow2
  have HDL : Hid (rowOf (dirtyOf s.old) s.n = dl) := hdl
  clear hdl
  obtain ⟨av, capv, hvs, _, hvm, _⟩ := own_shape hrow2
  subst hvs
  have hR2 := h.below hB2
  have hm2' := map_off hm1 (Off.of_below (F := fun _ => False) hB2) (fun h => h)
  have hKc : ∀ W', Off A.F w W' → ∀ i, i < lk → ∃ a, ak = some a ∧ W'.cell? (a.add i) = some (.int .i64 (K i)) := fun W' ho i hi => by
    obtain ⟨a, ha, hb, hc⟩ := hK.at_ i hi
    have hblk : (a.add i).block = a.block := by unfold Addr.add; split <;> rfl
    exact ⟨a, ha, (World.cell?_of_block (ho.block (a.add i).block (by rw [hblk]; exact hb) (by rw [hblk]; exact hout a ha (by omega)))).trans hc⟩
  have hoff2 : Off A.F w w2 := Off.of_below hB2
  clear hB2 hm1 hsz hK hout
  go_loopw [17] (fun x wr => ∃ (k : Nat) (D' : DataW Unit), x = .int .i64 (k : Int) ∧ k ≤ lk ∧ wr.ownsMap Tryz.prog 3 secR A.m km D' ∧ MapIs D' (keptOld s.old K k) s.n ∧ Off (fun x => x = A.m) w2 wr) (fun x _ => lk - (intOf x).toNat)
  case atStart => exact ⟨0, D, rfl, by omega, hm2', by rw [keptOld_zero]; exact hm3, Off.refl _ _⟩
  case round =>
    obtain ⟨k, D', rfl, hk, hmap, hmi, ho⟩ := hrel
    have hoA : Off A.F w wr := hoff2.trans (ho.mono (fun x _ hx => .inr (.inr (.inr hx))))
    obtain ⟨a1, a2, a3, a4, a5, a6⟩ := hR2.apart
    have hbq := hR2.blkQ.off ho (Ne.symm a3)
    have c1 : wr.cell? ⟨A.q, 1, none⟩ = some (.map (some A.m)) := hbq.cell 1
    by_cases hlt : k < lk
    · have hlt' : (k : Int) < (lk : Int) := by omega
      obtain ⟨a, ha, hca⟩ := hKc wr hoA k hlt
      subst ha
      obtain ⟨pk, hpk⟩ : ∃ pk, K k = pk := ⟨_, rfl⟩
      rw [hpk] at hca
      have HPK : Hid (K k = pk) := hpk
      clear hpk
      by_cases hin : 0 ≤ pk ∧ pk < (dl.length : Int)
      · obtain ⟨p, rfl⟩ : ∃ p : Nat, pk = p := ⟨pk.toNat, by omega⟩
        have hpl : p < dl.length := by omega
        have t1 : (0 : Int) ≤ (p : Int) := by omega
        have t2 : (p : Int) < (dl.length : Int) := by omega
        obtain ⟨i, hi⟩ : ∃ i, dl[p]? = some i := ⟨_, List.getElem?_eq_getElem hpl⟩
        obtain ⟨gv, cv, ev, _, hgv⟩ := hrow2.form (by omega)
        cases ev
        have hgm : gv ≠ A.m := fun e => by
          obtain ⟨_, cs, hh⟩ := own_tagged hrow2 (j := gv) rfl
          obtain ⟨es, c, hh2, _⟩ := hm2'
          rw [e, hh2] at hh; cases hh
        have hrw := own_off hrow2 ho hgm
        have cr := (own_cell hrw p (by omega)).1
        rw [List.getElem?_map, List.getElem?_map, hi] at cr
        have cr' : wr.cell? ⟨gv, p, none⟩ = some (.int .i64 (i : Int)) := cr
        have hgvw := (own_lt hrw).2
        have hin2 : i < s.n := by
          have := HDL.out
          rw [← this] at hi
          exact (rank_of_get _ hi).1
        have hkey := key_of i (by omega)
        have HIN : Hid (∀ t, t < s.n → keptOld s.old K (k + 1) t = upd (keptOld s.old K k) i none t) := by
          have h1 := HDL.out
          rw [← h1] at hi
          exact keptOld_in s.old K k s.n p i HPK.out hi
        clear hin hi cr
        go_wp2
        go_region_law (refine step_delete_own rfl (.tmp 32) (.tmp 36) 131 3 rfl 135 keyed3 Tryz.underlying131 secR A.m km D' (by simp [Act.eval]) hmap.drew (.int .i64 (i : Int)) (kl i) (by simp [Act.eval]) hkey ?_; intro w5 hm5 hturn)
        all_goals
          go_wp2
          go_roundw
          case rel =>
            refine ⟨k + 1, D'.del (kl i), by go_num, by omega, hm5, (hmi.del hin2).congr HIN.out, ?_⟩
            exact ho.drew.trans ((Off.refl _ _).grown hturn.grown (fun j hj => .inl (by cases hj; rfl)))
          case measure => simp [intOf]; omega
      · have HOUT : Hid (∀ t, t < s.n → keptOld s.old K (k + 1) t = keptOld s.old K k t) := by
          refine keptOld_out s.old K k s.n ?_
          rw [HPK.out, HDL.out]; omega
        by_cases t1 : 0 ≤ pk
        · have t2 : decide (pk < (dl.length : Int)) = false := by simp; omega
          clear hin
          go_wp2
          go_roundw
          case rel => exact ⟨k + 1, D', by go_num, by omega, hmap, hmi.congr HOUT.out, ho⟩
          case measure => simp [intOf]; omega
        · have t1' : decide (0 ≤ pk) = false := by simp; omega
          clear hin
          go_wp2
          go_roundw
          case rel => exact ⟨k + 1, D', by go_num, by omega, hmap, hmi.congr HOUT.out, ho⟩
          case measure => simp [intOf]; omega
    · have hlt' : decide ((k : Int) < (lk : Int)) = false := by simp; omega
      have hlt2 : decide (k < lk) = false := by simp; omega
      have hkl : k = lk := by omega
      rw [hkl] at hmi
      have hoff3 := hoA
      have hR3 : PD wr base A { s with old := keptOld s.old K lk } := ⟨hR2.le, hR2.blkP.off ho (Ne.symm a5), hbq, hR2.sec.off ho (Ne.symm a6), ⟨km, D', hmap, hm2, hmi⟩, hR2.n1, hR2.n2⟩
      clear hkl hrow2 hR2 hm2' hoff2 hoA ho hbq c1
      obtain ⟨W3, rfl⟩ : ∃ W3, W3 = wr := ⟨_, rfl⟩
      obtain ⟨old1, hold1⟩ : ∃ o, keptOld s.old K lk = o := ⟨_, rfl⟩
      rw [hold1] at hR3 hmi
      have HOLD : Hid (keptOld s.old K lk = old1) := hold1
      clear hold1 hKc HDL hm3
      have c1 : W3.cell? ⟨A.q, 1, none⟩ = some (.map (some A.m)) := hR3.cells.2.1
      go_upto_region 8 with (at_range; refine wpList_range_own _ rfl (.tmp 41) 131 rfl 3 135 keyed3 Tryz.underlying131 secR A.m km D' rfl hmap ?_; intro w4 hrg0 hg0 hs0)
      go_frame
      have ho4 : Off (fun x => x = A.g) W3 w4 := (Off.refl _ _).grown hg0 (fun j hj => by cases hj)
      have hsec4 : Sec w4 A.g s.n s.now := hR3.sec.off (F := fun _ => False) ((Off.refl _ _).grown hg0 (fun j hj => by cases hj)) (fun h => h)
      clear c1
      go_loopw [7] (fun _ wq => ∃ (left : Lit → Bool) (cnt : Nat), wq.ranges Tryz.prog 3 secR A.m W3.heap.size km D' left cnt ∧ Sec wq A.g s.n (fun t => if left (kl t) then s.now t else (old1 t).getD (s.now t)) ∧ Off (fun x => x = A.g) W3 wq) (fun _ wq => wq.rangeLeft A.m W3.heap.size)
      case atStart =>
        refine ⟨_, _, hrg0, ⟨hsec4.blk, fun t ht => ?_, fun t ht => ?_⟩, ho4⟩
        · have hh := hmi.has_ t ht
          cases ho1 : old1 t with
          | none => simp only [Option.getD_none, ite_self]; exact hsec4.at_ t ht
          | some b => rw [ho1] at hh; simp only [hh, Option.isSome_some, if_true]; exact hsec4.at_ t ht
        · have hh := hmi.has_ t ht
          cases ho1 : old1 t with
          | none => simp only [Option.getD_none, ite_self]; exact hsec4.size t ht
          | some b => rw [ho1] at hh; simp only [hh, Option.isSome_some, if_true]; exact hsec4.size t ht
      case round =>
        obtain ⟨left, cnt, hrg, hsec, hoq⟩ := hrel
        clear hrg0 hg0 hs0 ho4 hsec4
        go_wp2_with (first
          | (at_next; refine wpList_next_ranges _ rfl (.tmp 42) rfl 3 keyed3 secR (Value.int .i64) secV (fun key kl hkey => by obtain ⟨x, rfl, _⟩ := Maps.keyOf_int_inv Tryz.underlying3 hkey; exact ⟨x, rfl⟩) (fun v y hv => by obtain ⟨c, _, rfl, _⟩ := secR_inv hv; exact ⟨c, rfl⟩) A.m W3.heap.size km D' left cnt rfl hrg ?_ ?_))
        · intro _ hl0
          obtain ⟨a1, a2, a3, a4, a5, a6⟩ := hR3.apart
          have hR5 : PD wr base A { s with old := old1, now := fun t => (old1 t).getD (s.now t) } := by
            refine ⟨hR3.le, hR3.blkP.off hoq (Ne.symm a4), hR3.blkQ.off hoq (Ne.symm a2), ⟨hsec.blk, fun t ht => ?_, fun t ht => ?_⟩, ⟨km, D', hrg.owns, hm2, hmi⟩, hR3.n1, hR3.n2⟩
            · have := hsec.at_ t ht
              simp only [hl0] at this
              exact this
            · have := hsec.size t ht
              simp only [hl0] at this
              exact this
          have hoF : Off A.F w wr := hoff3.trans (hoq.mono (fun x _ hx => .inr (.inr (.inl hx))))
          clear hsec hrg hl0 hmap hmi
          go_wp2_with (go_at_call 73; refine (psettle_any wr base A _ hR5).mono ?_; rintro e w6 ⟨rfl, hR6, ho6⟩; have e2 : w6.cell? ⟨A.q, 2, none⟩ = some (.int .i64 s.left) := hR6.cells.2.2.1; have e3 : w6.cell? ⟨A.q, 3, none⟩ = some (.bool s.broken) := hR6.cells.2.2.2.1; have f2 : w6.frozen? ⟨A.q, 2, none⟩ = false := hR6.blkQ.frozen 2; have f3 : w6.frozen? ⟨A.q, 3, none⟩ = false := hR6.blkQ.frozen 3)
          have hR7 := (hR6.cell 3 (.bool false) (s' := ⟨s.n, fun t => (old1 t).getD (s.now t), fun _ => none, s.left, false, s.steps⟩) rfl rfl rfl rfl).cell 2 (.int .i64 (-1)) (s' := ⟨s.n, fun t => (old1 t).getD (s.now t), fun _ => none, -1, false, s.steps⟩) rfl rfl rfl rfl
          have ho7 := ((hoF.trans ho6).setCell (B := A.q) (i := 3) (.bool false) (.inl (.inr (.inl rfl)))).setCell (B := A.q) (i := 2) (.int .i64 (-1)) (.inl (.inr (.inl rfl)))
          refine bodyPost_end (v := .tuple #[]) (by simp [results, Tryz.results50]) rfl ⟨{ A with m := wr.heap.size }, rfl, ?_, ho7, rfl, fun x hx => ?_⟩
          · unfold PS.crash
            rw [HOLD.out]; exact hR7
          · have := hoF.size
            rcases hx with rfl | rfl | rfl | rfl
            · exact .inl (.inl rfl)
            · exact .inl (.inr (.inl rfl))
            · exact .inl (.inr (.inr (.inl rfl)))
            · exact .inr this
        · intro x c kx y1 y2 w5 cnt5 hkx hlx hv hat hrg5 hlt5 hg5 hs5 hen
          obtain ⟨x', ex, rfl, hwx⟩ := Maps.keyOf_int_inv Tryz.underlying3 hkx
          cases ex
          obtain ⟨c', hc256, ec, ey⟩ := secR_inv hv
          obtain rfl := secV_inv_eq ec
          simp only [Prod.mk.injEq] at ey
          obtain ⟨rfl, rfl⟩ := ey
          obtain ⟨i, hi, e1⟩ := hmi.keys _ (has_of_at hat)
          have e1' : (Lit.int .i64 x) = .int .i64 (i : Int) := e1
          injection e1' with _ e2
          subst e2
          have hsome := has_of_at hat
          rw [show (Lit.int .i64 (i : Int)) = kl i from rfl, hmi.has_ i hi] at hsome
          obtain ⟨b, hob⟩ := Option.isSome_iff_exists.1 hsome
          have hbc : b = c := lit_inj ((hmi.val i b hi hob (.lit (.bool true))).symm.trans (hat _))
          rw [hbc] at hob
          clear hsome hbc e1 hv hkx ec
          have hgr : A.g < W3.heap.size := hR3.sec.lt
          have ho5 : Off (fun x => x = W3.heap.size) wr w5 := (Off.refl _ _).grown hg5 (fun j hj => .inl (by cases hj; rfl))
          have hsec5 := hsec.off ho5 (by omega)
          have hoq5 : Off (fun x => x = A.g) W3 w5 := hoq.step ho5 (fun x hx he => by omega)
          obtain ⟨a1, a2, a3, a4, a5, a6⟩ := hR3.apart
          have hsz5 := hoq5.size
          clear hsec ho5 hg5 hs5
          have hcc : c.size = 256 := hc256
          go_upto_region 10 with (first
            | (refine wpList_store_mid rfl 135 (.tmp 8) (.tmp 47) rfl w5.heap.size 0 (strCells c).toArray rfl rfl (by rw [size_strCells hcc]; exact there_new w5) (by rw [size135, size_strCells hcc]) (all_strCells c) ?_))
          have hbel6 : Below w5.heap.size w5 ((w5.alloc (.cells Tryz.zeroCells135 135)).setCells w5.heap.size 0 (strCells c)) := below_setCells (Nat.le_refl _) _ _ _ ((Below.refl _ _).alloc (Nat.le_refl _) _)
          have hth8 := (there_of_new (W := w5) hcc).1
          have ho56 : Off (fun _ => False) w5 ((w5.alloc (.cells Tryz.zeroCells135 135)).setCells w5.heap.size 0 (strCells c)) := Off.of_below hbel6
          have hg8 : A.g ≠ w5.heap.size := by have := hsec5.lt; omega
          have hq8 : A.q < w5.heap.size := by have := (hR3.lt A.q (.inr (.inl rfl))).2; omega
          obtain ⟨B8, hB8⟩ : ∃ B, w5.heap.size = B := ⟨_, rfl⟩
          rw [hB8] at hth8 ho56 hg8 hq8 hbel6 ⊢
          clear hB8
          obtain ⟨W6, hW6⟩ : ∃ W6, (w5.alloc (.cells Tryz.zeroCells135 135)).setCells B8 0 (strCells c) = W6 := ⟨_, rfl⟩
          rw [hW6] at hth8 ho56 hbel6 ⊢
          clear hW6 hbel6
          have hrg6 := ranges_off hrg5 ho56 (fun h => h) (fun h => h)
          have hsec6 := hsec5.off ho56 (fun h => h)
          have hoq6 : Off (fun x => x = A.g) W3 W6 := hoq5.trans (ho56.mono (fun x _ hx => hx.elim))
          have c0 : W6.cell? ⟨A.q, 0, none⟩ = some (.slice (some ⟨A.g, 0, none⟩) s.n s.n) := (hR3.blkQ.off hoq6 (Ne.symm a2)).cell 0
          have hth : W6.there A.g (i * 256) 256 := hsec6.there hi
          have hu7 := Tryz.underlying135
          have hlc : (strCells c).length = 256 := by rw [strCells_length, hcc]
          have hi7 : (Tryz.prog.info? 135).map (·.size) = some (strCells c).length := by rw [size135, hlc]
          have hone := strCells_oneCell c
          have hsecN := (hsec6.off ((Off.refl (fun _ => False) W6).drew) (fun h => h)).set (i := i) hi hcc
          have hrgN := ranges_off hrg6 ((Off.refl (fun x => x = A.g) W6).drew.trans (Off.setCells (F := fun x => x = A.g) (B := A.g) (.inl rfl) (strCells c) (i * 256) _ (Off.refl _ _))) a6 (by omega)
          have hoN : Off (fun x => x = A.g) W3 (W6.drew.setCells A.g (i * 256) (strCells c)) := Off.setCells (F := fun x => x = A.g) (B := A.g) (.inl rfl) (strCells c) (i * 256) _ hoq6.drew
          have d0 : (W6.drew.setCells A.g (i * 256) (strCells c)).cell? ⟨A.q, 0, none⟩ = some (.slice (some ⟨A.g, 0, none⟩) s.n s.n) := (hR3.blkQ.off hoN (Ne.symm a2)).cell 0
          have hr8 : (W6.drew.setCells A.g (i * 256) (strCells c)).rangeAt B8 0 (strCells c) := World.rangeAt_setCells_apart (w := W6.drew) (fun j v hv => (World.cell?_drew W6 _).trans (hth8 j v hv)) _ _ _ (.inl (Ne.symm hg8))
          clear hrg5 hsec5 hoq5 ho56 hrg6 hoq6 hen hat hwx hsz5
          go_region_held3 (fun W' => W'.cell? ⟨A.q, 0, none⟩ = some (.slice (some ⟨A.g, 0, none⟩) s.n s.n) ∧ W'.rangeAt B8 0 (strCells c) ∧ W'.there A.g (i * 256) (strCells c).length)
            (first
              | exact ⟨d0, hr8, by rw [hlc]; exact hsecN.there hi⟩
              | exact ⟨c0, hth8, by rw [hlc]; exact hth⟩
              | go_keep)
            (fail)
          all_goals
            go_wp2
            go_roundw
            case rel =>
              refine ⟨_, _, hrgN, hsecN.congr (fun t ht => ?_), hoN⟩
              have hk := same_kl (i := t) (j := i)
              show (if (left (kl t) && !(kl t).sameKey (kl i)) = true then s.now t else (old1 t).getD (s.now t)) = upd (fun t => if left (kl t) = true then s.now t else (old1 t).getD (s.now t)) i c t
              unfold upd
              by_cases hti : t = i
              · subst hti
                simp [hk, hob]
              · simp [hk, hti]
            case measure => rw [hrgN.left_eq, hrg.left_eq]; exact hlt5
end Go.Proofs.YtdgbgmffpcooeaaGreat
end
section
/- The tree on its disk: its root, and its nodes, as they are read. -/
namespace Go.Proofs.YtdgbgmffpcooeaaGreat
open Go.RowKit Go.Lib

/-- One step more. -/
def PS.adv (s : PS) : PS := { s with steps := wrap64 (s.steps + 1) }
theorem PS.live {s : PS} (h : s.brk = false) : s.asked = s := by
  unfold PS.asked
  have : s.broken = false := by unfold PS.brk at h; cases hb : s.broken with
    | false => rfl
    | true => rw [hb] at h; simp at h
  rw [h, ← this]
theorem PS.read_live {s : PS} (h : s.brk = false) {i : Nat} (hi : i < s.n) : s.read (i : Int) = (s.now i, 0, s.adv) := by
  unfold PS.read
  rw [if_neg (by omega), h, PS.live h]; rfl
theorem PS.read_dead {s : PS} (h : s.brk = true) {i : Nat} (hi : i < s.n) : s.read (i : Int) = (ByteArray.empty, 4, s.asked) := by
  unfold PS.read
  rw [if_neg (by omega), h]; rfl
theorem PS.adv_brk (s : PS) : s.adv.brk = s.brk := rfl
/-- The nodes that stand on the disk. -/
noncomputable def nodesOf (s : PS) (t : Nat) : Option (Node Box) := nodeOf (s.now t).data.toList
def TreeB (W : World) (t : Nat) (A : PA) (f : Value) : Prop := Blk W t 169 #[.pointer (some ⟨A.q, 0, none⟩), f]
set_option maxRecDepth 100000 in
set_option maxHeartbeats 2000000 in
theorem root_dead (w : World) (base : Nat) (A : PA) (s : PS) (h : PD w base A s) (t : Nat) (f : Value) (ht : TreeB w t A f) (hs : s.brk = true) :
    Calls Tryz.prog 100 #[.pointer (some ⟨t, 0, none⟩)] w fun e w' => e = .returned (.tuple #[.int .i64 0, .int .i64 4]) ∧ PD w' base A s.asked ∧ Off A.F w w' := by
  have c0 : w.cell? ⟨t, 0, none⟩ = some (.pointer (some ⟨A.q, 0, none⟩)) := ht.cell 0
  have hcon := pread_any w base A s h 0
  have e := PS.read_dead hs (i := 0) (by have := h.n1; omega)
  rw [show ((0 : Nat) : Int) = 0 from rfl] at e
  rw [e] at hcon
  clear e ht
  go_enter Tryz.func100, Tryz.ntmps100
  go_wp2_with (go_at_call 128; refine hcon.mono ?_; rintro e w1 ⟨rfl, hP, ho⟩)
  go_ret2
  exact ⟨rfl, hP, ho⟩
set_option maxRecDepth 100000 in
set_option maxHeartbeats 2000000 in
theorem root_live (w : World) (base : Nat) (A : PA) (s : PS) (h : PD w base A s) (t : Nat) (f : Value) (ht : TreeB w t A f) (hs : s.brk = false) :
    Calls Tryz.prog 100 #[.pointer (some ⟨t, 0, none⟩)] w fun e w' => e = .returned (match headOf (s.now 0).data.toList with | some r => .tuple #[.int .i64 (r : Int), .int .i64 0] | none => .tuple #[.int .i64 0, .int .i64 7]) ∧ PD w' base A s.adv ∧ Off A.F w w' := by
  have c0 : w.cell? ⟨t, 0, none⟩ = some (.pointer (some ⟨A.q, 0, none⟩)) := ht.cell 0
  have hcon := pread_any w base A s h 0
  have e := PS.read_live hs (i := 0) (by have := h.n1; omega)
  rw [show ((0 : Nat) : Int) = 0 from rfl] at e
  rw [e] at hcon
  have hsz := h.sec.size 0 (by have := h.n1; omega)
  have hrh := fun W => readHead_any W (s.now 0) hsz
  have hh : headOf (s.now 0).data.toList = if (headOf (s.now 0).data.toList).isSome then some (rootOf (s.now 0).data.toList) else none := by
    unfold headOf; split <;> simp
  have HH : Hid _ := hh
  have HF : Hid (∀ k, A.F k → k < w.heap.size) := fun k hk => (h.lt k hk).2
  clear e ht hh h
  generalize rootOf (s.now 0).data.toList = r at hrh HH
  cases hf : (headOf (s.now 0).data.toList).isSome with
  | true =>
    rw [hf] at hrh HH
    have e2 : headOf (s.now 0).data.toList = some r := HH.out
    rw [e2]
    clear HH hf e2
    go_enter Tryz.func100, Tryz.ntmps100
    go_wp2_with (first
      | (go_at_call 128; refine hcon.mono ?_; rintro e w1 ⟨rfl, hP, ho⟩)
      | (go_at_call 129; refine (hrh _).mono ?_; rintro e w2 ⟨rfl, hb⟩))
    go_ret2
    exact ⟨rfl, hP.below hb, ho.trans (Off.of_below hb)⟩
  | false =>
    rw [hf] at hrh HH
    have e2 : headOf (s.now 0).data.toList = none := HH.out
    rw [e2]
    clear HH hf e2
    go_enter Tryz.func100, Tryz.ntmps100
    go_wp2_with (first
      | (go_at_call 128; refine hcon.mono ?_; rintro e w1 ⟨rfl, hP, ho⟩)
      | (go_at_call 129; refine (hrh _).mono ?_; rintro e w2 ⟨rfl, hb⟩))
    go_ret2
    exact ⟨rfl, hP.below hb, ho.trans (Off.of_below hb)⟩
/-- What a read of a node answers. -/
def ReadT (W : World) (base : Nat) (s : PS) (sec : Nat) (e : Ending) : Prop :=
  (∃ v nd, nodesOf s sec = some nd ∧ e = .returned (.tuple #[v, .int .i64 0]) ∧ NodeV W v nd ∧ Fresh base v) ∨ (nodesOf s sec = none ∧ e = .returned (.tuple #[.nilIface, .int .i64 7]))
set_option maxRecDepth 100000 in
set_option maxHeartbeats 2000000 in
theorem tread_live (w : World) (base : Nat) (A : PA) (s : PS) (h : PD w base A s) (t : Nat) (f : Value) (ht : TreeB w t A f) (hs : s.brk = false) (sec : Nat) (hsec : sec < s.n) :
    Calls Tryz.prog 130 #[.pointer (some ⟨t, 0, none⟩), .int .i64 (sec : Int)] w fun e w' => ReadT w' w.heap.size s sec e ∧ PD w' base A s.adv ∧ Off A.F w w' := by
  have c0 : w.cell? ⟨t, 0, none⟩ = some (.pointer (some ⟨A.q, 0, none⟩)) := ht.cell 0
  have hcon := pread_any w base A s h (sec : Int)
  rw [PS.read_live hs hsec] at hcon
  have hsz := h.sec.size sec hsec
  have hrn := fun W => readNode_any W (s.now sec) hsz
  cases hn : nodesOf s sec with
  | some nd =>
    have hrn2 : ∀ W, Calls Tryz.prog 167 #[.string (s.now sec)] W fun e w' => ∃ v, e = .returned (.tuple #[v, .bool true]) ∧ NodeV w' v nd ∧ Fresh W.heap.size v ∧ Below W.heap.size W w' := fun W => (hrn W).mono fun e w' ⟨h1, h2⟩ => by
      rcases h1 with ⟨v, nd', g1, g2, g3, g4⟩ | ⟨g1, _⟩
      · have : nd' = nd := Option.some.inj (g1.symm.trans hn)
        subst this; exact ⟨v, g2, g3, g4, h2⟩
      · have : (none : Option (Node Box)) = some nd := g1.symm.trans hn
        cases this
    have HN : Hid (nodesOf s sec = some nd) := hn
    clear hrn hn h ht hs hsec hsz
    go_enter Tryz.func130, Tryz.ntmps130
    go_wp2_with (first
      | (go_at_call 128; refine hcon.mono ?_; rintro e w1 ⟨rfl, hP, ho⟩)
      | (go_at_call 167; refine (hrn2 _).mono ?_; rintro e w2 ⟨v, rfl, hv, hfr, hb⟩))
    go_ret2
    exact ⟨.inl ⟨v, nd, HN.out, rfl, hv, hfr.mono ho.size⟩, hP.below hb, ho.trans (Off.of_below hb)⟩
  | none =>
    have hrn2 : ∀ W, Calls Tryz.prog 167 #[.string (s.now sec)] W fun e w' => ∃ v, e = .returned (.tuple #[v, .bool false]) ∧ Below W.heap.size W w' := fun W => (hrn W).mono fun e w' ⟨h1, h2⟩ => by
      rcases h1 with ⟨v, nd', g1, g2, g3⟩ | ⟨_, v, g2⟩
      · have : (none : Option (Node Box)) = some nd' := hn.symm.trans g1
        cases this
      · exact ⟨v, g2, h2⟩
    have HN : Hid (nodesOf s sec = none) := hn
    clear hrn hn h ht hs hsec hsz
    go_enter Tryz.func130, Tryz.ntmps130
    go_wp2_with (first
      | (go_at_call 128; refine hcon.mono ?_; rintro e w1 ⟨rfl, hP, ho⟩)
      | (go_at_call 167; refine (hrn2 _).mono ?_; rintro e w2 ⟨v, rfl, hb⟩))
    go_ret2
    exact ⟨.inr ⟨HN.out, rfl⟩, hP.below hb, ho.trans (Off.of_below hb)⟩
end Go.Proofs.YtdgbgmffpcooeaaGreat
end
section
/- A change in memory: where it lies, what a step leaves of the rest. -/
namespace Go.Proofs.YtdgbgmffpcooeaaGreat
open Go.RowKit Go.Lib Go.Maps

theorem wrap64_add (x : Int) (k : Nat) : wrap64 (wrap64 (x + (k : Int)) + 1) = wrap64 (x + ((k + 1 : Nat) : Int)) := by unfold wrap64; omega
/-- The disk behind so many reads more. -/
def PS.at_ (s : PS) (k : Nat) : PS := { s with steps := wrap64 (s.steps + (k : Int)) }
theorem PS.at_adv (s : PS) (k : Nat) : (s.at_ k).adv = s.at_ (k + 1) := by unfold PS.at_ PS.adv; simp only [wrap64_add]
theorem PS.at_brk (s : PS) (k : Nat) : (s.at_ k).brk = s.brk := rfl
theorem PS.at_nodes (s : PS) (k : Nat) : nodesOf (s.at_ k) = nodesOf s := rfl
/-- How a node in a map is read: as it stands. -/
def nodR (v : Value) : Option (DataW Value × List MemPlace) := some (.held v, [])
/-- What the map of new nodes holds. -/
structure MadeIs (W : World) (D : DataW Value) (made : Nat → Option (Node Box)) : Prop where
  has_ : ∀ i, i < 4096 → Maps.has D (kl i) = (made i).isSome
  val : ∀ i nd, made i = some nd → ∃ v, NodeV W v nd ∧ ∀ z, D.atKey (kl i) z = .held v
  keys : ∀ k, Maps.has D k = true → ∃ i, i < 4096 ∧ k = kl i
  low : ∀ i nd, made i = some nd → i < 4096
theorem MadeIs.off {F : Nat → Prop} {W W' : World} {D : DataW Value} {made : Nat → Option (Node Box)} (h : MadeIs W D made) (ho : Off F W W') (hF : ∀ b, F b → ¬ RowTag W b) : MadeIs W' D made :=
  ⟨h.has_, fun i nd hi => by obtain ⟨v, h1, h2⟩ := h.val i nd hi; exact ⟨v, h1.off ho hF, h2⟩, h.keys, h.low⟩
abbrev secsV (l : List Nat) : List Value := l.map fun i : Nat => .int .i64 (i : Int)
/-- A change in its blocks. -/
structure ChS (W : World) (cb c t mb root : Nat) (s : CS Box) (fv lv : Value) : Prop where
  blk : Blk W c 185 #[.pointer (some ⟨t, 0, none⟩), .int .i64 (root : Int), .map (some mb), fv, lv]
  le : cb ≤ c ∧ cb ≤ mb
  free : W.ownsRow cb 3 1 fv s.free.length (secsV s.free)
  left : W.ownsRow cb 3 1 lv s.left.length (secsV s.left)
  ne : ∀ g, fv.ownBlock = some g → lv.ownBlock ≠ some g
  made : ∃ k D, W.ownsMap Tryz.prog 3 nodR mb k D ∧ k ≤ 4096 ∧ MadeIs W D s.made
  few : s.free.length + s.left.length ≤ 100000
def IntTag (W : World) (k : Nat) : Prop := ∃ cs f, W.heap[k]? = some (.cells cs 3 f)
/-- What a change may write: the disk, its own blocks, its rows of numbers. -/
def ChF (W : World) (A : PA) (cb c mb : Nat) (k : Nat) : Prop := A.F k ∨ k = c ∨ k = mb ∨ (cb ≤ k ∧ IntTag W k)
theorem ChF.trans {A : PA} {cb c mb : Nat} {a b d : World} (h : Off (ChF a A cb c mb) a b) (k : Off (ChF b A cb c mb) b d) : Off (ChF a A cb c mb) a d := h.step k fun i hi hg => by
  rcases hg with hg | hg | hg | ⟨h1, cs, f, h2⟩
  · exact .inl hg
  · exact .inr (.inl hg)
  · exact .inr (.inr (.inl hg))
  · refine Classical.byContradiction fun hn => hn (.inr (.inr (.inr ⟨h1, cs, f, ?_⟩)))
    rw [← h2]; exact (h.block i hi hn).symm
theorem ChF.disk {A : PA} {cb c mb : Nat} {a b : World} (h : Off A.F a b) : Off (ChF a A cb c mb) a b := h.mono fun _ _ hk => .inl hk
theorem map_lt' {W : World} {m k : Nat} {D : DataW Value} (h : W.ownsMap Tryz.prog 3 nodR m k D) : m < W.heap.size := by obtain ⟨es, c, h1, h2⟩ := h; exact (Array.getElem?_eq_some_iff.1 h1).1
theorem nmap_off {F : Nat → Prop} {W W' : World} {m k : Nat} {D : DataW Value} (h : W.ownsMap Tryz.prog 3 nodR m k D) (ho : Off F W W') (hm : ¬ F m) : W'.ownsMap Tryz.prog 3 nodR m k D := by
  obtain ⟨es, c, h1, h2⟩ := h
  exact ⟨es, c, (ho.block m (Array.getElem?_eq_some_iff.1 h1).1 hm).trans h1, h2⟩
theorem PD.norow {W : World} {base : Nat} {A : PA} {s : PS} (h : PD W base A s) : ∀ k, A.F k → ¬ RowTag W k := fun k hk hr => by
  obtain ⟨c, D, ⟨es, cc, h1, _⟩, _⟩ := h.map
  obtain ⟨cur, h2, _⟩ := h.sec.blk
  have hp : W.heap[A.p]? = _ := h.blkP
  have hq : W.heap[A.q]? = _ := h.blkQ
  have fin : ∀ tg, (∃ cs, W.heap[k]? = some (.cells cs tg (0, 0))) → tg ≠ 109 → tg ≠ 133 → tg ≠ 135 → False := fun tg ⟨cs, hc⟩ n1 n2 n3 => by
    rcases hk with rfl | rfl | rfl | rfl
    · rw [hp] at hc; simp only [Option.some.injEq, Obj.cells.injEq] at hc; exact n1 hc.2.1.symm
    · rw [hq] at hc; simp only [Option.some.injEq, Obj.cells.injEq] at hc; exact n2 hc.2.1.symm
    · rw [h2] at hc; simp only [Option.some.injEq, Obj.cells.injEq] at hc; exact n3 hc.2.1.symm
    · rw [h1] at hc; cases hc
  rcases hr with hr | hr
  · exact fin 156 hr (by decide) (by decide) (by decide)
  · exact fin 234 hr (by decide) (by decide) (by decide)
/-- A change, its tree and its disk, together. -/
structure Cg (W : World) (base : Nat) (A : PA) (s0 : PS) (t : Nat) (f : Value) (cb c mb root : Nat) (s : CS Box) (fv lv : Value) : Prop where
  pd : PD W base A (s0.at_ s.reads)
  tr : TreeB W t A f
  ch : ChS W cb c t mb root s fv lv
  tl : t < cb
  al : ∀ k, A.F k → k < cb
  cl : c < W.heap.size ∧ mb < W.heap.size ∧ cb ≤ W.heap.size
theorem Cg.norow {W : World} {base : Nat} {A : PA} {s0 : PS} {t : Nat} {f : Value} {cb c mb root : Nat} {s : CS Box} {fv lv : Value} (h : Cg W base A s0 t f cb c mb root s fv lv) : ∀ k, ChF W A cb c mb k → ¬ RowTag W k := fun k hk hr => by
  rcases hk with hk | rfl | rfl | ⟨_, cs, ff, hk⟩
  · exact h.pd.norow k hk hr
  · have hb : W.heap[k]? = _ := h.ch.blk
    rcases hr with ⟨c2, hr⟩ | ⟨c2, hr⟩ <;> rw [hb] at hr <;> simp at hr
  · obtain ⟨kk, D, ⟨es, c2, hb, _⟩, _⟩ := h.ch.made
    rcases hr with ⟨c2, hr⟩ | ⟨c2, hr⟩ <;> rw [hb] at hr <;> cases hr
  · rcases hr with ⟨c2, hr⟩ | ⟨c2, hr⟩ <;> rw [hk] at hr <;> simp at hr
/-- What is read alone, or laid anew, leaves a change as it was; reads count. -/
theorem ChS.off {F : Nat → Prop} {W W' : World} {cb c t mb root : Nat} {s : CS Box} {fv lv : Value} (h : ChS W cb c t mb root s fv lv) (ho : Off F W W') (hF : ∀ k, F k → k < cb) (hr : ∀ b, F b → ¬ RowTag W b) : ChS W' cb c t mb root s fv lv := by
  obtain ⟨k, D, h1, h2, h3⟩ := h.made
  have hle := h.le
  refine ⟨h.blk.off ho (fun hf => by have := hF _ hf; omega), h.le, own_offv h.free ho (fun g hg hf => ?_), own_offv h.left ho (fun g hg hf => ?_), h.ne, ⟨k, D, nmap_off h1 ho (fun hf => by have := hF _ hf; omega), h2, h3.off ho hr⟩, h.few⟩
  · have := hF _ hf; have := (own_tagged h.free hg).1; omega
  · have := hF _ hf; have := (own_tagged h.left hg).1; omega
theorem Cg.below {W W' : World} {base : Nat} {A : PA} {s0 : PS} {t : Nat} {f : Value} {cb c mb root : Nat} {s : CS Box} {fv lv : Value} (h : Cg W base A s0 t f cb c mb root s fv lv) (hb : Below W.heap.size W W') : Cg W' base A s0 t f cb c mb root s fv lv :=
  ⟨h.pd.below hb, h.tr.below hb h.tr.lt, h.ch.off (F := fun _ => False) (Off.of_below hb) (fun _ h => h.elim) (fun _ h => h.elim), h.tl, h.al, by have := h.cl; have := hb.size; exact ⟨by omega, by omega, by omega⟩⟩
end Go.Proofs.YtdgbgmffpcooeaaGreat
end
