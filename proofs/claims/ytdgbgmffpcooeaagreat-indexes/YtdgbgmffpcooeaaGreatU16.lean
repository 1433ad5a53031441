/- Pk7 KSort Keys Pk8 -/
import Derived.Test.YtdgbgmffpcooeaaGreatU15
import Derived.Shelf.SlIterI.Nil
import Derived.Shelf.SortM.Plain
import Derived.Shelf.SortM.SortNone
import Derived.Ground.GgzProg
import Derived.Ground.SlgmProg
namespace Go.Proofs.YtdgbgmffpcooeaaGreat
open Go.RowKit Go.Lib Go.Maps
section
def PS.safe (s : PS) (t : Nat) : ByteArray := (s.old t).getD (s.now t)
end
end Go.Proofs.YtdgbgmffpcooeaaGreat
namespace Go.Proofs
open Go.Shelf
section
def Tryz.keysI_ren : Go.Shelf.Ren := ⟨fun | 7 => 72 | 10 => 98 | n => n,fun | 23 => 131 | 26 => 3 | 3 => 135 | 28 => 139 | 0 => 0 | 27 => 138 | 33 => 145 | 4 => 4 | n => n,fun | n => n⟩
def Tryz.keysN_ren : Go.Shelf.Ren := ⟨fun | 7 => 148 | 10 => 184 | n => n,fun | 23 => 183 | 26 => 3 | 3 => 175 | 28 => 139 | 0 => 0 | 27 => 138 | 33 => 145 | 4 => 4 | n => n,fun | n => n⟩
theorem Tryz.keysN : Go.Proofs.SlLaysZI.n7 Tryz.prog Tryz.keysN_ren := {
 mixed := by kernel_rfl
 f7 := ⟨Tryz.f148.name,by decide,Tryz.func148.trans (congrArg some (by kernel_rfl))⟩
 f10 := ⟨Tryz.f184.name,by decide,Tryz.func184.trans (congrArg some (by kernel_rfl))⟩
 t0 := Tryz.underlying0
 a0 := Tryz.isAgg0
 z0 := Tryz.sizeOf0
 v0 := Tryz.zeroValue0
 t4 := Tryz.underlying4
 a4 := Tryz.isAgg4
 z4 := Tryz.sizeOf4
 v4 := Tryz.zeroValue4
 t23 := Tryz.underlying183
 a23 := Tryz.isAgg183
 z23 := Tryz.sizeOf183
 v23 := Tryz.zeroValue183
 t26 := Tryz.underlying3
 a26 := Tryz.isAgg3
 z26 := Tryz.sizeOf3
 v26 := Tryz.zeroValue3
 t27 := Tryz.underlying138
 a27 := Tryz.isAgg138
 z27 := Tryz.sizeOf138
 v27 := Tryz.zeroValue138
 t28 := Tryz.underlying139
 a28 := Tryz.isAgg139
 z28 := Tryz.sizeOf139
 v28 := Tryz.zeroValue139
 t33 := Tryz.underlying145
 a33 := Tryz.isAgg145
 z33 := Tryz.sizeOf145
 v33 := Tryz.zeroValue145 }
def Tryz.sortedI_ren : Go.Shelf.Ren := ⟨fun | 6 => 71 | 8 => 97 | 9 => 93 | 11 => 127 | 13 => 126 | 12 => 125 | 23 => 162 | 24 => 163 | 14 => 153 | 15 => 154 | 16 => 155 | 17 => 156 | 18 => 157 | 19 => 158 | 20 => 159 | 21 => 160 | 22 => 161 | 25 => 190 | 26 => 191 | 27 => 192 | 28 => 193 | 29 => 194 | 30 => 177 | 31 => 216 | n => n,fun | 26 => 3 | 28 => 139 | 24 => 35 | 0 => 0 | 3 => 3 | 37 => 204 | 48 => 243 | 50 => 245 | 4 => 4 | 40 => 237 | 39 => 236 | 45 => 125 | 5 => 5 | 9 => 9 | 51 => 266 | 55 => 270 | 57 => 295 | 58 => 200 | 33 => 145 | n => n,fun | n => n⟩
theorem Tryz.sortedI : Go.Proofs.SlLaysZI.n6 Tryz.prog Tryz.sortedI_ren := {
 mixed := by kernel_rfl
 f6 := ⟨Tryz.f71.name,by decide,Tryz.func71.trans (congrArg some (by kernel_rfl))⟩
 f8 := ⟨Tryz.f97.name,by decide,Tryz.func97.trans (congrArg some (by kernel_rfl))⟩
 f11 := ⟨Tryz.f127.name,by decide,Tryz.func127.trans (congrArg some (by kernel_rfl))⟩
 t0 := Tryz.underlying0
 a0 := Tryz.isAgg0
 z0 := Tryz.sizeOf0
 v0 := Tryz.zeroValue0
 t24 := Tryz.underlying35
 a24 := Tryz.isAgg35
 z24 := Tryz.sizeOf35
 v24 := Tryz.zeroValue35
 t26 := Tryz.underlying3
 a26 := Tryz.isAgg3
 z26 := Tryz.sizeOf3
 v26 := Tryz.zeroValue3
 t28 := Tryz.underlying139
 a28 := Tryz.isAgg139
 z28 := Tryz.sizeOf139
 v28 := Tryz.zeroValue139
 i26 := by kernel_rfl }
def Tryz.sortI_ren : Go.Shelf.Ren := ⟨fun | 5 => 93 | 8 => 126 | 7 => 125 | 19 => 162 | 20 => 163 | 10 => 153 | 11 => 154 | 12 => 155 | 13 => 156 | 14 => 157 | 15 => 158 | 16 => 159 | 17 => 160 | 18 => 161 | 30 => 190 | 31 => 191 | 32 => 192 | 33 => 193 | 34 => 194 | 35 => 177 | 40 => 216 | n => n,fun | 23 => 35 | 25 => 3 | 3 => 3 | 32 => 204 | 22 => 35 | 0 => 0 | 44 => 243 | 46 => 245 | 4 => 4 | 36 => 237 | 35 => 236 | 41 => 125 | 5 => 5 | 9 => 9 | 53 => 266 | 57 => 270 | 63 => 295 | 64 => 200 | n => n,fun | n => n⟩
theorem Tryz.sortI : Go.Proofs.SlLaysM.n5 Tryz.prog Tryz.sortI_ren := {
 mixed := by kernel_rfl
 f5 := ⟨Tryz.f93.name,by decide,Tryz.func93.trans (congrArg some (by kernel_rfl))⟩
 f7 := ⟨Tryz.f125.name,by decide,Tryz.func125.trans (congrArg some (by kernel_rfl))⟩
 f8 := Tryz.func126.trans (congrArg some (by kernel_rfl))
 f10 := ⟨Tryz.f153.name,by decide,Tryz.func153.trans (congrArg some (by kernel_rfl))⟩
 f11 := ⟨Tryz.f154.name,by decide,Tryz.func154.trans (congrArg some (by kernel_rfl))⟩
 f12 := ⟨Tryz.f155.name,by decide,Tryz.func155.trans (congrArg some (by kernel_rfl))⟩
 f13 := ⟨Tryz.f156.name,by decide,Tryz.func156.trans (congrArg some (by kernel_rfl))⟩
 f14 := ⟨Tryz.f157.name,by decide,Tryz.func157.trans (congrArg some (by kernel_rfl))⟩
 f15 := ⟨Tryz.f158.name,by decide,Tryz.func158.trans (congrArg some (by kernel_rfl))⟩
 f16 := ⟨Tryz.f159.name,by decide,Tryz.func159.trans (congrArg some (by kernel_rfl))⟩
 f17 := ⟨Tryz.f160.name,by decide,Tryz.func160.trans (congrArg some (by kernel_rfl))⟩
 f18 := ⟨Tryz.f161.name,by decide,Tryz.func161.trans (congrArg some (by kernel_rfl))⟩
 f19 := Tryz.func162.trans (congrArg some (by kernel_rfl))
 f20 := Tryz.func163.trans (congrArg some (by kernel_rfl))
 f30 := ⟨Tryz.f190.name,by decide,Tryz.func190.trans (congrArg some (by kernel_rfl))⟩
 f31 := Tryz.func191.trans (congrArg some (by kernel_rfl))
 f32 := Tryz.func192.trans (congrArg some (by kernel_rfl))
 f33 := ⟨Tryz.f193.name,by decide,Tryz.func193.trans (congrArg some (by kernel_rfl))⟩
 f34 := ⟨Tryz.f194.name,by decide,Tryz.func194.trans (congrArg some (by kernel_rfl))⟩
 f35 := ⟨Tryz.f177.name,by decide,Tryz.func177.trans (congrArg some (by kernel_rfl))⟩
 f40 := ⟨Tryz.f216.name,by decide,Tryz.func216.trans (congrArg some (by kernel_rfl))⟩
 t0 := Tryz.underlying0
 a0 := Tryz.isAgg0
 z0 := Tryz.sizeOf0
 v0 := Tryz.zeroValue0
 t3 := Tryz.underlying3
 a3 := Tryz.isAgg3
 z3 := Tryz.sizeOf3
 v3 := Tryz.zeroValue3
 t4 := Tryz.underlying4
 a4 := Tryz.isAgg4
 z4 := Tryz.sizeOf4
 v4 := Tryz.zeroValue4
 t5 := Tryz.underlying5
 a5 := Tryz.isAgg5
 z5 := Tryz.sizeOf5
 v5 := Tryz.zeroValue5
 t9 := Tryz.underlying9
 a9 := Tryz.isAgg9
 z9 := Tryz.sizeOf9
 v9 := Tryz.zeroValue9
 t22 := Tryz.underlying35
 a22 := Tryz.isAgg35
 z22 := Tryz.sizeOf35
 v22 := Tryz.zeroValue35
 t23 := Tryz.underlying35
 a23 := Tryz.isAgg35
 z23 := Tryz.sizeOf35
 v23 := Tryz.zeroValue35
 t25 := Tryz.underlying3
 a25 := Tryz.isAgg3
 z25 := Tryz.sizeOf3
 v25 := Tryz.zeroValue3
 t32 := Tryz.underlying204
 a32 := Tryz.isAgg204
 z32 := Tryz.sizeOf204
 v32 := Tryz.zeroValue204
 t35 := Tryz.underlying236
 a35 := Tryz.isAgg236
 z35 := Tryz.sizeOf236
 v35 := Tryz.zeroValue236
 t36 := Tryz.underlying237
 a36 := Tryz.isAgg237
 z36 := Tryz.sizeOf237
 v36 := Tryz.zeroValue237
 t41 := Tryz.underlying125
 a41 := Tryz.isAgg125
 z41 := Tryz.sizeOf125
 v41 := Tryz.zeroValue125
 t44 := Tryz.underlying243
 a44 := Tryz.isAgg243
 z44 := Tryz.sizeOf243
 v44 := Tryz.zeroValue243
 t46 := Tryz.underlying245
 a46 := Tryz.isAgg245
 z46 := Tryz.sizeOf245
 v46 := Tryz.zeroValue245
 t53 := Tryz.underlying266
 a53 := Tryz.isAgg266
 z53 := Tryz.sizeOf266
 v53 := Tryz.zeroValue266
 t57 := Tryz.underlying270
 a57 := Tryz.isAgg270
 z57 := Tryz.sizeOf270
 v57 := Tryz.zeroValue270
 t63 := Tryz.underlying295
 a63 := Tryz.isAgg295
 z63 := Tryz.sizeOf295
 v63 := Tryz.zeroValue295
 t64 := Tryz.underlying200
 a64 := Tryz.isAgg200
 z64 := Tryz.sizeOf200
 v64 := Tryz.zeroValue200 }
end
end Go.Proofs
namespace Go.Proofs.YtdgbgmffpcooeaaGreat
open Go.RowKit Go.Maps Go.Sort Go.Shelf
section
theorem sortsI (m : Nat) : AnyZI.SortsIn Tryz.prog Tryz.sortedI_ren Fence.wide m :=
  ⟨fun blk off cap ss W hH hblk hsz => callsIn_wide.2 (AnyM.slices_Sort_int Tryz.sortI blk off cap ss W hH hblk hsz),
   fun p cap W => callsIn_wide.2 (AnyM.slices_Sort_int_none Tryz.sortI p cap W)⟩
end
end Go.Proofs.YtdgbgmffpcooeaaGreat
namespace Go.Proofs.YtdgbgmffpcooeaaGreat
open Go.RowKit Go.Lib Go.Maps
section
def dirtyOf (old : Nat → Option ByteArray) (i : Nat) : Bool := (old i).isSome
def rowOf (d : Nat → Bool) (n : Nat) : List Nat := (List.range n).filter d
theorem mem_rowOf (d : Nat → Bool) (n i : Nat) : i ∈ rowOf d n ↔ i < n ∧ d i = true := by simp [rowOf]
theorem rowOf_sorted (d : Nat → Bool) (n : Nat) : (rowOf d n).Pairwise (· < ·) := List.Pairwise.filter _ List.pairwise_lt_range
theorem length_rowOf (d : Nat → Bool) (n : Nat) : (rowOf d n).length = rank d n := by simp [rowOf,rank,List.countP_eq_length_filter]
theorem rowOf_split (d : Nat → Bool) {n i : Nat} (hi : i < n) : ∃ r,rowOf d n = rowOf d i ++ (if d i then i :: r else r) := by
 obtain ⟨m,rfl⟩ : ∃ m,n = i + (1 + m) := ⟨n - i - 1,by omega⟩
 refine ⟨((List.range m).map (i + 1 + ·)).filter d, ?_⟩
 unfold rowOf
 rw [List.range_add,List.filter_append]
 congr 1
 rw [Nat.add_comm 1 m,List.range_succ_eq_map]
 simp only [List.map_cons,List.map_map,List.filter_cons,Nat.add_zero]
 have e : (i + ·) ∘ Nat.succ = (i + 1 + ·) := by funext x; simp; omega
 rw [e]
theorem rowOf_rank (d : Nat → Bool) {n i : Nat} (hi : i < n) (hd : d i = true) : (rowOf d n)[rank d i]? = some i := by
 obtain ⟨r,hr⟩ := rowOf_split d hi
 rw [hr,hd,if_pos rfl,List.getElem?_append_right (by rw [length_rowOf]; exact Nat.le_refl _),length_rowOf,Nat.sub_self]
 rfl
theorem rank_of_get (d : Nat → Bool) {n p i : Nat} (h : (rowOf d n)[p]? = some i) : i < n ∧ d i = true ∧ rank d i = p := by
 obtain ⟨hp,e⟩ := List.getElem?_eq_some_iff.1 h
 have hm : i ∈ rowOf d n := e ▸ List.getElem_mem hp
 obtain ⟨h1,h2⟩ := (mem_rowOf d n i).1 hm
 refine ⟨h1,h2, ?_⟩
 have h3 := rowOf_rank d h1 h2
 obtain ⟨hq,e2⟩ := List.getElem?_eq_some_iff.1 h3
 have hs := List.pairwise_iff_getElem.1 (rowOf_sorted d n)
 rcases Nat.lt_trichotomy (rank d i) p with g | g | g
 ·have := hs _ _ hq hp g; omega
 ·exact g
 ·have := hs _ _ hp hq g; omega
theorem MapIs.del {D : DataW Unit} {old : Nat → Option ByteArray} {n : Nat} (h : MapIs D old n) {i : Nat} (hi : i < n) : MapIs (D.del (kl i)) (upd old i none) n := by
 refine ⟨fun t ht => ?_,fun t c ht hc z => ?_,fun k hk => ?_,fun t c ht hc => ?_⟩
 ·by_cases e : t = i
  ·subst e; rw [has_del_same,upd_same]; rfl
  ·rw [has_del_other (kl_ne e),h.has_ t ht,upd_ne old _ e]
 ·by_cases e : t = i
  ·subst e; rw [upd_same] at hc; cases hc
  ·rw [upd_ne old _ e] at hc
   rw [atKey_del_other (kl_ne e)]
   exact h.val t c ht hc z
 ·by_cases e : k = kl i
  ·exact ⟨i,hi,e⟩
  ·rw [has_del_other e] at hk
   exact h.keys k hk
 ·by_cases e : t = i
  ·subst e; rw [upd_same] at hc; cases hc
  ·rw [upd_ne old _ e] at hc
   exact h.size t c ht hc
def keptOld (old : Nat → Option ByteArray) (K : Nat → Int) (k : Nat) : Nat → Option ByteArray := fun t => if keptAt K k (rank (dirtyOf old) t) then none else old t
theorem MapIs.congr {D : DataW Unit} {old old' : Nat → Option ByteArray} {n : Nat} (h : MapIs D old n) (he : ∀ t,t < n → old' t = old t) : MapIs D old' n :=
 ⟨fun t ht => by rw [he t ht]; exact h.has_ t ht,fun t b ht hb => h.val t b ht (by rw [← he t ht]; exact hb),h.keys,fun t b ht hb => h.size t b ht (by rw [← he t ht]; exact hb)⟩
end
end Go.Proofs.YtdgbgmffpcooeaaGreat
