/- Pk7 KSort Keys Pk8 -/
import Derived.Test.YtdgbgmffpcooeaaGreatV15
import Derived.Shelf.SlIterI.Nil
import Derived.Shelf.SortM.Plain
import Derived.Shelf.SortM.SortNone
import Derived.Ground.GgzProg
import Derived.Ground.SlgmProg
namespace Go.Proofs.YtdgbgmffpcooeaaGreat
open Go.RowKit Go.Lib Go.Maps
section
def PS.safe (s : PS) (t : Nat) : ByteArray := (s.old t).getD (s.now t)
theorem there_of_new {W : World} {b : ByteArray} (hb : b.size = 256) : ((W.alloc (.cells Tryz.zeroCells135 135)).setCells W.heap.size 0 (strCells b)).rangeAt W.heap.size 0 (strCells b) ∧ ((W.alloc (.cells Tryz.zeroCells135 135)).setCells W.heap.size 0 (strCells b)).there W.heap.size 0 256 :=
 ⟨World.rangeAt_setCells_same _ _ _ _ (by rw [strCells_length,hb]; exact there_new W),World.there_setCells (there_new W) _ _ _⟩
theorem there_lt {W : World} {b o n : Nat} (h : W.there b o n) (hn : 0 < n) : b < W.heap.size := by
 obtain ⟨u,hu⟩ := Option.isSome_iff_exists.1 (h 0 hn).1
 exact World.block_lt_of_cell? W _ hu
theorem news_of {W : World} {g : Nat} {cs : List Value} (h : W.rangeAt g 0 cs) : ∀ j u,cs[j]? = some u → W.cell? ((⟨g, 0,none⟩ : Addr).add j) = some u := fun j u hu => by
 rw [Addr.add_mid]; exact h j u hu
set_option maxRecDepth 100000 in
set_option maxHeartbeats 2000000 in
theorem pimage_any (w : World) (base : Nat) (A : PA) (s : PS) (h : PD w base A s) :
  Calls Tryz.prog 47 #[.pointer (some ⟨A.q, 0,none⟩)] w fun e w' => e = .returned (.string ⟨(joined s.safe s.n).toArray⟩) ∧ Below w.heap.size w w' := by
 obtain ⟨i5,hi5,hz5a,hz5b,hz5c⟩ := info_parts info5
 have hn1 := h.n1
 have hn2 := h.n2
 obtain ⟨km,D,hm1,hm2,hm3⟩ := h.map
 have hok : ∀ t,t < s.n → (s.safe t).size = 256 := fun t ht => by
  unfold PS.safe
  cases ho : s.old t with
  | none => exact h.sec.size t ht
  | some b => exact hm3.size t b ht ho
 obtain ⟨c0,c1,c2,c3,c4⟩ := h.cells
 have hm : wrap64 ((s.n : Int) * 256) = ((s.n * 256 : Nat) : Int) := by unfold wrap64; omega
 go_enter Tryz.func47,Tryz.ntmps47
 go_wp2_with (at_make; refine wpList_make_own _ rfl _ (.tmp 13) 81 rfl w.heap.size 5 i5 _ 1 Tryz.underlying81 hi5 hz5a hz5b _ _ _ (s.n * 256) rfl rfl (by omega) (by rw [hz5c]; omega) (by unfold maxLen; omega) (Nat.le_refl _) ?_; intro w1 hown hgrow; have hB1 : Below w.heap.size w w1 := (Below.refl _ _).grown hgrow (Nat.le_refl _) (fun k hk => (by cases hk)); have d0 : w1.cell? ⟨A.q, 0,none⟩ = some (.slice (some ⟨A.g, 0,none⟩) s.n s.n) := (h.below hB1).cells.1)
 clear hgrow d0
 go_loopw [3, 20] (fun v x wr => ∃ j : Nat,x = .int .i64 (j : Int) ∧ j ≤ s.n ∧ wr.ownsRow w.heap.size 5 1 v (j * 256) (byteCells (joined s.safe j)) ∧ Below w.heap.size w wr) (fun _ x _ => s.n - (intOf x).toNat)
 case atStart => exact ⟨0,rfl,by omega,by rw [joined_zero]; simpa [byteCells] using hown,hB1⟩
 case round =>
  obtain ⟨j,rfl,hj,hv,hB⟩ := hrel
  clear hown hB1 c0 c1 c2 c3 c4
  have hRw := h.below hB
  have hs := hB.size
  by_cases hlt : j < s.n
  ·have hlt' : (j : Int) < (s.n : Int) := by omega
   have hrg := hRw.sec.at_ j hlt
   have hgl := hRw.sec.lt
   have hnj : (s.now j).size = 256 := h.sec.size j hlt
   have hsj := hok j hlt
   go_upto_region 5 with (first
    | (refine wpList_load_mid rfl 135 (.tmp 23) rfl A.g (j * 256) rfl (strCells (s.now j)) _ hrg Tryz.underlying135 rfl (by rw [size135,strCells_length,hnj]) ?_)
    | (refine wpList_store_mid rfl 135 (.tmp 5) (.tmp 24) rfl wr.heap.size 0 (strCells (s.now j)).toArray rfl rfl (by rw [size_strCells hnj]; exact there_new wr) (by rw [size135,size_strCells hnj]) (all_strCells (s.now j)) ?_))
   have hbW1 : Below wr.heap.size wr ((wr.alloc (.cells Tryz.zeroCells135 135)).setCells wr.heap.size 0 (strCells (s.now j))) := below_setCells (Nat.le_refl _) _ _ _ ((Below.refl _ _).alloc (Nat.le_refl _) _)
   have hn5 := there_of_new (W := wr) hnj
   have hlt5 := there_lt hn5.2 (by omega)
   obtain ⟨W1,hW1⟩ : ∃ W1,(wr.alloc (.cells Tryz.zeroCells135 135)).setCells wr.heap.size 0 (strCells (s.now j)) = W1 := ⟨_,rfl⟩
   rw [hW1] at hbW1 hn5 hlt5 ⊢
   clear hW1
   have hR1 := hRw.below hbW1
   obtain ⟨n5a,n5b⟩ := hn5
   have c1 : W1.cell? ⟨A.q, 1,none⟩ = some (.map (some A.m)) := hR1.cells.2.1
   have hmW := map_off hm1 (Off.of_below (F := fun _ => False) (hB.trans (hbW1.mono hs))) (fun h => h)
   have hkey := key_of j (by omega)
   have hhas := hm3.has_ j hlt
   cases ho : s.old j with
   | none =>
    rw [ho] at hhas
    have HS : Hid (s.safe j = s.now j) := by show _ = _; unfold PS.safe; rw [ho]; rfl
    clear ho
    go_upto_region 8 with (first
     | (at_lookup; refine wpList_lookup_own_ok _ rfl (.tmp 29) (.tmp 30) 131 rfl 3 135 keyed3 Tryz.underlying131 secR (zero107 _) (.lit (.string (zeros 256).data.toList)) [] (secR_mk size_zero256) A.m km D rfl hmW _ (kl j) rfl hkey ?_; intro v ps hv1; obtain ⟨b0,hb0,rfl,_⟩ := secR_inv hv1; clear hv1)
     | (refine wpList_store_mid rfl 135 (.tmp 6) (.tmp 32) rfl W1.heap.size 0 (strCells b0).toArray rfl rfl (by rw [size_strCells hb0]; exact there_new W1) (by rw [size135,size_strCells hb0]) (all_strCells b0) ?_))
    have hbW2 : Below W1.heap.size W1 ((W1.alloc (.cells Tryz.zeroCells135 135)).setCells W1.heap.size 0 (strCells b0)) := below_setCells (Nat.le_refl _) _ _ _ ((Below.refl _ _).alloc (Nat.le_refl _) _)
    obtain ⟨W2,hW2⟩ : ∃ W2,(W1.alloc (.cells Tryz.zeroCells135 135)).setCells W1.heap.size 0 (strCells b0) = W2 := ⟨_,rfl⟩
    rw [hW2] at hbW2 ⊢
    clear hW2
    have hnews := news_of (rangeAt_off n5a (Off.of_below (F := fun _ => False) hbW2) (fun h => h) hlt5)
    have hvW := own_below (own_below hv hbW1) hbW2
    have hBW : Below w.heap.size w W2 := (hB.trans (hbW1.mono hs)).trans (hbW2.mono (Nat.le_trans hs hbW1.size))
    have hl5 : (strCells (s.now j)).length = 256 * 1 := by rw [strCells_length,hnj]
    have ho5 := strCells_oneCell (s.now j)
    have hsW := hBW.size
    clear n5a n5b c1 hmW hhas hkey
    go_wp2_with (at_builtin; refine wpList_append_lies _ rfl (.tmp 36) (.tmp 37) 81 rfl w.heap.size 5 i5 _ 1 1 Tryz.underlying81 hi5 hz5a hz5b hz5c rfl (by omega) _ (j * 256) _ rfl hvW ⟨wr.heap.size, 0,none⟩ 256 256 (strCells (s.now j)) rfl hl5 hnews ho5 (by omega) (by unfold maxLen; omega) (by omega) hsW _ rfl ?_; intro gg capp w4 hown4 hgrow4 hat4 hlt4)
    go_wp2
    go_roundw
    case rel =>
     refine ⟨j + 1,by go_num,by omega, ?_, ?_⟩
     ·rw [byteCells_succ,HS.out,show (j + 1) * 256 = j * 256 + 256 by omega]; exact hown4
     ·exact hBW.grown hgrow4 hsW (fun k hk => own_ge hvW hk)
    case measure => simp [intOf]; omega
   | some ob =>
    rw [ho] at hhas
    have HS : Hid (s.safe j = ob) := by show _ = _; unfold PS.safe; rw [ho]; rfl
    have hobs := hm3.size j ob hlt ho
    have hval := hm3.val j ob hlt ho
    clear ho
    go_upto_region 7 with (first
     | (at_lookup; refine wpList_lookup_own_ok _ rfl (.tmp 29) (.tmp 30) 131 rfl 3 135 keyed3 Tryz.underlying131 secR (zero107 _) (.lit (.string (zeros 256).data.toList)) [] (secR_mk size_zero256) A.m km D rfl hmW _ (kl j) rfl hkey ?_; intro v ps hv1; obtain ⟨b0,hb0,rfl,hy⟩ := secR_inv hv1; rw [hval,Prod.mk.injEq] at hy; obtain rfl := lit_inj hy.1; clear hv1 hy)
     | (refine wpList_store_mid rfl 135 (.tmp 6) (.tmp 32) rfl W1.heap.size 0 (strCells ob).toArray rfl rfl (by rw [size_strCells hobs]; exact there_new W1) (by rw [size135,size_strCells hobs]) (all_strCells ob) ?_))
    have hbW2 : Below W1.heap.size W1 ((W1.alloc (.cells Tryz.zeroCells135 135)).setCells W1.heap.size 0 (strCells ob)) := below_setCells (Nat.le_refl _) _ _ _ ((Below.refl _ _).alloc (Nat.le_refl _) _)
    have hn6 := there_of_new (W := W1) hobs
    obtain ⟨W2,hW2⟩ : ∃ W2,(W1.alloc (.cells Tryz.zeroCells135 135)).setCells W1.heap.size 0 (strCells ob) = W2 := ⟨_,rfl⟩
    rw [hW2] at hbW2 hn6 ⊢
    clear hW2
    have hth5 : W2.there wr.heap.size 0 256 := fun i hi => by
     have hc := hbW2.cell (p := ⟨wr.heap.size, 0 + i,none⟩) hlt5
     have hf := hbW2.frozen (p := ⟨wr.heap.size, 0 + i,none⟩) hlt5
     rw [hc,hf]; exact n5b i hi
    have hrg6 := hn6.1
    have hrg7 := World.rangeAt_setCells_same W2 wr.heap.size 0 (strCells ob) (by rw [strCells_length,hobs]; exact hth5)
    have hbW3 : Below wr.heap.size wr (W2.setCells wr.heap.size 0 (strCells ob)) := below_setCells (Nat.le_refl _) _ _ _ (hbW1.trans (hbW2.mono (by omega)))
    clear n5a n5b c1 hmW hhas hkey hn6
    go_upto_region 8 with (first
     | (refine wpList_load_mid rfl 135 (.tmp 6) rfl W1.heap.size 0 rfl (strCells ob) _ hrg6 Tryz.underlying135 rfl (by rw [size135,strCells_length,hobs]) ?_)
     | (refine wpList_store_mid rfl 135 (.tmp 5) (.tmp 35) rfl wr.heap.size 0 (strCells ob).toArray rfl rfl (by rw [size_strCells hobs]; exact hth5) (by rw [size135,size_strCells hobs]) (all_strCells ob) ?_))
    obtain ⟨W3,hW3⟩ : ∃ W3,W2.setCells wr.heap.size 0 (strCells ob) = W3 := ⟨_,rfl⟩
    rw [hW3] at hrg7 hbW3 ⊢
    clear hW3 hth5 hrg6 hbW2 hbW1 hlt5
    have hnews := news_of hrg7
    have hvW := own_below hv hbW3
    have hBW : Below w.heap.size w W3 := hB.trans (hbW3.mono hs)
    have hl5 : (strCells ob).length = 256 * 1 := by rw [strCells_length,hobs]
    have ho5 := strCells_oneCell ob
    have hsW := hBW.size
    go_wp2_with (at_builtin; refine wpList_append_lies _ rfl (.tmp 36) (.tmp 37) 81 rfl w.heap.size 5 i5 _ 1 1 Tryz.underlying81 hi5 hz5a hz5b hz5c rfl (by omega) _ (j * 256) _ rfl hvW ⟨wr.heap.size, 0,none⟩ 256 256 (strCells ob) rfl hl5 hnews ho5 (by omega) (by unfold maxLen; omega) (by omega) hsW _ rfl ?_; intro gg capp w4 hown4 hgrow4 hat4 hlt4)
    go_wp2
    go_roundw
    case rel =>
     refine ⟨j + 1,by go_num,by omega, ?_, ?_⟩
     ·rw [byteCells_succ,HS.out,show (j + 1) * 256 = j * 256 + 256 by omega]; exact hown4
     ·exact hBW.grown hgrow4 hsW (fun k hk => own_ge hvW hk)
    case measure => simp [intOf]; omega
  ·have hlt' : decide ((j : Int) < (s.n : Int)) = false := by simp; omega
   have hlt2 : decide (j < s.n) = false := by simp; omega
   have hjn : j = s.n := by omega
   rw [hjn] at hv
   obtain ⟨g,cap,hvv,_,_⟩ := hv.form (by omega)
   subst hvv
   have hcv := conv_own (length_joined s.safe s.n hok) hv
   clear hjn
   go_wp2
   go_ret
   exact ⟨rfl,hB⟩
end
end Go.Proofs.YtdgbgmffpcooeaaGreat
namespace Go.Proofs
open Go.Shelf
section
def Tryz.keysI_ren : Go.Shelf.Ren := ⟨fun | 7 => 72 | 10 => 98 | n => n,fun | 23 => 131 | 26 => 3 | 3 => 135 | 28 => 139 | 0 => 0 | 27 => 138 | 33 => 145 | 4 => 4 | n => n,fun | n => n⟩
theorem Tryz.keysI : Go.Proofs.SlLaysZI.n7 Tryz.prog Tryz.keysI_ren := {
 mixed := by kernel_rfl
 f7 := ⟨Tryz.f72.name,by decide,Tryz.func72.trans (congrArg some (by kernel_rfl))⟩
 f10 := ⟨Tryz.f98.name,by decide,Tryz.func98.trans (congrArg some (by kernel_rfl))⟩
 t0 := Tryz.underlying0
 a0 := Tryz.isAgg0
 z0 := Tryz.sizeOf0
 v0 := Tryz.zeroValue0
 t4 := Tryz.underlying4
 a4 := Tryz.isAgg4
 z4 := Tryz.sizeOf4
 v4 := Tryz.zeroValue4
 t23 := Tryz.underlying131
 a23 := Tryz.isAgg131
 z23 := Tryz.sizeOf131
 v23 := Tryz.zeroValue131
 t26 := Tryz.underlying3
 a26 := Tryz.isAgg3
 z26 := Tryz.sizeOf3
 v26 := Tryz.zeroValue3
 t27 := Tryz.underlying138
 a27 := Tryz.isAgg138
 z27 := Tryz.sizeOf138
 v27 := Tryz.zeroValue138
 t28 := Tryz.underlying139
 a28 := Tryz.isAgg139
 z28 := Tryz.sizeOf139
 v28 := Tryz.zeroValue139
 t33 := Tryz.underlying145
 a33 := Tryz.isAgg145
 z33 := Tryz.sizeOf145
 v33 := Tryz.zeroValue145 }
def Tryz.keysN_ren : Go.Shelf.Ren := ⟨fun | 7 => 148 | 10 => 184 | n => n,fun | 23 => 183 | 26 => 3 | 3 => 175 | 28 => 139 | 0 => 0 | 27 => 138 | 33 => 145 | 4 => 4 | n => n,fun | n => n⟩
theorem Tryz.keysN : Go.Proofs.SlLaysZI.n7 Tryz.prog Tryz.keysN_ren := {
 mixed := by kernel_rfl
 f7 := ⟨Tryz.f148.name,by decide,Tryz.func148.trans (congrArg some (by kernel_rfl))⟩
 f10 := ⟨Tryz.f184.name,by decide,Tryz.func184.trans (congrArg some (by kernel_rfl))⟩
 t0 := Tryz.underlying0
 a0 := Tryz.isAgg0
 z0 := Tryz.sizeOf0
 v0 := Tryz.zeroValue0
 t4 := Tryz.underlying4
 a4 := Tryz.isAgg4
 z4 := Tryz.sizeOf4
 v4 := Tryz.zeroValue4
 t23 := Tryz.underlying183
 a23 := Tryz.isAgg183
 z23 := Tryz.sizeOf183
 v23 := Tryz.zeroValue183
 t26 := Tryz.underlying3
 a26 := Tryz.isAgg3
 z26 := Tryz.sizeOf3
 v26 := Tryz.zeroValue3
 t27 := Tryz.underlying138
 a27 := Tryz.isAgg138
 z27 := Tryz.sizeOf138
 v27 := Tryz.zeroValue138
 t28 := Tryz.underlying139
 a28 := Tryz.isAgg139
 z28 := Tryz.sizeOf139
 v28 := Tryz.zeroValue139
 t33 := Tryz.underlying145
 a33 := Tryz.isAgg145
 z33 := Tryz.sizeOf145
 v33 := Tryz.zeroValue145 }
def Tryz.sortedI_ren : Go.Shelf.Ren := ⟨fun | 6 => 71 | 8 => 97 | 9 => 93 | 11 => 127 | 13 => 126 | 12 => 125 | 23 => 162 | 24 => 163 | 14 => 153 | 15 => 154 | 16 => 155 | 17 => 156 | 18 => 157 | 19 => 158 | 20 => 159 | 21 => 160 | 22 => 161 | 25 => 190 | 26 => 191 | 27 => 192 | 28 => 193 | 29 => 194 | 30 => 177 | 31 => 216 | n => n,fun | 26 => 3 | 28 => 139 | 24 => 35 | 0 => 0 | 3 => 3 | 37 => 204 | 48 => 243 | 50 => 245 | 4 => 4 | 40 => 237 | 39 => 236 | 45 => 125 | 5 => 5 | 9 => 9 | 51 => 266 | 55 => 270 | 57 => 295 | 58 => 200 | 33 => 145 | n => n,fun | n => n⟩
theorem Tryz.sortedI : Go.Proofs.SlLaysZI.n6 Tryz.prog Tryz.sortedI_ren := {
 mixed := by kernel_rfl
 f6 := ⟨Tryz.f71.name,by decide,Tryz.func71.trans (congrArg some (by kernel_rfl))⟩
 f8 := ⟨Tryz.f97.name,by decide,Tryz.func97.trans (congrArg some (by kernel_rfl))⟩
 f11 := ⟨Tryz.f127.name,by decide,Tryz.func127.trans (congrArg some (by kernel_rfl))⟩
 t0 := Tryz.underlying0
 a0 := Tryz.isAgg0
 z0 := Tryz.sizeOf0
 v0 := Tryz.zeroValue0
 t24 := Tryz.underlying35
 a24 := Tryz.isAgg35
 z24 := Tryz.sizeOf35
 v24 := Tryz.zeroValue35
 t26 := Tryz.underlying3
 a26 := Tryz.isAgg3
 z26 := Tryz.sizeOf3
 v26 := Tryz.zeroValue3
 t28 := Tryz.underlying139
 a28 := Tryz.isAgg139
 z28 := Tryz.sizeOf139
 v28 := Tryz.zeroValue139
 i26 := by kernel_rfl }
def Tryz.sortI_ren : Go.Shelf.Ren := ⟨fun | 5 => 93 | 8 => 126 | 7 => 125 | 19 => 162 | 20 => 163 | 10 => 153 | 11 => 154 | 12 => 155 | 13 => 156 | 14 => 157 | 15 => 158 | 16 => 159 | 17 => 160 | 18 => 161 | 30 => 190 | 31 => 191 | 32 => 192 | 33 => 193 | 34 => 194 | 35 => 177 | 40 => 216 | n => n,fun | 23 => 35 | 25 => 3 | 3 => 3 | 32 => 204 | 22 => 35 | 0 => 0 | 44 => 243 | 46 => 245 | 4 => 4 | 36 => 237 | 35 => 236 | 41 => 125 | 5 => 5 | 9 => 9 | 53 => 266 | 57 => 270 | 63 => 295 | 64 => 200 | n => n,fun | n => n⟩
theorem Tryz.sortI : Go.Proofs.SlLaysM.n5 Tryz.prog Tryz.sortI_ren := {
 mixed := by kernel_rfl
 f5 := ⟨Tryz.f93.name,by decide,Tryz.func93.trans (congrArg some (by kernel_rfl))⟩
 f7 := ⟨Tryz.f125.name,by decide,Tryz.func125.trans (congrArg some (by kernel_rfl))⟩
 f8 := Tryz.func126.trans (congrArg some (by kernel_rfl))
 f10 := ⟨Tryz.f153.name,by decide,Tryz.func153.trans (congrArg some (by kernel_rfl))⟩
 f11 := ⟨Tryz.f154.name,by decide,Tryz.func154.trans (congrArg some (by kernel_rfl))⟩
 f12 := ⟨Tryz.f155.name,by decide,Tryz.func155.trans (congrArg some (by kernel_rfl))⟩
 f13 := ⟨Tryz.f156.name,by decide,Tryz.func156.trans (congrArg some (by kernel_rfl))⟩
 f14 := ⟨Tryz.f157.name,by decide,Tryz.func157.trans (congrArg some (by kernel_rfl))⟩
 f15 := ⟨Tryz.f158.name,by decide,Tryz.func158.trans (congrArg some (by kernel_rfl))⟩
 f16 := ⟨Tryz.f159.name,by decide,Tryz.func159.trans (congrArg some (by kernel_rfl))⟩
 f17 := ⟨Tryz.f160.name,by decide,Tryz.func160.trans (congrArg some (by kernel_rfl))⟩
 f18 := ⟨Tryz.f161.name,by decide,Tryz.func161.trans (congrArg some (by kernel_rfl))⟩
 f19 := Tryz.func162.trans (congrArg some (by kernel_rfl))
 f20 := Tryz.func163.trans (congrArg some (by kernel_rfl))
 f30 := ⟨Tryz.f190.name,by decide,Tryz.func190.trans (congrArg some (by kernel_rfl))⟩
 f31 := Tryz.func191.trans (congrArg some (by kernel_rfl))
 f32 := Tryz.func192.trans (congrArg some (by kernel_rfl))
 f33 := ⟨Tryz.f193.name,by decide,Tryz.func193.trans (congrArg some (by kernel_rfl))⟩
 f34 := ⟨Tryz.f194.name,by decide,Tryz.func194.trans (congrArg some (by kernel_rfl))⟩
 f35 := ⟨Tryz.f177.name,by decide,Tryz.func177.trans (congrArg some (by kernel_rfl))⟩
 f40 := ⟨Tryz.f216.name,by decide,Tryz.func216.trans (congrArg some (by kernel_rfl))⟩
 t0 := Tryz.underlying0
 a0 := Tryz.isAgg0
 z0 := Tryz.sizeOf0
 v0 := Tryz.zeroValue0
 t3 := Tryz.underlying3
 a3 := Tryz.isAgg3
 z3 := Tryz.sizeOf3
 v3 := Tryz.zeroValue3
 t4 := Tryz.underlying4
 a4 := Tryz.isAgg4
 z4 := Tryz.sizeOf4
 v4 := Tryz.zeroValue4
 t5 := Tryz.underlying5
 a5 := Tryz.isAgg5
 z5 := Tryz.sizeOf5
 v5 := Tryz.zeroValue5
 t9 := Tryz.underlying9
 a9 := Tryz.isAgg9
 z9 := Tryz.sizeOf9
 v9 := Tryz.zeroValue9
 t22 := Tryz.underlying35
 a22 := Tryz.isAgg35
 z22 := Tryz.sizeOf35
 v22 := Tryz.zeroValue35
 t23 := Tryz.underlying35
 a23 := Tryz.isAgg35
 z23 := Tryz.sizeOf35
 v23 := Tryz.zeroValue35
 t25 := Tryz.underlying3
 a25 := Tryz.isAgg3
 z25 := Tryz.sizeOf3
 v25 := Tryz.zeroValue3
 t32 := Tryz.underlying204
 a32 := Tryz.isAgg204
 z32 := Tryz.sizeOf204
 v32 := Tryz.zeroValue204
 t35 := Tryz.underlying236
 a35 := Tryz.isAgg236
 z35 := Tryz.sizeOf236
 v35 := Tryz.zeroValue236
 t36 := Tryz.underlying237
 a36 := Tryz.isAgg237
 z36 := Tryz.sizeOf237
 v36 := Tryz.zeroValue237
 t41 := Tryz.underlying125
 a41 := Tryz.isAgg125
 z41 := Tryz.sizeOf125
 v41 := Tryz.zeroValue125
 t44 := Tryz.underlying243
 a44 := Tryz.isAgg243
 z44 := Tryz.sizeOf243
 v44 := Tryz.zeroValue243
 t46 := Tryz.underlying245
 a46 := Tryz.isAgg245
 z46 := Tryz.sizeOf245
 v46 := Tryz.zeroValue245
 t53 := Tryz.underlying266
 a53 := Tryz.isAgg266
 z53 := Tryz.sizeOf266
 v53 := Tryz.zeroValue266
 t57 := Tryz.underlying270
 a57 := Tryz.isAgg270
 z57 := Tryz.sizeOf270
 v57 := Tryz.zeroValue270
 t63 := Tryz.underlying295
 a63 := Tryz.isAgg295
 z63 := Tryz.sizeOf295
 v63 := Tryz.zeroValue295
 t64 := Tryz.underlying200
 a64 := Tryz.isAgg200
 z64 := Tryz.sizeOf200
 v64 := Tryz.zeroValue200 }
end
end Go.Proofs
namespace Go.Proofs.YtdgbgmffpcooeaaGreat
open Go.RowKit Go.Maps Go.Sort Go.Shelf
section
theorem sortsI (m : Nat) : AnyZI.SortsIn Tryz.prog Tryz.sortedI_ren Fence.wide m :=
  ⟨fun blk off cap ss W hH hblk hsz => callsIn_wide.2 (AnyM.slices_Sort_int Tryz.sortI blk off cap ss W hH hblk hsz),
   fun p cap W => callsIn_wide.2 (AnyM.slices_Sort_int_none Tryz.sortI p cap W)⟩
theorem keys_call (mb : Option Nat) (W : World) : Calls Tryz.prog 72 #[.map mb] W fun e w' => e = .returned (.func (.func 98) #[] #[.pointer (some ⟨W.heap.size, 0,none⟩)]) ∧ w' = W.alloc (.cells #[.map mb] 131) :=
  callsIn_wide.1 (AnyZI.keys_in Tryz.keysI Fence.wide 5 trivial rfl mb W)
set_option maxHeartbeats 1000000 in
theorem sorted_call (b nn : Nat) (D0 : DataW Unit) (R : Value → Option (DataW Unit × List MemPlace)) (w : World) (hown : w.ownsMap Tryz.prog 3 R b nn D0) (hmax : Maps.size D0 ≤ maxLen) (hbytes : Maps.size D0 * 8 ≤ 140737488355328) :
    Calls Tryz.prog 71 #[.func (.func 98) #[] #[.pointer (some ⟨w.heap.size, 0,none⟩)]] (w.alloc (.cells #[.map (some b)] 131)) fun e w' => ∃ (v : Value) (ss : List Int),e = .returned v ∧ ss.Perm (intKeys D0) ∧
      w'.ownsRow (w.alloc (.cells #[.map (some b)] 131)).heap.size 3 1 v ss.length ((ss.mergeSort (fun x y => decide (x ≤ y))).map encZ) ∧ (v = .slice none 0 0 ↔ ss = []) ∧ Below (w.alloc (.cells #[.map (some b)] 131)).heap.size (w.alloc (.cells #[.map (some b)] 131)) w' := by
  refine (callsIn_wide (n := 5)).1 ?_
  have hbl := hown.lt
  have hseq : SeqGives Fence.wide 2 Tryz.prog 98 #[.pointer (some ⟨w.heap.size, 0,none⟩)] encZ (fun ss => ss.Perm (intKeys D0)) (Maps.size D0) (w.alloc (.cells #[.map (some b)] 131)) :=
    AnyZI.keys_gives (ρ := Tryz.keysI_ren) { Tryz.keysI with } Fence.wide _ trivial rfl (by omega) w.heap.size b nn D0 _ (by simp) (by simp) (by
      obtain ⟨es,clock,hb,Ft,hs,hD⟩ := hown
      exact ⟨es,clock,(Below.heap_alloc _ _ b hbl).trans hb,Ft,hs,hD⟩)
  have cS := AnyZI.sorted_in Tryz.sortedI Fence.wide 5 trivial trivial trivial trivial rfl (by omega) (sortsI _) (enters_of Tryz.func93 (by kernel_rfl) rfl) 98 #[.pointer (some ⟨w.heap.size, 0,none⟩)] trivial (enters_of Tryz.func98 (by kernel_rfl) rfl) _ _ hmax hbytes _ hseq
  exact cS
end
end Go.Proofs.YtdgbgmffpcooeaaGreat
namespace Go.Proofs.YtdgbgmffpcooeaaGreat
open Go.RowKit Go.Lib Go.Maps
section
def dirtyOf (old : Nat → Option ByteArray) (i : Nat) : Bool := (old i).isSome
def rowOf (d : Nat → Bool) (n : Nat) : List Nat := (List.range n).filter d
theorem mem_rowOf (d : Nat → Bool) (n i : Nat) : i ∈ rowOf d n ↔ i < n ∧ d i = true := by simp [rowOf]
theorem rowOf_sorted (d : Nat → Bool) (n : Nat) : (rowOf d n).Pairwise (· < ·) := List.Pairwise.filter _ List.pairwise_lt_range
theorem length_rowOf (d : Nat → Bool) (n : Nat) : (rowOf d n).length = rank d n := by simp [rowOf,rank,List.countP_eq_length_filter]
theorem rowOf_split (d : Nat → Bool) {n i : Nat} (hi : i < n) : ∃ r,rowOf d n = rowOf d i ++ (if d i then i :: r else r) := by
 obtain ⟨m,rfl⟩ : ∃ m,n = i + (1 + m) := ⟨n - i - 1,by omega⟩
 refine ⟨((List.range m).map (i + 1 + ·)).filter d, ?_⟩
 unfold rowOf
 rw [List.range_add,List.filter_append]
 congr 1
 rw [Nat.add_comm 1 m,List.range_succ_eq_map]
 simp only [List.map_cons,List.map_map,List.filter_cons,Nat.add_zero]
 have e : (i + ·) ∘ Nat.succ = (i + 1 + ·) := by funext x; simp; omega
 rw [e]
theorem rowOf_rank (d : Nat → Bool) {n i : Nat} (hi : i < n) (hd : d i = true) : (rowOf d n)[rank d i]? = some i := by
 obtain ⟨r,hr⟩ := rowOf_split d hi
 rw [hr,hd,if_pos rfl,List.getElem?_append_right (by rw [length_rowOf]; exact Nat.le_refl _),length_rowOf,Nat.sub_self]
 rfl
theorem rank_lt (d : Nat → Bool) {n i : Nat} (hi : i < n) (hd : d i = true) : rank d i < (rowOf d n).length := by
 have := rowOf_rank d hi hd
 exact (List.getElem?_eq_some_iff.1 this).1
theorem rank_of_get (d : Nat → Bool) {n p i : Nat} (h : (rowOf d n)[p]? = some i) : i < n ∧ d i = true ∧ rank d i = p := by
 obtain ⟨hp,e⟩ := List.getElem?_eq_some_iff.1 h
 have hm : i ∈ rowOf d n := e ▸ List.getElem_mem hp
 obtain ⟨h1,h2⟩ := (mem_rowOf d n i).1 hm
 refine ⟨h1,h2, ?_⟩
 have h3 := rowOf_rank d h1 h2
 obtain ⟨hq,e2⟩ := List.getElem?_eq_some_iff.1 h3
 have hs := List.pairwise_iff_getElem.1 (rowOf_sorted d n)
 rcases Nat.lt_trichotomy (rank d i) p with g | g | g
 ·have := hs _ _ hq hp g; omega
 ·exact g
 ·have := hs _ _ hp hq g; omega
theorem keys_sorted {W : World} {m k : Nat} {D : DataW Unit} {old : Nat → Option ByteArray} {n : Nat} (hown : W.ownsMap Tryz.prog 3 secR m k D) (h : MapIs D old n) {ss : List Int} (hp : ss.Perm (intKeys D)) :
  ss.mergeSort (fun x y => decide (x ≤ y)) = (rowOf (dirtyOf old) n).map (fun i : Nat => (i : Int)) ∧ ss.length = (rowOf (dirtyOf old) n).length := by
 obtain ⟨es,rfl,hpw,_⟩ := hown.entries (int_keyed Tryz.underlying3)
 have hkeys : ∀ p ∈ es, ∃ i,i < n ∧ p.1 = kl i := fun p hpm => by
  refine h.keys p.1 ?_
  rw [has_eq,List.any_eq_true]
  obtain ⟨p1,p2⟩ := p
  refine ⟨(p1,p2),hpm, ?_⟩
  have hk : ∃ i : Nat,p1 = p1 := ⟨0,rfl⟩
  have hI := (hown.entries (int_keyed Tryz.underlying3))
  obtain ⟨es',e',_,hkl⟩ := hI
  injection e' with e'
  subst e'
  have := hkl (p1,p2) hpm
  cases p1 <;> simp_all [WideAt.IsKeyLit,Lit.sameKey]
 have hperm : ((rowOf (dirtyOf old) n).map (fun i : Nat => (i : Int))).Perm (intKeys (.map es : DataW Unit)) := by
  refine perm_intKeys hpw (fun p hpm => by obtain ⟨i,_,e⟩ := hkeys p hpm; exact ⟨_,e⟩) ?_ (fun x => ?_)
  ·exact List.Pairwise.map _ (fun a b hab => by omega) (rowOf_sorted (dirtyOf old) n)
  ·rw [List.mem_map]
   constructor
   ·rintro ⟨i,hi,rfl⟩
    obtain ⟨h1,h2⟩ := (mem_rowOf _ _ _).1 hi
    rw [h.has_ i h1]; exact h2
   ·intro hx
    obtain ⟨i,hi,e⟩ := h.keys _ hx
    have e' : (Lit.int .i64 x) = .int .i64 (i : Int) := e
    injection e' with _ e2
    subst e2
    rw [h.has_ i hi] at hx
    exact ⟨i,(mem_rowOf _ _ _).2 ⟨hi,hx⟩,rfl⟩
 have hpp : ss.Perm ((rowOf (dirtyOf old) n).map (fun i : Nat => (i : Int))) := hp.trans hperm.symm
 refine ⟨?_,by rw [hpp.length_eq,List.length_map]⟩
 have := mergeSort_of_perm_i hpp
 rw [this]
 refine List.mergeSort_of_pairwise ?_
 exact List.Pairwise.map _ (fun a b hab => by simp; omega) (rowOf_sorted (dirtyOf old) n)
theorem map_size {W : World} {m k : Nat} {D : DataW Unit} (hown : W.ownsMap Tryz.prog 3 secR m k D) : Maps.size D ≤ k := by
 obtain ⟨es,c,h1,h2,h3,rfl⟩ := hown
 have := length_read (P := Tryz.prog) (k := 3) (R0 := secR) es
 simp only [Maps.size]
 omega
theorem MapIs.del {D : DataW Unit} {old : Nat → Option ByteArray} {n : Nat} (h : MapIs D old n) {i : Nat} (hi : i < n) : MapIs (D.del (kl i)) (upd old i none) n := by
 refine ⟨fun t ht => ?_,fun t c ht hc z => ?_,fun k hk => ?_,fun t c ht hc => ?_⟩
 ·by_cases e : t = i
  ·subst e; rw [has_del_same,upd_same]; rfl
  ·rw [has_del_other (kl_ne e),h.has_ t ht,upd_ne old _ e]
 ·by_cases e : t = i
  ·subst e; rw [upd_same] at hc; cases hc
  ·rw [upd_ne old _ e] at hc
   rw [atKey_del_other (kl_ne e)]
   exact h.val t c ht hc z
 ·by_cases e : k = kl i
  ·exact ⟨i,hi,e⟩
  ·rw [has_del_other e] at hk
   exact h.keys k hk
 ·by_cases e : t = i
  ·subst e; rw [upd_same] at hc; cases hc
  ·rw [upd_ne old _ e] at hc
   exact h.size t c ht hc
def keptOld (old : Nat → Option ByteArray) (K : Nat → Int) (k : Nat) : Nat → Option ByteArray := fun t => if keptAt K k (rank (dirtyOf old) t) then none else old t
theorem keptOld_zero (old : Nat → Option ByteArray) (K : Nat → Int) : keptOld old K 0 = old := by funext t; simp [keptOld,keptAt_zero]
theorem MapIs.congr {D : DataW Unit} {old old' : Nat → Option ByteArray} {n : Nat} (h : MapIs D old n) (he : ∀ t,t < n → old' t = old t) : MapIs D old' n :=
 ⟨fun t ht => by rw [he t ht]; exact h.has_ t ht,fun t b ht hb => h.val t b ht (by rw [← he t ht]; exact hb),h.keys,fun t b ht hb => h.size t b ht (by rw [← he t ht]; exact hb)⟩
theorem keptOld_out (old : Nat → Option ByteArray) (K : Nat → Int) (k n : Nat) (h : K k < 0 ∨ ((rowOf (dirtyOf old) n).length : Int) ≤ K k) : ∀ t,t < n → keptOld old K (k + 1) t = keptOld old K k t := by
 intro t ht
 unfold keptOld
 rw [keptAt_succ]
 cases ho : old t with
 | none => simp
 | some b =>
  have hd : dirtyOf old t = true := by unfold dirtyOf; rw [ho]; rfl
  have := rank_lt (dirtyOf old) ht hd
  have e : (K k == ((rank (dirtyOf old) t : Nat) : Int)) = false := by simp; omega
  rw [e,Bool.or_false]
theorem keptOld_in (old : Nat → Option ByteArray) (K : Nat → Int) (k n p i : Nat) (hp : K k = (p : Int)) (hi : (rowOf (dirtyOf old) n)[p]? = some i) : ∀ t,t < n → keptOld old K (k + 1) t = upd (keptOld old K k) i none t := by
 obtain ⟨h1,h2,h3⟩ := rank_of_get (dirtyOf old) hi
 intro t ht
 unfold upd
 show (if keptAt K (k + 1) (rank (dirtyOf old) t) then none else old t) = if t = i then none else (if keptAt K k (rank (dirtyOf old) t) then none else old t)
 rw [keptAt_succ,hp]
 by_cases e : t = i
 ·subst e; simp [h3]
 ·rw [if_neg e]
  cases ho : old t with
  | none => simp
  | some b =>
   have hd : dirtyOf old t = true := by unfold dirtyOf; rw [ho]; rfl
   have h4 := rowOf_rank (dirtyOf old) ht hd
   have e2 : ((p : Int) == ((rank (dirtyOf old) t : Nat) : Int)) = false := by
    simp
    intro e3
    have : p = rank (dirtyOf old) t := by omega
    rw [← this,hi] at h4
    injection h4 with h4
    exact e h4.symm
   rw [e2,Bool.or_false]
end
end Go.Proofs.YtdgbgmffpcooeaaGreat
