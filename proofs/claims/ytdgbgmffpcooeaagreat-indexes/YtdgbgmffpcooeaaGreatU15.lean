/- Pk3 Pk4 Pk5 Pk6 -/
import Derived.Test.YtdgbgmffpcooeaaGreatU14
import Derived.Deep.RegionLaw
import Derived.Deep.DeepCutAuto
namespace Go.Proofs.YtdgbgmffpcooeaaGreat
open Go.RowKit Go.Lib Go.Maps
section
theorem sec_conv {W : World} {g n : Nat} {now : Nat → ByteArray} (h : Sec W g n now) {i : Nat} (hi : i < n) : (convert 81 9 (.slice (some ⟨g,i * 256,none⟩) 256 256)).run Tryz.prog W = .ok (.string (now i)) W := by
 have hl : (now i).data.toList.length = 256 := by rw [length_data]; exact h.size i hi
 have := run_convert_bytes_back (P := Tryz.prog) W 81 9 5 ⟨g,i * 256,none⟩ 256 (now i).data.toList Tryz.underlying81 Tryz.underlying5 Tryz.underlying9 (fun j hj => by
  rw [Addr.add_mid]
  exact h.at_ i hi j _ (by unfold strCells; rw [List.getElem?_map,List.getElem?_eq_getElem hj]; rfl))
 rw [hl] at this
 simpa using this
def PS.read (s : PS) (i : Int) : ByteArray × Int × PS :=
 if i < 0 ∨ (s.n : Int) ≤ i then (ByteArray.empty, 3,s) else if s.brk then (ByteArray.empty, 4,s.asked) else (s.now i.toNat, 0, { s.asked with steps := wrap64 (s.steps + 1) })
set_option maxRecDepth 100000 in
set_option maxHeartbeats 1000000 in
theorem pread_any (w : World) (base : Nat) (A : PA) (s : PS) (h : PD w base A s) (i : Int) :
  Calls Tryz.prog 128 #[.pointer (some ⟨A.q, 0,none⟩), .int .i64 i] w fun e w' => e = .returned (.tuple #[.string (s.read i).1, .int .i64 (s.read i).2.1]) ∧ PD w' base A (s.read i).2.2 ∧ Off A.F w w' := by
 have hhas := phas_any w base A s h i
 by_cases h1 : i < 0 ∨ (s.n : Int) ≤ i
 ·have e : s.read i = (ByteArray.empty, 3,s) := by unfold PS.read; rw [if_pos h1]
  rw [e]
  have hd : decide (0 ≤ i ∧ i < (s.n : Int)) = false := by rw [decide_eq_false_iff_not]; omega
  rw [hd] at hhas
  clear hd h1 e
  go_enter Tryz.func128,Tryz.ntmps128
  go_wp2_with (go_at_call 164; refine hhas.mono ?_; rintro e w1 ⟨rfl,rfl⟩)
  go_ret2
  exact ⟨rfl,h,Off.refl _ _⟩
 ·have hd : decide (0 ≤ i ∧ i < (s.n : Int)) = true := by rw [decide_eq_true_iff]; omega
  rw [hd] at hhas
  obtain ⟨k,rfl⟩ : ∃ k : Nat,i = k := ⟨i.toNat,by omega⟩
  have hk : k < s.n := by omega
  have hk' : (k : Int) < (s.n : Int) := by omega
  have hcon := pfails_any w base A s h
  clear hd
  cases hb : s.brk with
  | true =>
   have e : s.read k = (ByteArray.empty, 4,s.asked) := by unfold PS.read; rw [if_neg h1,hb]; rfl
   rw [e]
   rw [hb] at hcon
   clear h1 e
   go_enter Tryz.func128,Tryz.ntmps128
   go_wp2_with (first | (go_at_call 164; refine hhas.mono ?_; rintro e w1 ⟨rfl,rfl⟩) | (go_at_call 106; refine hcon.mono ?_; rintro e w1 ⟨rfl,hR,ho⟩))
   go_ret2
   exact ⟨rfl,hR,ho⟩
  | false =>
   have e : s.read k = (s.now k, 0, { s.asked with steps := wrap64 (s.steps + 1) }) := by unfold PS.read; rw [if_neg h1,hb]; rfl
   rw [e]
   rw [hb] at hcon
   clear h1 e
   go_enter Tryz.func128,Tryz.ntmps128
   go_wp2_with (first | (go_at_call 164; refine hhas.mono ?_; rintro e w0 ⟨rfl,rfl⟩) | (go_at_call 106; refine hcon.mono ?_; rintro e w1 ⟨rfl,hR,ho⟩; have hR2 : PD (w1.setCell ⟨A.q, 4,none⟩ (.int .i64 (wrap64 (s.steps + 1)))) base A { s.asked with steps := wrap64 (s.steps + 1) } := hR.cell 4 (.int .i64 (wrap64 (s.steps + 1))) rfl rfl rfl rfl; have hcv := sec_conv hR2.sec (i := k) hk; have hgl := hR.sec.lt; have c0 : w1.cell? ⟨A.q, 0,none⟩ = some (.slice (some ⟨A.g, 0,none⟩) s.n s.n) := hR.cells.1; have c4 : w1.cell? ⟨A.q, 4,none⟩ = some (.int .i64 s.steps) := hR.cells.2.2.2.2; have f4 : w1.frozen? ⟨A.q, 4,none⟩ = false := hR.blkQ.frozen 4; simp only [PS.asked] at hcv))
   go_ret2
   exact ⟨rfl,hR2,ho.setCell _ (.inl (.inr (.inl rfl)))⟩
end
section
theorem info135 : (Tryz.prog.info? 135).map (fun i => (i.zero,i.size,i.bytes)) = some (some (.agg (Array.replicate 256 (.int .u8 0))), 256, 256) := by kernel_rfl
structure PI (W : World) (base q g m : Nat) (s : PS) : Prop where
 le : base ≤ q ∧ base ≤ g ∧ base ≤ m
 blkQ : Blk W q 133 (pdCells ⟨0,q,g,m⟩ s)
 sec : Sec W g s.n s.now
 map : ∃ k D,W.ownsMap Tryz.prog 3 secR m k D ∧ k ≤ 4096 ∧ MapIs D s.old s.n
 n1 : 256 ≤ s.n
 n2 : s.n ≤ 4096
def PS.fresh (n : Nat) (now : Nat → ByteArray) : PS := ⟨n,now,fun _ => none, -1,false, 0⟩
theorem size_zero256 : (zeros 256).size = 256 := size_zeros 256
theorem zero_cells_of (k j : Nat) (v : Value) (h : (strCells (zeros k))[j]? = some v) : j < k ∧ v = .int .u8 0 := by
 have hl : (strCells (zeros k)).length = k := by rw [strCells_length]; exact size_zeros k
 have hj : j < k := by have := (List.getElem?_eq_some_iff.1 h).1; omega
 refine ⟨hj, ?_⟩
 unfold strCells zeros at h
 rw [List.getElem?_map] at h
 simp [hj] at h
 exact h.symm
theorem zero_cells (j : Nat) (v : Value) (h : (strCells (zeros 256))[j]? = some v) : j < 256 ∧ v = .int .u8 0 := zero_cells_of 256 j v h
theorem rep_get (k i : Nat) (x : Value) (h : i < k) : (Array.replicate k x)[i]! = x := by
 rw [getElem!_pos _ _ (by simpa using h)]; simp
theorem sec_made {W : World} {base g n : Nat} (h : W.ownsRow base 135 256 (.slice (some ⟨g, 0,none⟩) n n) n (madeCells (Value.agg (Array.replicate 256 (.int .u8 0))).cells (n * 256)).toList) : Sec W g n (fun _ => zeros 256) := by
 have hc := own_cell h
 obtain ⟨_,⟨e1,_⟩ | ⟨g',cap',cur,e1,_,h1,_,_,h3,_⟩⟩ := h
 ·cases e1
 ·cases e1
  refine ⟨⟨cur,h1,h3⟩,fun i hi j v hv => ?_,fun _ _ => size_zero256⟩
  obtain ⟨hj,rfl⟩ := zero_cells j v hv
  have hlt : i * 256 + j < n * 256 := by
   have := Nat.mul_le_mul_right 256 (show i + 1 ≤ n from hi); omega
  rw [(hc (i * 256 + j) hlt).1]
  simp [madeCells,Value.cells,hlt]
  exact rep_get 256 _ _ (Nat.mod_lt _ (by omega))
set_option maxRecDepth 100000 in
set_option maxHeartbeats 1000000 in
theorem pnew_ok (w : World) (n : Nat) (h1 : 256 ≤ n) (h2 : n ≤ 4096) :
  Calls Tryz.prog 57 #[.int .i64 (n : Int)] w fun e w' => ∃ q g m,e = .returned (.tuple #[.pointer (some ⟨q, 0,none⟩), .int .i64 0]) ∧ PI w' w.heap.size q g m (PS.fresh n (fun _ => zeros 256)) ∧ Below w.heap.size w w' := by
 obtain ⟨i7,hi7,hz7a,hz7b,hz7c⟩ := info_parts info135
 have t1 : decide ((n : Int) < 256) = false := by simp; omega
 have t2 : decide ((4096 : Int) < (n : Int)) = false := by simp; omega
 have hmm := @run_makeMap Tryz.prog
 go_enter Tryz.func57,Tryz.ntmps57
 go_wp2_with (at_make; refine wpList_make_full _ rfl (.tmp 10) (.tmp 10) 130 rfl w.heap.size 135 i7 _ 256 Tryz.underlying130 hi7 hz7a hz7b _ _ _ _ n rfl rfl rfl rfl (by rw [hz7c]; omega) (by unfold maxLen; omega) (Nat.le_refl _) ?_; intro w1 hown hgrow; have hsec := sec_made hown; clear hown hz7a)
 have hB1 : Below w.heap.size w w1 := (Below.refl _ _).grown hgrow (Nat.le_refl _) (fun k hk => by cases hk)
 have hs1 := hB1.size
 have hgl := hsec.lt
 go_ret2
 refine ⟨w1.heap.size + 1,w.heap.size,w1.heap.size,rfl,⟨⟨by omega,by omega,by omega⟩, ?_, ?_,⟨0, .map [], ?_,Nat.zero_le _,MapIs.empty _⟩,h1,h2⟩,(hB1.alloc hs1 _).alloc (by simp; omega) _⟩
 ·have := Blk.new (w1.alloc (.map #[] 0)) 133 #[.slice (some ⟨w.heap.size, 0,none⟩) n n, .map (some w1.heap.size), .int .i64 (-1), .bool false, .int .i64 0]
  simp only [World.size_alloc] at this
  exact this
 ·exact hsec.off (F := fun _ => False) (Off.of_below (((Below.refl _ w1).alloc (Nat.le_refl _) _).alloc (by simp) _)) (fun h => h)
 ·have := (World.ownsMap_made (H := Unit) w1 Tryz.prog 3 secR).alloc (.cells #[.slice (some ⟨w.heap.size, 0,none⟩) n n, .map (some w1.heap.size), .int .i64 (-1), .bool false, .int .i64 0] 133)
  exact this
end
section
theorem setCells_block {g : Nat} {t : TypeId} : ∀ (vs : List Value) (o : Nat) (W : World) (cur : Array Value),W.heap[g]? = some (.cells cur t (0, 0)) → ∃ cur',(W.setCells g o vs).heap[g]? = some (.cells cur' t (0, 0)) ∧ cur'.size = cur.size
 | [],_,_,cur,h => ⟨cur,h,rfl⟩
 | v :: r,o,W,cur,h => by
  obtain ⟨c,h1,h2⟩ := setCells_block r (o + 1) (W.setCell ⟨g,o,none⟩ v) (cur.setIfInBounds o v) (Blk.set h o v)
  exact ⟨c,h1,by rw [h2,Array.size_setIfInBounds]⟩
theorem Off.setCells {F : Nat → Prop} {W0 : World} {B : Nat} (hB : F B ∨ W0.heap.size ≤ B) : ∀ (vs : List Value) (o : Nat) (W : World),Off F W0 W → Off F W0 (W.setCells B o vs)
 | [],_,_,h => h
 | v :: r,o,_,h => Off.setCells hB r (o + 1) _ (h.setCell v hB)
theorem Sec.there {W : World} {g n : Nat} {now : Nat → ByteArray} (h : Sec W g n now) {i : Nat} (hi : i < n) : W.there g (i * 256) 256 := fun j hj => by
 obtain ⟨cur,h1,h2⟩ := h.blk
 have hl : i * 256 + j < cur.size := by rw [h2]; have := Nat.mul_le_mul_right 256 (show i + 1 ≤ n from hi); omega
 exact ⟨by simp [World.cell?,h1,hl],by simp [World.frozen?,h1]⟩
theorem Sec.set {W : World} {g n : Nat} {now : Nat → ByteArray} (h : Sec W g n now) {i : Nat} (hi : i < n) {b : ByteArray} (hb : b.size = 256) : Sec (W.setCells g (i * 256) (strCells b)) g n (upd now i b) := by
 have hl : (strCells b).length = 256 := by rw [strCells_length,hb]
 obtain ⟨cur,h1,h2⟩ := h.blk
 obtain ⟨cur',h3,h4⟩ := setCells_block (strCells b) (i * 256) W cur h1
 refine ⟨⟨cur',h3,h4.trans h2⟩,fun t ht => ?_,fun t ht => ?_⟩
 ·by_cases e : t = i
  ·subst e
   rw [upd_same]
   exact World.rangeAt_setCells_same W g (t * 256) (strCells b) (by rw [hl]; exact h.there hi)
  ·rw [upd_ne now b e]
   refine World.rangeAt_setCells_apart (h.at_ t ht) g (i * 256) (strCells b) (.inr ?_)
   rw [hl,strCells_length,h.size t ht]
   rcases Nat.lt_or_ge t i with g1 | g1
   ·left; have := Nat.mul_le_mul_right 256 (show t + 1 ≤ i from g1); omega
   ·right; have := Nat.mul_le_mul_right 256 (show i + 1 ≤ t by omega); omega
 ·by_cases e : t = i
  ·subst e; rw [upd_same]; exact hb
  ·rw [upd_ne now b e]; exact h.size t ht
theorem run_copy_long {P : Program} (w : World) (dT sT ty elem : TypeId) (b o dLen dCap : Nat) (t : ByteArray)
  (hu : P.underlying dT = some (.slice elem)) (hz : ∀ w,(Go.sizeOf elem).run P w = .ok 1 w) (hle : dLen ≤ t.size) (ht : w.there b o dLen) :
  (Builtin.copy_ #[dT,sT] ty #[.slice (some ⟨b,o,none⟩) dLen dCap, .string t]).run P w = .ok (goInt dLen) (w.setCells b o (strCells (t.extract 0 dLen))) := by
 have hmin : Nat.min t.size dLen = dLen := Nat.min_eq_right hle
 have hsz : (t.extract 0 dLen).size = dLen := by rw [ByteArray.size_extract]; omega
 have hl : (strCells (t.extract 0 dLen)).length = dLen := by rw [strCells_length,hsz]
 have htk : List.take dLen (List.map (fun x : UInt8 => Value.int .u8 (x.toNat : Int)) t.data.toList) = strCells (t.extract 0 dLen) := by
  unfold strCells
  rw [← List.map_take]
  congr 1
  rw [ByteArray.data_extract]
  simp
 have hst := run_storeCells_cells (P := P) b o (strCells (t.extract 0 dLen)) 0 w (by rw [hl]; intro j hj; simpa using (ht j hj).1) (by rw [hl]; intro j hj; simpa using (ht j hj).2) (strCells_oneCell _)
 simp [Builtin.copy_,run_underlying hu,Builtin.lenOf,Builtin.firstCells,hz,hmin]
 rw [htk,hst]
 rfl
theorem sizeOf5 (w : World) : (Go.sizeOf 5).run Tryz.prog w = .ok 1 w := by kernel_rfl
end
section
theorem keyed3 : Keyed Tryz.prog 3 := int_keyed Tryz.underlying3
theorem zero107 (w : World) : (zeroValue 135).run Tryz.prog w = .ok (secV (zeros 256)) w := by kernel_rfl
theorem key_of (i : Nat) (h : i < 4096) : keyOf Tryz.prog 3 (.int .i64 (i : Int)) = some (kl i) := keyOf_int_mk Tryz.underlying3 (WalkArith.wf_i64 (by omega))
theorem size135 : (Tryz.prog.info? 135).map (·.size) = some 256 := by kernel_rfl
theorem size_strCells {b : ByteArray} (hb : b.size = 256) : (strCells b).toArray.size = 256 := by rw [List.size_toArray,strCells_length,hb]
theorem all_strCells (b : ByteArray) : (strCells b).toArray.all (·.oneCell') = true := all_oneCell_toArray (strCells_oneCell b)
theorem there_new (W : World) : (W.alloc (.cells Tryz.zeroCells135 135)).there W.heap.size 0 256 := fun j hj => by
 have hb := Blk.new W 135 Tryz.zeroCells135
 have hs := Tryz.zeroCells135_size
 rw [Nat.zero_add]
 exact ⟨by rw [hb.cell j,Array.getElem?_eq_getElem (by omega)]; rfl,hb.frozen j⟩
theorem wpList_copy_long {P : Program} {ops : Array Oper} {rest : List Oper} {o : Oper} {a : Act} {w : World} {Q : Exit → Act → World → Prop}
  (hg : o.guard = none) (d x : Operand) (dT sT : TypeId) (hop : o.op = Op.call { callee := Callee.builtin Builtin.copy,args := #[d,x],argTypes := #[dT,sT] })
  (elem : TypeId) (hu : P.underlying dT = some (.slice elem)) (hz : ∀ w,(Go.sizeOf elem).run P w = .ok 1 w)
  (b off dLen dCap : Nat) (hd : a.eval d = .slice (some ⟨b,off,none⟩) dLen dCap) (t : ByteArray) (hx : a.eval x = .string t) (hle : dLen ≤ t.size) (ht : w.there b off dLen)
  (hK : wpList P ops Q rest (a.put o.dst (goInt dLen)) (w.setCells b off (strCells (t.extract 0 dLen)))) : wpList P ops Q (o :: rest) a w := by
 refine wpList_plain hg fun K hK' => ?_
 have hrun := run_copy_long (P := P) w dT sT o.type elem b off dLen dCap t hu hz hle ht
 unfold Oper.wp
 simp [execOp,hop,resolve,invoke,builtin,hd,hx,hrun,Result.andThen]
 exact hK' _ _ hK
theorem extract_all {b : ByteArray} (hb : b.size = 256) : b.extract 0 256 = b := by
 rw [← hb]; exact ByteArray.extract_zero_size
theorem PD.setSec {W : World} {base : Nat} {A : PA} {s : PS} (h : PD W base A s) {i : Nat} (hi : i < s.n) {b : ByteArray} (hb : b.size = 256) : PD (W.setCells A.g (i * 256) (strCells b)) base A { s with now := upd s.now i b } := by
 obtain ⟨a1,a2,a3,a4,a5,a6⟩ := h.apart
 obtain ⟨k,D,m1,m2,m3⟩ := h.map
 have ho : Off (fun k => k = A.g) W (W.setCells A.g (i * 256) (strCells b)) := Off.setCells (F := fun k => k = A.g) (B := A.g) (.inl rfl) _ _ _ (Off.refl _ _)
 exact ⟨h.le,h.blkP.off ho (Ne.symm a4),h.blkQ.off ho (Ne.symm a2),h.sec.set hi hb,⟨k,D,map_off m1 ho a6,m2,m3⟩,h.n1,h.n2⟩
theorem kl_ne {i j : Nat} (h : i ≠ j) : kl i ≠ kl j := fun e => by
 have e' : (Lit.int .i64 (i : Int)) = .int .i64 (j : Int) := e
 injection e' with _ e2
 exact h (by omega)
theorem MapIs.put {D : DataW Unit} {old : Nat → Option ByteArray} {n : Nat} (h : MapIs D old n) (hD : IsMap D) {i : Nat} (hi : i < n) {b : ByteArray} (hb : b.size = 256) : MapIs (D.put (kl i) (.lit (.string b.data.toList))) (upd old i (some b)) n := by
 have hkl : WideAt.IsKeyLit (kl i) := trivial
 refine ⟨fun t ht => ?_,fun t c ht hc z => ?_,fun k hk => ?_,fun t c ht hc => ?_⟩
 ·by_cases e : t = i
  ·subst e; rw [has_put_same hD hkl,upd_same]; rfl
  ·rw [has_put_other (kl_ne e),h.has_ t ht,upd_ne old _ e]
 ·by_cases e : t = i
  ·subst e
   rw [upd_same] at hc
   injection hc with hc
   rw [atKey_put_same hD hkl,hc]
  ·rw [upd_ne old _ e] at hc
   rw [atKey_put_other (kl_ne e)]
   exact h.val t c ht hc z
 ·by_cases e : k = kl i
  ·exact ⟨i,hi,e⟩
  ·rw [has_put_other e] at hk
   exact h.keys k hk
 ·by_cases e : t = i
  ·subst e
   rw [upd_same] at hc
   injection hc with hc
   rw [← hc]; exact hb
  ·rw [upd_ne old _ e] at hc
   exact h.size t c ht hc
def PS.write (s : PS) (i : Int) (b : ByteArray) : Int × PS :=
 if i < 0 ∨ (s.n : Int) ≤ i then (3,s) else if b.size ≠ 256 then (2,s) else if s.brk then (4,s.asked) else
  (0, { s.asked.spent with steps := wrap64 (s.steps + 1),now := upd s.now i.toNat b,old := if (s.old i.toNat).isSome then s.old else upd s.old i.toNat (some (s.now i.toNat)) })
set_option maxRecDepth 100000 in
set_option maxHeartbeats 1000000 in
theorem pwrite_any (w : World) (base : Nat) (A : PA) (s : PS) (h : PD w base A s) (i : Int) (b : ByteArray) (hlf : -1 ≤ s.left ∧ s.left ≤ 9223372036854775807) :
  Calls Tryz.prog 149 #[.pointer (some ⟨A.q, 0,none⟩), .int .i64 i, .string b] w fun e w' => e = .returned (.int .i64 (s.write i b).1) ∧ PD w' base A (s.write i b).2 ∧ Off A.F w w' := by
 have hhas := phas_any w base A s h i
 by_cases h1 : i < 0 ∨ (s.n : Int) ≤ i
 ·have e : s.write i b = (3,s) := by unfold PS.write; rw [if_pos h1]
  rw [e]
  have hd : decide (0 ≤ i ∧ i < (s.n : Int)) = false := by rw [decide_eq_false_iff_not]; omega
  rw [hd] at hhas
  clear hd h1 e
  go_enter Tryz.func149,Tryz.ntmps149
  go_wp2_with (go_at_call 164; refine hhas.mono ?_; rintro e w1 ⟨rfl,rfl⟩)
  go_ret
  exact ⟨rfl,h,Off.refl _ _⟩
 ·have hd : decide (0 ≤ i ∧ i < (s.n : Int)) = true := by rw [decide_eq_true_iff]; omega
  rw [hd] at hhas
  obtain ⟨k,rfl⟩ : ∃ k : Nat,i = k := ⟨i.toNat,by omega⟩
  have hk : k < s.n := by omega
  have hk' : (k : Int) < (s.n : Int) := by omega
  have hcon := pfails_any w base A s h
  clear hd
  by_cases h3 : b.size = 256
  ·have t3 : ((b.size : Int) != 256) = false := by rw [h3]; rfl
   cases hb : s.brk with
   | true =>
    have e : s.write k b = (4,s.asked) := by unfold PS.write; rw [if_neg h1,if_neg (by omega),hb]; rfl
    rw [e]
    rw [hb] at hcon
    clear h1 e h3
    go_enter Tryz.func149,Tryz.ntmps149
    go_wp2_with (first | (go_at_call 164; refine hhas.mono ?_; rintro e w1 ⟨rfl,rfl⟩) | (go_at_call 106; refine hcon.mono ?_; rintro e w1 ⟨rfl,hR,ho⟩))
    go_ret
    exact ⟨rfl,hR,ho⟩
   | false =>
    have e : s.write k b = (0, { s.asked.spent with steps := wrap64 (s.steps + 1),now := upd s.now k b,old := if (s.old k).isSome then s.old else upd s.old k (some (s.now k)) }) := by unfold PS.write; rw [if_neg h1,if_neg (by omega),hb]; rfl
    obtain ⟨O,hO⟩ : ∃ O,(if (s.old k).isSome then s.old else upd s.old k (some (s.now k))) = O := ⟨_,rfl⟩
    rw [hO] at e
    rw [e]
    have HO : Hid ((if (s.old k).isSome then s.old else upd s.old k (some (s.now k))) = O) := hO
    rw [hb] at hcon
    have H3 : Hid (b.size = 256) := h3
    clear h1 e h3 hO
    go_enter Tryz.func149,Tryz.ntmps149
    go_upto_region 9 with (first | (go_at_call 164; refine hhas.mono ?_; rintro e w0 ⟨rfl,rfl⟩) | (go_at_call 106; refine hcon.mono ?_; rintro e w1 ⟨rfl,hR,ho⟩) | (go_at_call 107; refine (pspend_any w1 base A s.asked hR hlf).mono ?_; rintro e w2 ⟨rfl,hR2,ho2⟩; have c4 : w2.cell? ⟨A.q, 4,none⟩ = some (.int .i64 s.steps) := hR2.cells.2.2.2.2; have f4 : w2.frozen? ⟨A.q, 4,none⟩ = false := hR2.blkQ.frozen 4))
    have hR3 : PD (w2.setCell ⟨A.q, 4,none⟩ (.int .i64 (wrap64 (s.steps + 1)))) base A { s.asked.spent with steps := wrap64 (s.steps + 1) } := hR2.cell 4 (.int .i64 (wrap64 (s.steps + 1))) rfl rfl rfl rfl
    have ho3 := (ho.trans ho2).setCell (B := A.q) (i := 4) (.int .i64 (wrap64 (s.steps + 1))) (.inl (.inr (.inl rfl)))
    obtain ⟨km,D,hm1',hm2,hm3⟩ := hR2.map
    have hm1 := map_off hm1' (Off.one (i := 4) (B := A.q) w2 (.int .i64 (wrap64 (s.steps + 1)))) (hR2.apart.2.2.1)
    clear hm1'
    obtain ⟨W,hW⟩ : ∃ W,w2.setCell ⟨A.q, 4,none⟩ (.int .i64 (wrap64 (s.steps + 1))) = W := ⟨_,rfl⟩
    rw [hW] at hR3 ho3 hm1 ⊢
    clear hW c4 f4 hR hR2 ho ho2 hcon hhas h
    obtain ⟨c0,c1,c2,c3,c4⟩ := hR3.cells
    have hn2 := hR3.n2
    have hkey := key_of k (by have : k < s.n := hk; have : s.n ≤ 4096 := hn2; omega)
    have hhas := hm3.has_ k hk
    have hm0 := hm1
    have hRW := hR3
    cases ho : (s.old k).isSome with
    | true =>
     have ho' : ({ s.asked.spent with steps := wrap64 (s.steps + 1) } : PS).old k = s.old k := rfl
     rw [ho',ho] at hhas
     have HFIN : Hid (O = s.old) := by show _ = _; rw [← HO.out,ho]; rfl
     clear ho' ho
     go_upto_region 12 with (first
      | (at_lookup; refine wpList_lookup_own_ok _ rfl (.tmp 31) (.tmp 32) 131 rfl 3 135 keyed3 Tryz.underlying131 secR (zero107 _) (.lit (.string (zeros 256).data.toList)) [] (secR_mk size_zero256) A.m km D rfl hm1 _ (kl k) rfl hkey ?_; intro v ps hv; obtain ⟨b0,hb0,rfl,_⟩ := secR_inv hv; clear hv)
      | (refine wpList_store_mid rfl 135 (.tmp 7) (.tmp 34) rfl W.heap.size 0 (strCells b0).toArray rfl rfl (by rw [size_strCells hb0]; exact there_new W) (by rw [size135,size_strCells hb0]) (all_strCells b0) ?_))
     have hbel4 : Below W.heap.size W ((W.alloc (.cells Tryz.zeroCells135 135)).setCells W.heap.size 0 (strCells b0)) := below_setCells (Nat.le_refl _) _ _ _ ((Below.refl _ _).alloc (Nat.le_refl _) _)
     have hR4 := hRW.below hbel4
     have ho4 := ho3.trans (Off.of_below (F := A.F) hbel4)
     obtain ⟨W4,hW4⟩ : ∃ W4,(W.alloc (.cells Tryz.zeroCells135 135)).setCells W.heap.size 0 (strCells b0) = W4 := ⟨_,rfl⟩
     rw [hW4] at hR4 ho4 ⊢
     clear hW4 hbel4 hRW hR3 ho3 hm1 hm0 c0 c1 c2 c3 c4 hhas hm2 hm3
     have hlen : 256 ≤ b.size := by have := H3.out; omega
     have hth := hR4.sec.there (i := k) hk
     have hgl := hR4.sec.lt
     have c0 : W4.cell? ⟨A.q, 0,none⟩ = some (.slice (some ⟨A.g, 0,none⟩) s.n s.n) := hR4.cells.1
     have hR5 := hR4.setSec (i := k) hk H3.out
     have ho5 := Off.setCells (F := A.F) (B := A.g) (.inl (.inr (.inr (.inl rfl)))) (strCells b) (k * 256) _ ho4
     go_wp2_with (refine wpList_copy_long rfl (.tmp 56) (.tmp 57) 81 9 rfl 5 Tryz.underlying81 sizeOf5 A.g (k * 256) 256 256 rfl b rfl hlen hth ?_; rw [extract_all H3.out])
     go_ret
     exact ⟨rfl,by rw [HFIN.out]; exact hR5,ho5⟩
    | false =>
     have ho' : ({ s.asked.spent with steps := wrap64 (s.steps + 1) } : PS).old k = s.old k := rfl
     rw [ho',ho] at hhas
     have HFIN : Hid (O = upd s.old k (some (s.now k))) := by show _ = _; rw [← HO.out,ho]; rfl
     clear ho' ho
     go_upto_region 11 with (first
      | (at_lookup; refine wpList_lookup_own_ok _ rfl (.tmp 31) (.tmp 32) 131 rfl 3 135 keyed3 Tryz.underlying131 secR (zero107 _) (.lit (.string (zeros 256).data.toList)) [] (secR_mk size_zero256) A.m km D rfl hm1 _ (kl k) rfl hkey ?_; intro v ps hv; obtain ⟨b0,hb0,rfl,_⟩ := secR_inv hv; clear hv)
      | (refine wpList_store_mid rfl 135 (.tmp 7) (.tmp 34) rfl W.heap.size 0 (strCells b0).toArray rfl rfl (by rw [size_strCells hb0]; exact there_new W) (by rw [size135,size_strCells hb0]) (all_strCells b0) ?_))
     have hbel4 : Below W.heap.size W ((W.alloc (.cells Tryz.zeroCells135 135)).setCells W.heap.size 0 (strCells b0)) := below_setCells (Nat.le_refl _) _ _ _ ((Below.refl _ _).alloc (Nat.le_refl _) _)
     have hR4 := hRW.below hbel4
     have ho4 := ho3.trans (Off.of_below (F := A.F) hbel4)
     have hm41 := map_off hm1 (Off.of_below (F := fun _ => False) hbel4) (fun h => h)
     obtain ⟨W4,hW4⟩ : ∃ W4,(W.alloc (.cells Tryz.zeroCells135 135)).setCells W.heap.size 0 (strCells b0) = W4 := ⟨_,rfl⟩
     rw [hW4] at hR4 ho4 hm41 ⊢
     clear hW4 hbel4 hRW hR3 ho3 hm1 hm0 c0 c1 c2 c3 c4 hhas
     have hnk : (s.now k).size = 256 := hR4.sec.size k hk
     have hd4 := hR4.below ((Below.refl _ W4).drew)
     have hrg : W4.rangeAt A.g (k * 256) (strCells (s.now k)) := hR4.sec.at_ k hk
     have hu7 := Tryz.underlying135
     have hi7 : (Tryz.prog.info? 135).map (·.size) = some (strCells (s.now k)).length := by rw [size135,strCells_length,hnk]
     obtain ⟨w5,hup,hm5,hg5⟩ := (hm41.drew).update keyed3 Tryz.underlying131 (val := secV (s.now k)) (by unfold maxLen; omega) hkey (secR_mk hnk)
     have ho6 : Off (fun x => x = A.m) W4.drew w5 := (Off.refl _ _).grown hg5 (fun j hj => .inl (by cases hj; rfl))
     have hR5 : PD w5 base A { s.asked.spent with steps := wrap64 (s.steps + 1),old := upd s.old k (some (s.now k)) } := by
      obtain ⟨a1,a2,a3,a4,a5,a6⟩ := hd4.apart
      refine ⟨hd4.le,hd4.blkP.off ho6 (Ne.symm a5),hd4.blkQ.off ho6 (Ne.symm a3),hd4.sec.off ho6 (Ne.symm a6),⟨s.n,_,map_tight hm5 (MapIs.put hm3 hm41.isMap hk hnk),hd4.n2,MapIs.put hm3 hm41.isMap hk hnk⟩,hd4.n1,hd4.n2⟩
     have ho5 : Off A.F w0 w5 := (ho4.drew).trans (ho6.mono (fun x _ hx => .inr (.inr (.inr hx))))
     have hup' : (Instr.mapUpdate 131 (.map (some A.m)) (.int .i64 (k : Int)) (.agg (strCells (s.now k)).toArray)).run Tryz.prog W4.drew = .ok () w5 := hup
     have hrg5 : w5.rangeAt A.g (k * 256) (strCells (s.now k)) := hR5.sec.at_ k hk
     have d0 : w5.cell? ⟨A.q, 0,none⟩ = some (.slice (some ⟨A.g, 0,none⟩) s.n s.n) := hR5.cells.1
     have d1 : w5.cell? ⟨A.q, 1,none⟩ = some (.map (some A.m)) := hR5.cells.2.1
     clear hm5 hg5 ho6 hup
     have hgl := hR4.sec.lt
     have c0 : W4.cell? ⟨A.q, 0,none⟩ = some (.slice (some ⟨A.g, 0,none⟩) s.n s.n) := hR4.cells.1
     have c1 : W4.cell? ⟨A.q, 1,none⟩ = some (.map (some A.m)) := hR4.cells.2.1
     go_region_held3 (fun W' => W'.cell? ⟨A.q, 0,none⟩ = some (.slice (some ⟨A.g, 0,none⟩) s.n s.n) ∧ W'.cell? ⟨A.q, 1,none⟩ = some (.map (some A.m)) ∧ W'.rangeAt A.g (k * 256) (strCells (s.now k)))
      (first
       | exact ⟨d0,d1,hrg5⟩
       | exact ⟨c0,c1,hrg⟩
       | go_keep)
      (fail)
     have hlen : 256 ≤ b.size := by have := H3.out; omega
     have hth := hR5.sec.there (i := k) hk
     have hgl5 := hR5.sec.lt
     have hR7 := hR5.setSec (i := k) hk H3.out
     have ho7 := Off.setCells (F := A.F) (B := A.g) (.inl (.inr (.inr (.inl rfl)))) (strCells b) (k * 256) _ ho5
     clear c0 c1 hup' hrg hrg5 hR4 hd4 hm41
     go_wp2_with (refine wpList_copy_long rfl (.tmp 56) (.tmp 57) 81 9 rfl 5 Tryz.underlying81 sizeOf5 A.g (k * 256) 256 256 rfl b rfl hlen hth ?_; rw [extract_all H3.out])
     go_ret
     exact ⟨rfl,by rw [HFIN.out]; exact hR7,ho7⟩
  ·have t3 : ((b.size : Int) != 256) = true := by simp; omega
   have e : s.write k b = (2,s) := by unfold PS.write; rw [if_neg h1,if_pos (by omega)]
   rw [e]
   clear h1 e
   go_enter Tryz.func149,Tryz.ntmps149
   go_wp2_with (go_at_call 164; refine hhas.mono ?_; rintro e w1 ⟨rfl,rfl⟩)
   go_ret
   exact ⟨rfl,h,Off.refl _ _⟩
end
end Go.Proofs.YtdgbgmffpcooeaaGreat
