/- B1 Rep R1 Pk1 R2 -/
import Derived.Test.YtdgbgmffpcooeaaGreatU05
import Derived.Shelf.Strings.Repeat
import Derived.Ground.NamesProg
import Derived.Deep.MidRow
import Derived.Maps.RangeWalk
import Derived.Maps.OwnSet
import Derived.Lib.LazyBuf
namespace Go.Proofs.YtdgbgmffpcooeaaGreat
open Go.RowKit Go.Lib
section
theorem wrap64_w64 (n : Int) : wrap64 n = w64 n := by unfold wrap64 w64; omega
theorem ofInt_wrap (z : Nat) (h : z < 18446744073709551616) : (BitVec.ofInt 64 (wrap64 (z : Int))).toNat = z := by
 rw [BitVec.toNat_ofInt]
 have : (wrap64 (z : Int)) % ((2 ^ 64 : Nat) : Int) = (z : Int) := by unfold wrap64; omega
 rw [this]; rfl
theorem pow_256 (i : Nat) : (2 : Nat) ^ (8 * i) = 256 ^ i := by rw [Nat.pow_mul]
theorem or_round (bs : List UInt8) (b : UInt8) (i : Nat) (hl : bs.length = i) (hi : i < 8) : bits .or .i64 (w64 (rdN bs)) (wrap64 ((b.toNat : Int) * 2 ^ (8 * i))) = w64 (rdN (bs ++ [b])) := by
 have h1 := rdN_lt bs
 have h2 := rdN_lt (bs ++ [b])
 have hb := b.toNat_lt
 rw [List.length_append,List.length_singleton,hl] at h2
 rw [hl] at h1
 have h3 : 256 ^ (i + 1) ≤ 256 ^ 8 := Nat.pow_le_pow_right (by decide) (by omega)
 have e8 : (256 : Nat) ^ 8 = 18446744073709551616 := by decide
 have e1 : rdN (bs ++ [b]) = rdN bs + b.toNat * 2 ^ (8 * i) := by rw [rdN_snoc,hl,pow_256]
 have hx : b.toNat * 2 ^ (8 * i) < 18446744073709551616 := by omega
 have e2 : ((b.toNat : Int) * 2 ^ (8 * i)) = ((b.toNat * 2 ^ (8 * i) : Nat) : Int) := by rw [pow_cast, ← Int.natCast_mul]
 rw [e2, ← wrap64_w64 (rdN bs)]
 show IntKind.i64.wrap ((BitVec.ofInt 64 (wrap64 (rdN bs : Int)) ||| BitVec.ofInt 64 (wrap64 ((b.toNat * 2 ^ (8 * i) : Nat) : Int))).toNat : Int) = _
 rw [BitVec.toNat_or,ofInt_wrap _ hx,ofInt_wrap _ (by omega),or_above _ _ _ (by rw [pow_256]; exact h1), ← e1]
 show _ = (_ : Int)
 unfold w64
 simp only [IntKind.wrap,IntKind.bits,IntKind.signed]
 have : rdN (bs ++ [b]) < 18446744073709551616 := by omega
 simp
 omega
def numR (s : Nat) (b : ByteArray) : Int := w64 (rdN (b.data.toList.take s))
set_option maxRecDepth 100000 in
set_option maxHeartbeats 1000000 in
theorem tnum_any (w : World) (B : Nat) (b : ByteArray) (s : Nat) (hB : Blk w B 246 #[.string b]) (hs : s ≤ 8) (hsb : s ≤ b.size) (hbb : b.size ≤ 256) :
  Calls Tryz.prog 165 #[.pointer (some ⟨B, 0,none⟩), .int .i64 (s : Int)] w fun e w' => e = .returned (.int .i64 (numR s b)) ∧ w' = w.setCell ⟨B, 0,none⟩ (.string (b.extract s b.size)) := by
 have c0 : w.cell? ⟨B, 0,none⟩ = some (.string b) := hB.cell 0
 have f0 : w.frozen? ⟨B, 0,none⟩ = false := hB.frozen 0
 go_enter Tryz.func165,Tryz.ntmps165
 go_wp2
 go_loopw [5, 8] (fun n i wr => wr = w ∧ ∃ k : Nat,i = .int .i64 (k : Int) ∧ k ≤ s ∧ n = .int .i64 (w64 (rdN (b.data.toList.take k)))) (fun _ i _ => s - (intOf i).toNat)
 case atStart => exact ⟨rfl, 0,rfl,Nat.zero_le _,by simp [rdN]; rfl⟩
 case round =>
  obtain ⟨rfl,k,rfl,hk,rfl⟩ := hrel
  by_cases hlt : k < s
  ·have hlt' : (k : Int) < (s : Int) := by omega
   have hkb : k < b.size := by omega
   have hw : wrap64 ((b[k].toNat : Nat) : Int) = (b[k].toNat : Int) := wrap64_nat _ (by have := b[k].toNat_lt; omega)
   have htk : b.data.toList.take (k + 1) = b.data.toList.take k ++ [b[k]] := by
    have : b.data.toList[k]? = some b[k] := by simp [hkb]; rfl
    rw [List.take_add_one,this]; rfl
   have hr := or_round (b.data.toList.take k) b[k] k (by rw [List.length_take,length_data]; omega) (by omega)
   have HW : Hid (wrap64 ((b[k].toNat : Nat) : Int) = (b[k].toNat : Int)) := hw
   clear hw
   go_wp2
   refine ⟨⟨trivial,k + 1,by go_num,by omega, ?_⟩,by simp [intOf]; omega⟩
   rw [HW.out,hr,htk]
  ·have hlt' : decide ((k : Int) < (s : Int)) = false := by simp; omega
   have hlt2 : decide (k < s) = false := by simp; omega
   have hkk : k = s := by omega
   subst hkk
   have g1 : (k : Int) ≤ (b.size : Int) := by omega
   go_wp2
   go_ret
   exact ⟨rfl,rfl⟩
structure Ink (W : World) (base B : Nat) (bs : List UInt8) : Prop where
 le : base ≤ B
 row : ∃ v,Blk W B 262 #[v] ∧ W.ownsRow base 5 1 v bs.length (byteCells bs)
def ByteBlk (W : World) (k : Nat) : Prop := ∃ cs f,W.heap[k]? = some (.cells cs 5 f)
def InkF (W : World) (base B : Nat) (k : Nat) : Prop := k = B ∨ (base ≤ k ∧ ByteBlk W k)
theorem InkF.trans {base B : Nat} {a b c : World} (h : Off (InkF a base B) a b) (k : Off (InkF b base B) b c) : Off (InkF a base B) a c := h.step k fun i hi hg => by
 rcases hg with hg | ⟨hge,cs,f,hg⟩
 ·exact .inl hg
 ·refine Classical.byContradiction fun hn => hn (.inr ⟨hge,cs,f, ?_⟩)
  rw [← hg]; exact (h.block i hi hn).symm
theorem Ink.lt {W : World} {base B : Nat} {bs : List UInt8} (h : Ink W base B bs) : B < W.heap.size := by obtain ⟨v,h1,_⟩ := h.row; exact h1.lt
theorem Ink.off {F : Nat → Prop} {W W' : World} {base B : Nat} {bs : List UInt8} (h : Ink W base B bs) (ho : Off F W W') (hB : ¬ F B) (hF : ∀ k,F k → ¬ ByteBlk W k) : Ink W' base B bs := by
 obtain ⟨v,h1,h2⟩ := h.row
 refine ⟨h.le,v,h1.off ho hB, ?_⟩
 obtain ⟨h0,h3 | ⟨g,cap,cur,e1,e2,e3,e4⟩⟩ := h2
 ·exact ⟨h0, .inl h3⟩
 ·exact ⟨h0, .inr ⟨g,cap,cur,e1,e2,(ho.block g (Array.getElem?_eq_some_iff.1 e3).1 fun hf => hF g hf ⟨cur,(0, 0),e3⟩).trans e3,e4⟩⟩
theorem Ink.below {W W' : World} {base B : Nat} {bs : List UInt8} (h : Ink W base B bs) (hb : Below W.heap.size W W') : Ink W' base B bs := h.off (F := fun _ => False) (Off.of_below hb) (fun h => h) (fun _ h => h.elim)
theorem byteCells_append (a b : List UInt8) : byteCells (a ++ b) = byteCells a ++ byteCells b := by simp [byteCells]
theorem u8_wrap (n : Int) : IntKind.u8.wrap n = ((byteB n).toNat : Int) := by
 rw [byteB_toNat]; simp [IntKind.wrap,IntKind.bits,IntKind.signed]
theorem ink_grown {wr w4 : World} {base B gg capp : Nat} {v : Value} {cs : List UInt8} {b : UInt8} (hle : base ≤ B) (hB : Blk wr B 262 #[v]) (hrow : wr.ownsRow base 5 1 v cs.length (byteCells cs)) (o : Obj) (hg : (wr.alloc o).grownBy w4 v.ownBlock)
  (hown : w4.ownsRow base 5 1 (.slice (some ⟨gg, 0,none⟩) (cs.length + 1) capp) (cs.length + 1) (byteCells cs ++ [.int .u8 b.toNat])) :
  Blk w4 B 262 #[v] ∧ Ink (w4.setCell ⟨B, 0,none⟩ (.slice (some ⟨gg, 0,none⟩) (cs.length + 1) capp)) base B (cs ++ [b]) ∧ Off (InkF wr base B) wr (w4.setCell ⟨B, 0,none⟩ (.slice (some ⟨gg, 0,none⟩) (cs.length + 1) capp)) := by
 have hB4 : Blk w4 B 262 #[v] := (hB.alloc o).grown hg fun j hj => by
  obtain ⟨_,c,h1⟩ := own_tagged (hrow.alloc o) hj
  exact tag_ne (hB.alloc o) h1 (by decide)
 refine ⟨hB4,⟨hle,_,hB4.set 0 _, ?_⟩, ?_⟩
 ·rw [byteCells_append,List.length_append]
  exact own_other hown hB4 (by decide) _
 ·refine Off.setCell ?_ _ (.inl (.inl rfl))
  refine ((Off.refl _ wr).alloc o).grown hg fun j hj => .inl (.inr ?_)
  obtain ⟨h0,c,h1⟩ := own_tagged hrow hj
  exact ⟨h0,c,(0, 0),h1⟩
set_option maxRecDepth 100000 in
set_option maxHeartbeats 1000000 in
theorem inum_any (w : World) (base B : Nat) (bs : List UInt8) (n : Int) (s : Nat) (h : Ink w base B bs) (hb : bs.length + s ≤ 1000) :
  Calls Tryz.prog 185 #[.pointer (some ⟨B, 0,none⟩), .int .i64 n, .int .i64 (s : Int)] w fun e w' => e = .returned (.tuple #[]) ∧ Ink w' base B (bs ++ numB s n) ∧ Off (InkF w base B) w w' := by
 obtain ⟨i5,hi5,hz5a,hz5b,hz5c⟩ := info_parts info5
 go_enter Tryz.func185,Tryz.ntmps185
 go_wp2
 go_loopw [1, 7] (fun x i wr => ∃ (k : Nat) (m : Int) (cs : List UInt8),x = .int .i64 m ∧ i = .int .i64 (k : Int) ∧ k ≤ s ∧ Hid (bs ++ numB s n = cs ++ numB (s - k) m) ∧ cs.length = bs.length + k ∧ Ink wr base B cs ∧ Off (InkF w base B) w wr) (fun _ i _ => s - (intOf i).toNat)
 case atStart => exact ⟨0,n,bs,rfl,rfl,Nat.zero_le _,rfl,rfl,h,Off.refl _ _⟩
 case round =>
  obtain ⟨k,m,cs,rfl,rfl,hk,he,hl,hI,ho⟩ := hrel
  by_cases hlt : k < s
  ·have hlt' : (k : Int) < (s : Int) := by omega
   obtain ⟨v,hB,hrow⟩ := hI.row
   have c0 : wr.cell? ⟨B, 0,none⟩ = some v := hB.cell 0
   have f0 : wr.frozen? ⟨B, 0,none⟩ = false := hB.frozen 0
   have hle := hI.le
   have hBl := hB.lt
   have hu8 := u8_wrap m
   have hl2 : cs.length + 1 ≤ 1000 := by omega
   have HL : Hid (cs.length = bs.length + k) := hl
   clear hl
   go_wp2_with (at_builtin; refine wpList_append_lies _ rfl (.tmp 12) (.tmp 15) 262 rfl base 5 i5 _ 1 1 Tryz.underlying262 hi5 hz5a hz5b hz5c rfl (by omega) v cs.length _ rfl (hrow.alloc _) ⟨wr.heap.size, 0,none⟩ 1 1 [.int .u8 (byteB m).toNat] rfl rfl (World.news_of_block (cs := #[.int .u8 (byteB m).toNat]) (t := 5) (fr := (0, 0)) (heap_alloc_new wr _)) (by simp [Value.oneCell']) (by omega) (by unfold maxLen; omega) (by omega) (by simp; omega) (wr.heap.size + 1) (by simp) ?_; intro gg capp w4 hown4 hgrow4 hat4 hlt4; obtain ⟨hB4,hI4,ho4⟩ := ink_grown hle hB hrow _ hgrow4 hown4; have c4 : w4.cell? ⟨B, 0,none⟩ = some v := hB4.cell 0; have f4 : w4.frozen? ⟨B, 0,none⟩ = false := hB4.frozen 0; clear hgrow4 hat4 hown4)
   refine ⟨⟨k + 1,_,_,rfl,by go_num,by omega, ?_, ?_,hI4,InkF.trans ho ho4⟩,by simp [intOf]; omega⟩
   ·show _ = _
    rw [he.out,show s - k = (s - (k + 1)) + 1 by omega,numB]
    simp
   ·have := HL.out; simp; omega
  ·have hlt' : decide ((k : Int) < (s : Int)) = false := by simp; omega
   have hlt2 : decide (k < s) = false := by simp; omega
   have hkk : k = s := by omega
   rw [hkk,Nat.sub_self] at he
   have HE : Hid (bs ++ numB s n = cs) := by show _ = _; rw [he.out]; simp [numB]
   clear he hkk
   go_wp2
   refine bodyPost_end (v := .tuple #[]) (by simp [results,Tryz.results185]) rfl ⟨rfl,by rw [HE.out]; exact hI,ho⟩
end
end Go.Proofs.YtdgbgmffpcooeaaGreat
namespace Go.Proofs
open Go.Shelf
section
def Tryz.repeatS_ren : Go.Shelf.Ren := ⟨fun | 105 => 213 | 212 => 223 | 99 => 224 | 165 => 225 | 166 => 226 | 170 => 227 | 169 => 228 | 263 => 231 | 264 => 232 | 206 => 233 | 240 => 234 | 241 => 235 | 276 => 236 | 277 => 237 | n => n,fun | 9 => 9 | 3 => 3 | 4 => 4 | 20 => 20 | 0 => 0 | 46 => 204 | 109 => 302 | 5 => 5 | 72 => 307 | 76 => 310 | 51 => 243 | 146 => 315 | 53 => 245 | 148 => 317 | 70 => 305 | 37 => 81 | 75 => 309 | 127 => 319 | 164 => 320 | 80 => 110 | n => n,fun | n => n⟩
theorem Tryz.repeatS : Go.Proofs.Lays.n105 Tryz.prog Tryz.repeatS_ren := {
 mixed := by kernel_rfl
 f99 := Tryz.func224.trans (congrArg some (by kernel_rfl))
 f105 := Tryz.func213.trans (congrArg some (by kernel_rfl))
 f165 := Tryz.func225.trans (congrArg some (by kernel_rfl))
 f166 := Tryz.func226.trans (congrArg some (by kernel_rfl))
 f169 := Tryz.func228.trans (congrArg some (by kernel_rfl))
 f170 := Tryz.func227.trans (congrArg some (by kernel_rfl))
 f206 := Tryz.func233.trans (congrArg some (by kernel_rfl))
 f212 := Tryz.func223.trans (congrArg some (by kernel_rfl))
 f240 := Tryz.func234.trans (congrArg some (by kernel_rfl))
 f241 := Tryz.func235.trans (congrArg some (by kernel_rfl))
 f263 := Tryz.func231.trans (congrArg some (by kernel_rfl))
 f264 := Tryz.func232.trans (congrArg some (by kernel_rfl))
 f276 := Tryz.func236.trans (congrArg some (by kernel_rfl))
 f277 := Tryz.func237.trans (congrArg some (by kernel_rfl))
 t0 := Tryz.underlying0
 a0 := Tryz.isAgg0
 z0 := Tryz.sizeOf0
 v0 := Tryz.zeroValue0
 t3 := Tryz.underlying3
 a3 := Tryz.isAgg3
 z3 := Tryz.sizeOf3
 v3 := Tryz.zeroValue3
 t4 := Tryz.underlying4
 a4 := Tryz.isAgg4
 z4 := Tryz.sizeOf4
 v4 := Tryz.zeroValue4
 t5 := Tryz.underlying5
 a5 := Tryz.isAgg5
 z5 := Tryz.sizeOf5
 v5 := Tryz.zeroValue5
 t9 := Tryz.underlying9
 a9 := Tryz.isAgg9
 z9 := Tryz.sizeOf9
 v9 := Tryz.zeroValue9
 t20 := Tryz.underlying20
 a20 := Tryz.isAgg20
 z20 := Tryz.sizeOf20
 v20 := Tryz.zeroValue20
 t37 := Tryz.underlying81
 a37 := Tryz.isAgg81
 z37 := Tryz.sizeOf81
 v37 := Tryz.zeroValue81
 t46 := Tryz.underlying204
 a46 := Tryz.isAgg204
 z46 := Tryz.sizeOf204
 v46 := Tryz.zeroValue204
 t51 := Tryz.underlying243
 a51 := Tryz.isAgg243
 z51 := Tryz.sizeOf243
 v51 := Tryz.zeroValue243
 t53 := Tryz.underlying245
 a53 := Tryz.isAgg245
 z53 := Tryz.sizeOf245
 v53 := Tryz.zeroValue245
 t70 := Tryz.underlying305
 a70 := Tryz.isAgg305
 z70 := Tryz.sizeOf305
 v70 := Tryz.zeroValue305
 t72 := Tryz.underlying307
 a72 := Tryz.isAgg307
 z72 := Tryz.sizeOf307
 v72 := Tryz.zeroValue307
 t75 := Tryz.underlying309
 a75 := Tryz.isAgg309
 z75 := Tryz.sizeOf309
 v75 := Tryz.zeroValue309
 t76 := Tryz.underlying310
 a76 := Tryz.isAgg310
 z76 := Tryz.sizeOf310
 v76 := Tryz.zeroValue310
 t109 := Tryz.underlying302
 a109 := Tryz.isAgg302
 z109 := Tryz.sizeOf302
 v109 := Tryz.zeroValue302
 t127 := Tryz.underlying319
 a127 := Tryz.isAgg319
 z127 := Tryz.sizeOf319
 v127 := Tryz.zeroValue319
 t146 := Tryz.underlying315
 a146 := Tryz.isAgg315
 z146 := Tryz.sizeOf315
 v146 := Tryz.zeroValue315
 t148 := Tryz.underlying317
 a148 := Tryz.isAgg317
 z148 := Tryz.sizeOf317
 v148 := Tryz.zeroValue317
 t164 := Tryz.underlying320
 a164 := Tryz.isAgg320
 z164 := Tryz.sizeOf320
 v164 := Tryz.zeroValue320 }
end
end Go.Proofs
namespace Go.Proofs.YtdgbgmffpcooeaaGreat
open Go.RowKit
section
def cmpI (x y : Int) : Int := if x < y then -1 else if y < x then 1 else 0
set_option maxHeartbeats 400000 in
theorem cmpI_any (x y : Int) (w : World) : Calls Tryz.prog 142 #[.int .i64 x, .int .i64 y] w fun e w' => e = .returned (.int .i64 (cmpI x y)) ∧ w' = w := by
 rcases Int.lt_trichotomy x y with h | h | h
 ·have e : cmpI x y = -1 := by unfold cmpI; rw [if_pos h]
  rw [e]; clear e
  go_enter Tryz.func142,Tryz.ntmps142
  go_wp2
  go_ret
  exact ⟨rfl,rfl⟩
 ·have h1 : decide (x < y) = false := by simp; omega
  have h2 : decide (y < x) = false := by simp; omega
  have e : cmpI x y = 0 := by unfold cmpI; rw [if_neg (by omega),if_neg (by omega)]
  rw [e]; clear e h
  go_enter Tryz.func142,Tryz.ntmps142
  go_wp2
  go_ret
  exact ⟨rfl,rfl⟩
 ·have h1 : decide (x < y) = false := by simp; omega
  have e : cmpI x y = 1 := by unfold cmpI; rw [if_neg (by omega),if_pos h]
  rw [e]; clear e
  go_enter Tryz.func142,Tryz.ntmps142
  go_wp2
  go_ret
  exact ⟨rfl,rfl⟩
def cmpK (a b : Key) : Int := if cmpI a.1 b.1 ≠ 0 then cmpI a.1 b.1 else cmpI a.2 b.2
theorem cmpI_zero {x y : Int} : cmpI x y = 0 ↔ x = y := by unfold cmpI; split <;> (try split) <;> omega
theorem cmpI_neg {x y : Int} : cmpI x y < 0 ↔ x < y := by unfold cmpI; split <;> (try split) <;> omega
theorem cmpK_neg (a b : Key) : cmpK a b < 0 ↔ klt a b := by
 unfold cmpK klt
 have h1 := @cmpI_zero a.1 b.1
 have h2 := @cmpI_neg a.1 b.1
 have h3 := @cmpI_neg a.2 b.2
 split <;> omega
theorem cmpK_zero (a b : Key) : cmpK a b = 0 ↔ a = b := by
 obtain ⟨a1,a2⟩ := a
 obtain ⟨b1,b2⟩ := b
 unfold cmpK
 have h1 := @cmpI_zero a1 b1
 have h3 := @cmpI_zero a2 b2
 simp only [Prod.mk.injEq]
 split <;> omega
set_option maxRecDepth 100000 in
set_option maxHeartbeats 1000000 in
theorem scmp_any (a b : Key) (w : World) (p q : Nat) (a1 : w.cell? ⟨p, 0,none⟩ = some (.int .i64 a.1)) (a2 : w.cell? ⟨p, 1,none⟩ = some (.int .i64 a.2)) (b1 : w.cell? ⟨q, 0,none⟩ = some (.int .i64 b.1)) (b2 : w.cell? ⟨q, 1,none⟩ = some (.int .i64 b.2)) :
  Calls Tryz.prog 135 #[.slice (some ⟨p, 0,none⟩) 2 2, .slice (some ⟨q, 0,none⟩) 2 2] w fun e w' => e = .returned (.int .i64 (cmpK a b)) ∧ w' = w := by
 have hc1 := cmpI_any a.1 b.1 w
 have hc2 := cmpI_any a.2 b.2 w
 obtain ⟨x,hx⟩ : ∃ x,cmpI a.1 b.1 = x := ⟨_,rfl⟩
 obtain ⟨y,hy⟩ : ∃ y,cmpI a.2 b.2 = y := ⟨_,rfl⟩
 have e : cmpK a b = if x ≠ 0 then x else y := by unfold cmpK; rw [hx,hy]
 rw [hx] at hc1
 rw [hy] at hc2
 have E : Hid (cmpK a b = if x ≠ 0 then x else y) := e
 clear hx hy e
 go_enter Tryz.func135,Tryz.ntmps135
 go_wp2
 go_loopw [11] (fun i wr => wr = w ∧ ((i = .int .i64 0) ∨ (i = .int .i64 1 ∧ x = 0) ∨ (i = .int .i64 2 ∧ x = 0 ∧ y = 0))) (fun i _ => 2 - (intOf i).toNat)
 case atStart => exact ⟨rfl, .inl rfl⟩
 case round =>
  obtain ⟨rfl,rfl | ⟨rfl,hx⟩ | ⟨rfl,hx,hy⟩⟩ := hrel
  ·by_cases h0 : x = 0
   ·have t0 : (x != 0) = false := by simp [h0]
    go_wp2_with (go_at_call 142; refine hc1.mono ?_; rintro e w' ⟨rfl,rfl⟩)
    go_roundw
    case rel => exact ⟨trivial, .inr (.inl ⟨rfl,h0⟩)⟩
    case measure => simp [intOf]
   ·have t0 : (x != 0) = true := by simp [h0]
    go_wp2_with (go_at_call 142; refine hc1.mono ?_; rintro e w' ⟨rfl,rfl⟩)
    go_ret
    exact ⟨ret_int (by rw [E.out,if_pos h0]),rfl⟩
  ·by_cases h0 : y = 0
   ·have t0 : (y != 0) = false := by simp [h0]
    have HX : Hid (x = 0) := hx
    clear hx
    go_wp2_with (go_at_call 142; refine hc2.mono ?_; rintro e w' ⟨rfl,rfl⟩)
    go_roundw
    case rel => exact ⟨trivial, .inr (.inr ⟨rfl,HX.out,h0⟩)⟩
    case measure => simp [intOf]
   ·have t0 : (y != 0) = true := by simp [h0]
    have HX : Hid (x = 0) := hx
    clear hx
    go_wp2_with (go_at_call 142; refine hc2.mono ?_; rintro e w' ⟨rfl,rfl⟩)
    go_ret
    exact ⟨ret_int (by rw [E.out,if_neg (by rw [HX.out]; simp)]),rfl⟩
  ·have HX : Hid (x = 0) := hx
   have HY : Hid (y = 0) := hy
   clear hx hy
   go_wp2
   go_ret
   exact ⟨ret_int (by rw [E.out,if_neg (by rw [HX.out]; simp),HY.out]),rfl⟩
set_option maxRecDepth 100000 in
set_option maxHeartbeats 1000000 in
theorem kcmp_any (a b : Key) (w : World) :
  Calls Tryz.prog 104 #[.agg #[.int .i64 a.1, .int .i64 a.2], .agg #[.int .i64 b.1, .int .i64 b.2]] w fun e w' => e = .returned (.int .i64 (cmpK a b)) ∧ Below w.heap.size w w' := by
 have hb1 := (Blk.new w 154 #[.int .i64 a.1, .int .i64 a.2]).alloc (.cells #[.int .i64 b.1, .int .i64 b.2] 154)
 have hb2 := Blk.new (w.alloc (.cells #[.int .i64 a.1, .int .i64 a.2] 154)) 154 #[.int .i64 b.1, .int .i64 b.2]
 rw [World.size_alloc] at hb2
 have hs := scmp_any a b _ w.heap.size (w.heap.size + 1) (hb1.drew.cell 0) (hb1.drew.cell 1) (hb2.drew.cell 0) (hb2.drew.cell 1)
 go_enter Tryz.func104,Tryz.ntmps104
 go_wp2
 go_region_held3 (fun _ => True) (trivial) ((go_at_call 135; refine hs.mono ?_; rintro e w' ⟨rfl,rfl⟩))
 all_goals
  go_wp2
  go_ret
  exact ⟨rfl,(((Below.refl _ w).alloc (Nat.le_refl _) _).alloc (by simp) _).drew⟩
end
end Go.Proofs.YtdgbgmffpcooeaaGreat
namespace Go.Proofs.YtdgbgmffpcooeaaGreat
open Go.RowKit Go.Lib Go.Maps
section
def secV (b : ByteArray) : Value := .agg (strCells b).toArray
theorem u8_inj {a b : UInt8} (h : (Value.int .u8 (a.toNat : Int)) = .int .u8 (b.toNat : Int)) : a = b := by
 injection h with _ h
 exact UInt8.toNat_inj.1 (by omega)
theorem strCells_inj {a b : ByteArray} (h : strCells a = strCells b) : a = b := by
 unfold strCells at h
 have : a.data.toList = b.data.toList := List.map_inj_right (fun x y e => u8_inj e) |>.1 h
 have h2 : a.data = b.data := Array.toList_inj.1 this
 cases a; cases b; simp only at h2; rw [h2]
theorem secV_inj {a b : ByteArray} (h : secV a = secV b) : a = b := by
 unfold secV at h
 injection h with h
 exact strCells_inj (by simpa using h)
open Classical in
noncomputable def secR (v : Value) : Option (DataW Unit × List MemPlace) := if h : ∃ b : ByteArray,b.size = 256 ∧ v = secV b then some (.lit (.string h.choose.data.toList), []) else none
theorem secR_mk {b : ByteArray} (hb : b.size = 256) : secR (secV b) = some (.lit (.string b.data.toList), []) := by
 have h : ∃ c : ByteArray,c.size = 256 ∧ secV b = secV c := ⟨b,hb,rfl⟩
 unfold secR
 rw [dif_pos h, ← secV_inj h.choose_spec.2]
theorem secR_inv {v : Value} {y : DataW Unit × List MemPlace} (h : secR v = some y) : ∃ b : ByteArray,b.size = 256 ∧ v = secV b ∧ y = (.lit (.string b.data.toList), []) := by
 unfold secR at h
 split at h
 ·rename_i g
  injection h with h
  exact ⟨g.choose,g.choose_spec.1,g.choose_spec.2,h.symm⟩
 ·cases h
abbrev kl (i : Nat) : Lit := .int .i64 (i : Int)
structure MapIs (D : DataW Unit) (old : Nat → Option ByteArray) (n : Nat) : Prop where
 has_ : ∀ i,i < n → Maps.has D (kl i) = (old i).isSome
 val : ∀ i b,i < n → old i = some b → ∀ z,D.atKey (kl i) z = .lit (.string b.data.toList)
 keys : ∀ k,Maps.has D k = true → ∃ i,i < n ∧ k = kl i
 size : ∀ i b,i < n → old i = some b → b.size = 256
structure PS where
 n : Nat
 now : Nat → ByteArray
 old : Nat → Option ByteArray
 left : Int
 broken : Bool
 steps : Int
structure PA where
 p : Nat
 q : Nat
 g : Nat
 m : Nat
def PA.F (A : PA) (k : Nat) : Prop := k = A.p ∨ k = A.q ∨ k = A.g ∨ k = A.m
def pdCells (A : PA) (s : PS) : Array Value := #[.slice (some ⟨A.g, 0,none⟩) s.n s.n, .map (some A.m), .int .i64 s.left, .bool s.broken, .int .i64 s.steps]
structure Sec (W : World) (g n : Nat) (now : Nat → ByteArray) : Prop where
 blk : ∃ cur,W.heap[g]? = some (.cells cur 135 (0, 0)) ∧ cur.size = n * 256
 at_ : ∀ i,i < n → W.rangeAt g (i * 256) (strCells (now i))
 size : ∀ i,i < n → (now i).size = 256
structure PD (W : World) (base : Nat) (A : PA) (s : PS) : Prop where
 le : base ≤ A.p ∧ base ≤ A.q ∧ base ≤ A.g ∧ base ≤ A.m
 blkP : Blk W A.p 109 #[.pointer (some ⟨A.q, 0,none⟩)]
 blkQ : Blk W A.q 133 (pdCells A s)
 sec : Sec W A.g s.n s.now
 map : ∃ k D,W.ownsMap Tryz.prog 3 secR A.m k D ∧ k ≤ 4096 ∧ MapIs D s.old s.n
 n1 : 256 ≤ s.n
 n2 : s.n ≤ 4096
theorem rangeAt_off {F : Nat → Prop} {W W' : World} {b o : Nat} {cs : List Value} (h : W.rangeAt b o cs) (ho : Off F W W') (hb : ¬ F b) (hlt : b < W.heap.size) : W'.rangeAt b o cs := fun j v hv => (World.cell?_of_block (ho.block b hlt hb)).trans (h j v hv)
theorem Sec.lt {W : World} {g n : Nat} {now : Nat → ByteArray} (h : Sec W g n now) : g < W.heap.size := by obtain ⟨cur,h1,_⟩ := h.blk; exact (Array.getElem?_eq_some_iff.1 h1).1
theorem Sec.off {F : Nat → Prop} {W W' : World} {g n : Nat} {now : Nat → ByteArray} (h : Sec W g n now) (ho : Off F W W') (hg : ¬ F g) : Sec W' g n now := by
 obtain ⟨cur,h1,h2⟩ := h.blk
 exact ⟨⟨cur,(ho.block g h.lt hg).trans h1,h2⟩,fun i hi => rangeAt_off (h.at_ i hi) ho hg h.lt,h.size⟩
theorem map_off {F : Nat → Prop} {W W' : World} {m k : Nat} {D : DataW Unit} (h : W.ownsMap Tryz.prog 3 secR m k D) (ho : Off F W W') (hm : ¬ F m) : W'.ownsMap Tryz.prog 3 secR m k D := by
 obtain ⟨es,c,h1,h2⟩ := h
 exact ⟨es,c,(ho.block m (Array.getElem?_eq_some_iff.1 h1).1 hm).trans h1,h2⟩
theorem map_lt {W : World} {m k : Nat} {D : DataW Unit} (h : W.ownsMap Tryz.prog 3 secR m k D) : m < W.heap.size := by obtain ⟨es,c,h1,h2⟩ := h; exact (Array.getElem?_eq_some_iff.1 h1).1
theorem PD.off {F : Nat → Prop} {W W' : World} {base : Nat} {A : PA} {s : PS} (h : PD W base A s) (ho : Off F W W') (hF : ∀ k,A.F k → ¬ F k) : PD W' base A s := by
 obtain ⟨k,D,h1,h2⟩ := h.map
 exact ⟨h.le,h.blkP.off ho (hF _ (.inl rfl)),h.blkQ.off ho (hF _ (.inr (.inl rfl))),h.sec.off ho (hF _ (.inr (.inr (.inl rfl)))),⟨k,D,map_off h1 ho (hF _ (.inr (.inr (.inr rfl)))),h2⟩,h.n1,h.n2⟩
theorem PD.below {W W' : World} {base : Nat} {A : PA} {s : PS} (h : PD W base A s) (hb : Below W.heap.size W W') : PD W' base A s := h.off (F := fun _ => False) (Off.of_below hb) (fun _ _ h => h)
theorem PD.lt {W : World} {base : Nat} {A : PA} {s : PS} (h : PD W base A s) (k : Nat) (hk : A.F k) : base ≤ k ∧ k < W.heap.size := by
 obtain ⟨l1,l2,l3,l4⟩ := h.le
 obtain ⟨c,D,h1,h2⟩ := h.map
 rcases hk with rfl | rfl | rfl | rfl
 ·exact ⟨l1,h.blkP.lt⟩
 ·exact ⟨l2,h.blkQ.lt⟩
 ·exact ⟨l3,h.sec.lt⟩
 ·exact ⟨l4,map_lt h1⟩
theorem PD.apart {W : World} {base : Nat} {A : PA} {s : PS} (h : PD W base A s) : A.p ≠ A.q ∧ A.g ≠ A.q ∧ A.m ≠ A.q ∧ A.g ≠ A.p ∧ A.m ≠ A.p ∧ A.m ≠ A.g := by
 obtain ⟨k,D,⟨es,c,h1,_⟩,h2⟩ := h.map
 obtain ⟨cur,h3,h4⟩ := h.sec.blk
 have hp : W.heap[A.p]? = _ := h.blkP
 have hq : W.heap[A.q]? = _ := h.blkQ
 refine ⟨fun e => ?_,fun e => ?_,fun e => ?_,fun e => ?_,fun e => ?_,fun e => ?_⟩
 ·rw [e,hq] at hp; cases hp
 ·rw [e,hq] at h3; cases h3
 ·rw [e,hq] at h1; cases h1
 ·rw [e,hp] at h3; cases h3
 ·rw [e,hp] at h1; cases h1
 ·rw [e,h3] at h1; cases h1
theorem PD.cells {W : World} {base : Nat} {A : PA} {s : PS} (h : PD W base A s) : W.cell? ⟨A.q, 0,none⟩ = some (.slice (some ⟨A.g, 0,none⟩) s.n s.n) ∧ W.cell? ⟨A.q, 1,none⟩ = some (.map (some A.m)) ∧ W.cell? ⟨A.q, 2,none⟩ = some (.int .i64 s.left) ∧ W.cell? ⟨A.q, 3,none⟩ = some (.bool s.broken) ∧ W.cell? ⟨A.q, 4,none⟩ = some (.int .i64 s.steps) :=
 ⟨h.blkQ.cell 0,h.blkQ.cell 1,h.blkQ.cell 2,h.blkQ.cell 3,h.blkQ.cell 4⟩
theorem Off.one (W : World) {B i : Nat} (u : Value) : Off (fun k => k = B) W (W.setCell ⟨B,i,none⟩ u) := (Off.refl _ W).setCell u (.inl rfl)
theorem PD.cell {W : World} {base : Nat} {A : PA} {s : PS} (h : PD W base A s) (i : Nat) (u : Value) {s' : PS} (hn : s'.n = s.n) (h1 : s'.now = s.now) (h2 : s'.old = s.old) (hc : (pdCells A s).setIfInBounds i u = pdCells A s') : PD (W.setCell ⟨A.q,i,none⟩ u) base A s' := by
 have hb := h.blkQ.set i u
 rw [hc] at hb
 obtain ⟨a1,a2,a3,a4,a5,a6⟩ := h.apart
 obtain ⟨k,D,m1,m2,m3⟩ := h.map
 have ho := Off.one (i := i) (B := A.q) W u
 refine ⟨h.le,h.blkP.off ho a1,hb, ?_,⟨k,D,map_off m1 ho a3,m2,by rw [h2,hn]; exact m3⟩,by rw [hn]; exact h.n1,by rw [hn]; exact h.n2⟩
 rw [hn,h1]; exact h.sec.off ho a2
theorem kl_inj {i j : Nat} (h : kl i = kl j) : i = j := by
 have h' : (Lit.int .i64 (i : Int)) = .int .i64 (j : Int) := h
 injection h' with _ h'
 omega
theorem nodup_lt : ∀ (n : Nat) (l : List Nat),l.Nodup → (∀ x ∈ l,x < n) → l.length ≤ n
 | 0, [],_,_ => Nat.le_refl _
 | 0,x :: _,_,h => absurd (h x List.mem_cons_self) (Nat.not_lt_zero _)
 | n + 1,l,hn,h => by
  by_cases hm : n ∈ l
  ·have h1 := nodup_lt n (l.erase n) (hn.erase n) (fun x hx => by
    have h2 := h x (List.mem_of_mem_erase hx)
    have h3 : x ≠ n := fun e => by subst e; exact hn.not_mem_erase hx
    omega)
   rw [List.length_erase_of_mem hm] at h1
   omega
  ·have := nodup_lt n l hn (fun x hx => by
    have h2 := h x hx
    have h3 : x ≠ n := fun e => by subst e; exact hm hx
    omega)
   omega
def litN : Lit → Nat
 | .int _ x => x.toNat
 | _ => 0
theorem map_tight {W : World} {m k : Nat} {D : DataW Unit} {old : Nat → Option ByteArray} {n : Nat} (hown : W.ownsMap Tryz.prog 3 secR m k D) (h : MapIs D old n) : W.ownsMap Tryz.prog 3 secR m n D := by
 obtain ⟨es',e',hpw,hkl⟩ := hown.entries (int_keyed Tryz.underlying3)
 obtain ⟨es,c,h1,h2,h3,h4⟩ := hown
 refine ⟨es,c,h1,h2, ?_,h4⟩
 have hlen := length_read (P := Tryz.prog) (k := 3) (R0 := secR) es
 rw [h4] at e'
 injection e' with e'
 have hes : es'.length ≤ n := by
  have hk : ∀ p ∈ es', ∃ i,i < n ∧ p.1 = kl i := fun p hp => by
   refine h.keys p.1 ?_
   rw [h4,e',has_eq,List.any_eq_true]
   obtain ⟨p1,p2⟩ := p
   refine ⟨(p1,p2),hp, ?_⟩
   have := hkl (p1,p2) hp
   cases p1 <;> simp_all [WideAt.IsKeyLit,Lit.sameKey]
  have hb := nodup_lt n (es'.map fun p => litN p.1) ?_ ?_
  ·simpa using hb
  ·refine List.pairwise_map.2 (List.Pairwise.imp_of_mem ?_ hpw)
   intro a b ha hb hab e
   obtain ⟨i,_,hi⟩ := hk a ha
   obtain ⟨j,_,hj⟩ := hk b hb
   rw [hi,hj] at hab e
   have hij : i = j := by simpa [litN] using e
   rw [hij] at hab
   simp at hab
  ·intro x hx
   obtain ⟨p,hp,rfl⟩ := List.mem_map.1 hx
   obtain ⟨i,hi,e⟩ := hk p hp
   rw [e]
   simpa [litN] using hi
 rw [← e'] at hes
 omega
end
end Go.Proofs.YtdgbgmffpcooeaaGreat
namespace Go.Proofs.YtdgbgmffpcooeaaGreat
open Go.RowKit Go.Lib
section
structure PK (V : Type) where
 t : Nat
 k : Nat
 enc : Key × V → List Value
 len : ∀ x,(enc x).length = k
 pos : 0 < k
def entC (e : Key × Box) : List Value := [.int .i64 e.1.1, .int .i64 e.1.2, .int .i64 (e.2.a : Int), .int .i64 (e.2.b : Int), .int .i64 (e.2.c : Int), .int .i64 (e.2.d : Int)]
def prC (e : Key × Nat) : List Value := [.int .i64 e.1.1, .int .i64 e.1.2, .int .i64 (e.2 : Int)]
def pkR : PK Box := ⟨156, 6,entC,fun _ => rfl,by decide⟩
def pkS : PK Nat := ⟨234, 3,prC,fun _ => rfl,by decide⟩
section
variable {V : Type} (K : PK V)
def flat (r : List (Key × V)) : List Value := r.flatMap K.enc
theorem flat_length : ∀ r : List (Key × V),(flat K r).length = r.length * K.k
 | [] => by simp [flat]
 | x :: r => by
  have := flat_length r
  simp only [flat] at this
  simp only [flat,List.flatMap_cons,List.length_append,K.len,this,List.length_cons,Nat.add_mul,Nat.one_mul]
  omega
theorem flat_append (a b : List (Key × V)) : flat K (a ++ b) = flat K a ++ flat K b := List.flatMap_append ..
theorem flat_take (r : List (Key × V)) (n : Nat) : flat K (r.take n) = (flat K r).take (n * K.k) := by
 by_cases h : n ≤ r.length
 ·have e : flat K r = flat K (r.take n) ++ flat K (r.drop n) := by rw [← flat_append,List.take_append_drop]
  rw [e,List.take_left']
  rw [flat_length,List.length_take,Nat.min_eq_left h]
 ·rw [List.take_of_length_le (by omega),List.take_of_length_le]
  rw [flat_length]
  exact Nat.mul_le_mul_right _ (by omega)
theorem flat_drop (r : List (Key × V)) (n : Nat) : flat K (r.drop n) = (flat K r).drop (n * K.k) := by
 by_cases h : n ≤ r.length
 ·have e : flat K r = flat K (r.take n) ++ flat K (r.drop n) := by rw [← flat_append,List.take_append_drop]
  rw [e,List.drop_left']
  rw [flat_length,List.length_take,Nat.min_eq_left h]
 ·rw [List.drop_of_length_le (by omega),List.drop_of_length_le]
  ·rfl
  ·rw [flat_length]; exact Nat.mul_le_mul_right _ (by omega)
theorem flat_get {r : List (Key × V)} {i : Nat} {x : Key × V} (h : r[i]? = some x) (j : Nat) (hj : j < K.k) : (flat K r)[i * K.k + j]? = (K.enc x)[j]? := by
 have hi := (List.getElem?_eq_some_iff.1 h).1
 have e : flat K (r.drop i) = K.enc x ++ flat K (r.drop (i + 1)) := by
  rw [List.drop_eq_getElem_cons hi,(List.getElem?_eq_some_iff.1 h).2]; rfl
 rw [← List.getElem?_drop, ← flat_drop,e,List.getElem?_append_left (by rw [K.len]; exact hj)]
def Row (W : World) (v : Value) (r : List (Key × V)) : Prop :=
 (r = [] ∧ v = .slice none 0 0) ∨ (∃ b o c cur,v = .slice (some ⟨b,o,none⟩) r.length c ∧ r.length ≤ c ∧ c ≤ maxLen ∧ W.heap[b]? = some (.cells cur K.t (0, 0)) ∧ (cur.toList.drop o).take (r.length * K.k) = flat K r)
def TagAt (W : World) (t b : Nat) : Prop := ∃ cs,W.heap[b]? = some (.cells cs t (0, 0))
theorem Row.off {F : Nat → Prop} {W W' : World} {v : Value} {r : List (Key × V)} (h : Row K W v r) (ho : Off F W W') (hF : ∀ b,F b → ¬ TagAt W K.t b) : Row K W' v r := by
 rcases h with h | ⟨b,o,c,cur,h1,h2,h3,h4,h5⟩
 ·exact .inl h
 ·exact .inr ⟨b,o,c,cur,h1,h2,h3,(ho.block b (Array.getElem?_eq_some_iff.1 h4).1 fun hf => hF b hf ⟨cur,h4⟩).trans h4,h5⟩
theorem Row.below {W W' : World} {v : Value} {r : List (Key × V)} (h : Row K W v r) (hb : Below W.heap.size W W') : Row K W' v r := h.off K (F := fun _ => False) (Off.of_below hb) (fun _ h => h.elim)
theorem Row.len {W : World} {v : Value} {r : List (Key × V)} (h : Row K W v r) : ∃ a c,v = .slice a r.length c ∧ (a = none → r.length = 0) ∧ r.length ≤ c := by
 rcases h with ⟨rfl,h⟩ | ⟨b,o,c,cur,h1,h2,h3,_⟩
 ·exact ⟨none, 0,h,fun _ => rfl,Nat.zero_le _⟩
 ·exact ⟨_,c,h1,fun h => (by cases h),h2⟩
theorem Row.form {W : World} {v : Value} {r : List (Key × V)} (h : Row K W v r) (hne : 0 < r.length) : ∃ b o c,v = .slice (some ⟨b,o,none⟩) r.length c ∧ r.length ≤ c ∧ c ≤ maxLen ∧ b < W.heap.size ∧ TagAt W K.t b ∧
  ∀ i x,r[i]? = some x → ∀ j u,(K.enc x)[j]? = some u → W.cell? ⟨b,o + i * K.k + j,none⟩ = some u := by
 rcases h with ⟨rfl,_⟩ | ⟨b,o,c,cur,h1,h2,h3,h4,h5⟩
 ·simp at hne
 ·refine ⟨b,o,c,h1,h2,h3,(Array.getElem?_eq_some_iff.1 h4).1,⟨cur,h4⟩,fun i x hx j u hu => ?_⟩
  have hj : j < K.k := by have := (List.getElem?_eq_some_iff.1 hu).1; rwa [K.len] at this
  have hi := (List.getElem?_eq_some_iff.1 hx).1
  have h6 := flat_get K hx j hj
  rw [hu, ← h5] at h6
  have hlt : i * K.k + j < r.length * K.k := by
   have := Nat.mul_le_mul_right K.k (show i + 1 ≤ r.length from hi)
   rw [Nat.add_mul,Nat.one_mul] at this; omega
  rw [List.getElem?_take_of_lt hlt,List.getElem?_drop, ← Nat.add_assoc] at h6
  simp only [World.cell?,h4]
  rw [← Array.getElem?_toList]; exact h6
theorem Row.of_own {W : World} {base : Nat} {v : Value} {r : List (Key × V)} (h : W.ownsRow base K.t K.k v r.length (flat K r)) : Row K W v r := by
 obtain ⟨_,⟨h1,h2⟩ | ⟨g,cap,cur,h1,_,h3,h4,h5,h6,h7⟩⟩ := h
 ·exact .inl ⟨List.eq_nil_of_length_eq_zero h2,h1⟩
 ·exact .inr ⟨g, 0,cap,cur,h1,h4,h5,h3,by simpa using h7⟩
theorem Row.nil (W : World) : Row K W (.slice none 0 0) [] := .inl ⟨rfl,rfl⟩
theorem Row.take {W : World} {b o c : Nat} {r : List (Key × V)} (h : Row K W (.slice (some ⟨b,o,none⟩) r.length c) r) {n : Nat} (hn : n ≤ r.length) : Row K W (.slice (some ⟨b,o,none⟩) n c) (r.take n) := by
 rcases h with ⟨_,h⟩ | ⟨b',o',c',cur,h1,h2,h3,h4,h5⟩
 ·cases h
 ·cases h1
  have hl : (r.take n).length = n := by rw [List.length_take]; omega
  refine .inr ⟨b,o,c,cur,by rw [hl],by omega,h3,h4, ?_⟩
  rw [hl,flat_take, ← h5,List.take_take,Nat.min_eq_left (Nat.mul_le_mul_right _ hn)]
theorem Row.drop {W : World} {b o c : Nat} {r : List (Key × V)} (h : Row K W (.slice (some ⟨b,o,none⟩) r.length c) r) {n : Nat} (hn : n ≤ r.length) : Row K W (.slice (some ⟨b,o + n * K.k,none⟩) (r.length - n) (c - n)) (r.drop n) := by
 rcases h with ⟨_,h⟩ | ⟨b',o',c',cur,h1,h2,h3,h4,h5⟩
 ·cases h
 ·cases h1
  have hl : (r.drop n).length = r.length - n := List.length_drop
  refine .inr ⟨b,o + n * K.k,c - n,cur,by rw [hl],by omega,by omega,h4, ?_⟩
  rw [hl,flat_drop, ← h5,List.drop_take,List.drop_drop,Nat.sub_mul]
end
abbrev RowR := Row pkR
abbrev RowS := Row pkS
end
end Go.Proofs.YtdgbgmffpcooeaaGreat
