/- Bits Walks1 W2 W3 -/
import Derived.WalkKit
import Derived.WalkSpells
import Derived.OpenShut
import Derived.Laws.BitsAllLaws
import Derived.Test.YtdgbgmffpcooeaaGreatU01
import Derived.Test.YtdgbgmffpcooeaaGreatProg
import Derived.WalkLawsBesides
import Derived.Deep.QuietTactic
import Derived.BigQuiet
namespace Go.Proofs.YtdgbgmffpcooeaaGreat
open Go.RowKit
section
theorem wrap_i64_nat (a : Nat) (h : a < 9223372036854775808) : IntKind.i64.wrap (a : Int) = a := by
 simp [IntKind.wrap,IntKind.bits,IntKind.signed]
 omega
theorem or_i64 (a b : Nat) (ha : a < 4611686018427387904) (hb : b < 4611686018427387904) : bits .or .i64 (a : Int) (b : Int) = ((a ||| b : Nat) : Int) := by
 have hx : a ||| b < 2 ^ 62 := Nat.or_lt_two_pow (by omega) (by omega)
 show IntKind.i64.wrap ((BitVec.ofInt 64 (a : Int) ||| BitVec.ofInt 64 (b : Int)).toNat : Int) = _
 rw [BitVec.toNat_or,ofInt_u64 a (by omega),ofInt_u64 b (by omega)]
 exact wrap_i64_nat _ (by omega)
theorem and1_i64 (a : Nat) (ha : a < 4611686018427387904) : bits .and .i64 (a : Int) 1 = ((a % 2 : Nat) : Int) := by
 show IntKind.i64.wrap ((BitVec.ofInt 64 (a : Int) &&& BitVec.ofInt 64 ((1 : Nat) : Int)).toNat : Int) = _
 rw [BitVec.toNat_and,ofInt_u64 a (by omega),ofInt_u64 1 (by omega),nat_mask1]
 exact wrap_i64_nat _ (by omega)
theorem wrap64_nat (a : Nat) (h : a < 9223372036854775808) : wrap64 (a : Int) = a := by unfold wrap64; omega
theorem div_cast (x q : Nat) : ((x : Int) / (q : Int)) = ((x / q : Nat) : Int) := by simp
theorem pow_cast (k : Nat) : ((2 : Int) ^ k) = ((2 ^ k : Nat) : Int) := by simp
theorem bit_of (x k j : Nat) (hx : x < 4611686018427387904) (hj : j < 62) : wrap64 (bits .and .i64 ((x : Int) / 2 ^ k) 1 * 2 ^ j) = ((x / 2 ^ k % 2 * 2 ^ j : Nat) : Int) := by
 have h1 : x / 2 ^ k ≤ x := Nat.div_le_self _ _
 have h2 : 2 ^ j ≤ 2 ^ 61 := Nat.pow_le_pow_right (by decide) (by omega)
 rw [pow_cast k,pow_cast j,div_cast,and1_i64 _ (by omega), ← Int.natCast_mul]
 refine wrap64_nat _ ?_
 have : x / 2 ^ k % 2 * 2 ^ j ≤ 1 * 2 ^ j := Nat.mul_le_mul_right _ (by omega)
 omega
theorem or_above (a b j : Nat) (ha : a < 2 ^ j) : a ||| b * 2 ^ j = a + b * 2 ^ j := by
 rw [Nat.or_comm,nat_join j (b * 2 ^ j) a (by simp) ha,Nat.add_comm]
theorem code_round (n x y k : Nat) (hk : k < 16) (hn : n = cod k x y) (hx : x < 65536) (hy : y < 65536) :
  bits .or .i64 (bits .or .i64 (n : Int) (wrap64 (bits .and .i64 ((x : Int) / 2 ^ k) 1 * 2 ^ (2 * k)))) (wrap64 (bits .and .i64 ((y : Int) / 2 ^ k) 1 * 2 ^ (2 * k + 1))) = ((cod (k + 1) x y : Nat) : Int) := by
 have hl := cod_lt k x y
 have e4 : 4 ^ k = 2 ^ (2 * k) := by rw [show 4 = 2 ^ 2 from rfl, ← Nat.pow_mul]
 have hp : 2 ^ (2 * k) ≤ 2 ^ 30 := Nat.pow_le_pow_right (by decide) (by omega)
 rw [bit_of x k _ (by omega) (by omega),bit_of y k _ (by omega) (by omega)]
 have ha : x / 2 ^ k % 2 < 2 := by omega
 have hb : y / 2 ^ k % 2 < 2 := by omega
 rw [cod_top, ← hn,e4]
 rw [← hn,e4] at hl
 generalize x / 2 ^ k % 2 = a at *
 generalize y / 2 ^ k % 2 = b at *
 have m1 : a * 2 ^ (2 * k) ≤ 1 * 2 ^ (2 * k) := Nat.mul_le_mul_right _ (by omega)
 have m2 : b * 2 ^ (2 * k + 1) ≤ 1 * 2 ^ (2 * k + 1) := Nat.mul_le_mul_right _ (by omega)
 have ps : 2 ^ (2 * k + 1) = 2 * 2 ^ (2 * k) := by rw [Nat.pow_succ,Nat.mul_comm]
 rw [or_i64 n _ (by omega) (by omega),or_above n a _ hl,or_i64 _ _ (by omega) (by omega),or_above _ b _ (by omega),ps]
theorem dex_round (n c k : Nat) (hk : k < 16) (hn : n = dex k c) (hc : c < 4294967296) :
  bits .or .i64 (n : Int) (wrap64 (bits .and .i64 ((c : Int) / 2 ^ (2 * k)) 1 * 2 ^ k)) = ((dex (k + 1) c : Nat) : Int) := by
 have hl := dex_lt k c
 have e4 : 4 ^ k = 2 ^ (2 * k) := by rw [show 4 = 2 ^ 2 from rfl, ← Nat.pow_mul]
 have hp : 2 ^ k ≤ 2 ^ 15 := Nat.pow_le_pow_right (by decide) (by omega)
 rw [bit_of c _ _ (by omega) (by omega),dex_top, ← hn,e4]
 rw [← hn] at hl
 have ha : c / 2 ^ (2 * k) % 2 < 2 := by omega
 generalize c / 2 ^ (2 * k) % 2 = a at *
 have m1 : a * 2 ^ k ≤ 1 * 2 ^ k := Nat.mul_le_mul_right _ (by omega)
 rw [or_i64 n _ (by omega) (by omega),or_above n a _ hl]
theorem dey_round (n c k : Nat) (hk : k < 16) (hn : n = dey k c) (hc : c < 4294967296) :
  bits .or .i64 (n : Int) (wrap64 (bits .and .i64 ((c : Int) / 2 ^ (2 * k + 1)) 1 * 2 ^ k)) = ((dey (k + 1) c : Nat) : Int) := by
 have hl := dey_lt k c
 have e4 : 4 ^ k * 2 = 2 ^ (2 * k + 1) := by rw [Nat.pow_succ,show 4 = 2 ^ 2 from rfl, ← Nat.pow_mul]
 have hp : 2 ^ k ≤ 2 ^ 15 := Nat.pow_le_pow_right (by decide) (by omega)
 rw [bit_of c _ _ (by omega) (by omega),dey_top, ← hn,e4]
 rw [← hn] at hl
 have ha : c / 2 ^ (2 * k + 1) % 2 < 2 := by omega
 generalize c / 2 ^ (2 * k + 1) % 2 = a at *
 have m1 : a * 2 ^ k ≤ 1 * 2 ^ k := Nat.mul_le_mul_right _ (by omega)
 rw [or_i64 n _ (by omega) (by omega),or_above n a _ hl]
theorem pick_neg (c : Int) (n : Nat) (hn : 0 < n) (h : (Lit.int .i64 c).wf = true) (hc : c < 0) : ∃ r : Nat,r < n ∧ (wrap64 (-wrap64 (c + 1))).tmod (n : Int) = r := by
 have hb := bounds_i64 h
 have e1 : wrap64 (c + 1) = c + 1 := by unfold wrap64; omega
 have e2 : wrap64 (-(c + 1)) = -(c + 1) := by unfold wrap64; omega
 rw [e1,e2,Int.tmod_eq_emod_of_nonneg (by omega)]
 have g0 := Int.emod_nonneg (-(c + 1)) (show (n : Int) ≠ 0 by omega)
 have g1 := Int.emod_lt_of_pos (-(c + 1)) (show (0 : Int) < n by omega)
 exact ⟨(-(c + 1) % (n : Int)).toNat,by omega,by omega⟩
theorem pick_pos (c : Int) (n : Nat) (hn : 0 < n) : ∃ r : Nat,r < n ∧ c % (n : Int) = r := by
 have g0 := Int.emod_nonneg c (show (n : Int) ≠ 0 by omega)
 have g1 := Int.emod_lt_of_pos c (show (0 : Int) < n by omega)
 exact ⟨(c % (n : Int)).toNat,by omega,by omega⟩
end
section
abbrev N64 (n : Nat) : Value := .int .i64 (n : Int)
theorem ret_int {k : IntKind} {a b : Int} (h : a = b) : Ending.returned (.int k a) = .returned (.int k b) := by rw [h]
theorem ret_bool {a b : Bool} (h : a = b) : Ending.returned (.bool a) = .returned (.bool b) := by rw [h]
theorem ret_int2 {k l : IntKind} {a b c d : Int} (h : a = b) (g : c = d) : Ending.returned (.tuple #[.int k a, .int l c]) = .returned (.tuple #[.int k b, .int l d]) := by rw [h,g]
set_option maxHeartbeats 400000 in
theorem pick_any (c : Int) (n : Nat) (w : World) (hn : 0 < n) (h : (Lit.int .i64 c).wf = true) :
  Calls Tryz.prog 24 #[.int .i64 c, .int .i64 n] w fun e w' => (∃ r : Nat,r < n ∧ e = .returned (.int .i64 r)) ∧ w' = w := by
 have hn' : (0 : Int) < n := by omega
 by_cases hc : c < 0
 ·obtain ⟨r,hr,e⟩ := pick_neg c n hn h hc
  have H : Hid ((wrap64 (-wrap64 (c + 1))).tmod (n : Int) = r) := e
  clear e
  go_enter Tryz.func24,Tryz.ntmps24
  go_wp2
  go_ret
  exact ⟨⟨r,hr,ret_int H.out⟩,rfl⟩
 ·obtain ⟨r,hr,e⟩ := pick_pos c n hn
  have H : Hid (c % (n : Int) = r) := e
  clear e
  go_enter Tryz.func24,Tryz.ntmps24
  go_wp2
  go_ret
  exact ⟨⟨r,hr,ret_int H.out⟩,rfl⟩
def onB (x y : Int) : Bool := decide (0 ≤ x ∧ x < 65536 ∧ 0 ≤ y ∧ y < 65536)
set_option maxHeartbeats 400000 in
theorem ongrid_any (x y : Int) (w : World) :
  Calls Tryz.prog 79 #[.int .i64 x, .int .i64 y] w fun e w' => e = .returned (.bool (onB x y)) ∧ w' = w := by
 go_enter Tryz.func79,Tryz.ntmps79
 go_wp2
 all_goals
  go_ret
  refine ⟨ret_bool ?_,rfl⟩
  unfold onB
  first | (rw [decide_eq_decide]; omega) | (symm; rw [decide_eq_false_iff_not]; omega)
set_option maxHeartbeats 400000 in
theorem code_any (x y : Nat) (w : World) (hx : x < 65536) (hy : y < 65536) :
  Calls Tryz.prog 139 #[.int .i64 x, .int .i64 y] w fun e w' => e = .returned (.int .i64 (code x y)) ∧ w' = w := by
 go_enter Tryz.func139,Tryz.ntmps139
 go_wp2
 go_loop [5, 7] (fun c i => ∃ k : Nat,k ≤ 16 ∧ i = .int .i64 k ∧ ∃ n : Nat,Hid (n = cod k x y) ∧ c = .int .i64 n) (fun _ i => 16 - (intOf i).toNat)
 case atStart => exact ⟨0,by omega,rfl, 0,rfl,rfl⟩
 case round =>
  obtain ⟨k,hk,rfl,n,hn,rfl⟩ := hrel
  by_cases hlt : k < 16
  ·go_wp2
   refine ⟨⟨k + 1,by omega,by go_num,_,rfl,by rw [code_round n x y k hlt hn.out hx hy]⟩, ?_⟩
   simp [intOf]; omega
  ·obtain rfl : k = 16 := by omega
   go_wp2
   go_ret
   exact ⟨ret_int (by rw [hn.out,code]),rfl⟩
set_option maxHeartbeats 400000 in
theorem point_any (c : Nat) (w : World) (hc : c < 4294967296) :
  Calls Tryz.prog 124 #[.int .i64 c] w fun e w' => e = .returned (.tuple #[.int .i64 (dex 16 c), .int .i64 (dey 16 c)]) ∧ w' = w := by
 go_enter Tryz.func124,Tryz.ntmps124
 go_wp2
 go_loop [4, 5, 7] (fun x y i => ∃ k : Nat,k ≤ 16 ∧ i = .int .i64 k ∧ (∃ n : Nat,Hid (n = dex k c) ∧ x = .int .i64 n) ∧ (∃ n : Nat,Hid (n = dey k c) ∧ y = .int .i64 n)) (fun _ _ i => 16 - (intOf i).toNat)
 case atStart => exact ⟨0,by omega,rfl,⟨0,rfl,rfl⟩,⟨0,rfl,rfl⟩⟩
 case round =>
  obtain ⟨k,hk,rfl,⟨n,hn,rfl⟩,⟨m,hm,rfl⟩⟩ := hrel
  by_cases hlt : k < 16
  ·go_wp2
   refine ⟨⟨k + 1,by omega,by go_num,⟨_,rfl,by rw [dex_round n c k hlt hn.out hc]⟩,⟨_,rfl,by rw [dey_round m c k hlt hm.out hc]⟩⟩, ?_⟩
   simp [intOf]; omega
  ·obtain rfl : k = 16 := by omega
   go_wp2
   go_ret2
   exact ⟨ret_int2 (by rw [hn.out]) (by rw [hm.out]),rfl⟩
end
section
def rightB (a b c d : Int) : Bool := decide (0 ≤ a ∧ a ≤ c ∧ c < 65536 ∧ 0 ≤ b ∧ b ≤ d ∧ d < 65536)
theorem rightB_of (a b c d : Int) : (onB a b && onB c d && decide (a ≤ c) && decide (b ≤ d)) = rightB a b c d := by
 unfold onB rightB
 rw [Bool.eq_iff_iff]
 simp
 omega
abbrev R64 (a b c d : Int) : Value := .agg #[.int .i64 a, .int .i64 b, .int .i64 c, .int .i64 d]
set_option maxHeartbeats 400000 in
theorem right_any (a b c d : Int) (w : World) :
  Calls Tryz.prog 59 #[.agg #[.int .i64 a, .int .i64 b, .int .i64 c, .int .i64 d]] w fun e w' => e = .returned (.bool (rightB a b c d)) ∧ Below w.heap.size w w' := by
 have hr := rightB_of a b c d
 have H : Hid ((onB a b && onB c d && decide (a ≤ c) && decide (b ≤ d)) = rightB a b c d) := hr
 clear hr
 cases h1 : onB a b <;> cases h2 : onB c d <;> by_cases h3 : a ≤ c <;> by_cases h4 : b ≤ d
 all_goals
  go_enter Tryz.func59,Tryz.ntmps59
  go_wp2_with (go_at_call 79; refine (ongrid_any _ _ _).mono ?_; rintro e w' ⟨rfl,rfl⟩)
  go_ret
  refine ⟨ret_bool ?_,(Below.refl _ _).alloc (Nat.le_refl _) _⟩
  rw [← H.out]
  simp [h1,h2,h3,h4]
set_option maxHeartbeats 400000 in
theorem last_of (k : Nat) (hk : k ≤ 16) : wrap64 (wrap64 (2 ^ k) - 1) = ((2 ^ k - 1 : Nat) : Int) := by
 have h2 : 2 ^ k ≤ 2 ^ 16 := Nat.pow_le_pow_right (by decide) (by omega)
 have h0 := Nat.two_pow_pos k
 rw [pow_cast,wrap64_nat _ (by omega)]
 unfold wrap64; omega
set_option maxHeartbeats 400000 in
theorem square_any (p k : Nat) (w : World) (hk : k ≤ 16) (hp : (p + 1) * 4 ^ k ≤ 4294967296) (c : Nat) (hc : c = p * 4 ^ k) :
  Calls Tryz.prog 91 #[.agg #[.int .i64 c, .int .i64 k]] w fun e w' => e = .returned (.agg #[.int .i64 (sqr p k).a, .int .i64 (sqr p k).b, .int .i64 (sqr p k).c, .int .i64 (sqr p k).d]) ∧ Below w.heap.size w w' := by
 have hc' : c < 4294967296 := by
  have q := Nat.pow_pos (n := k) (show 0 < 4 by decide)
  rw [Nat.add_mul] at hp; omega
 clear hp
 have HC : Hid (c = p * 4 ^ k) := hc
 clear hc
 go_enter Tryz.func91,Tryz.ntmps91
 go_wp2_with (go_at_call 124; refine (point_any _ _ hc').mono ?_; rintro e w' ⟨rfl,rfl⟩)
 have hs := sqr_lt p k hk
 simp only [sqr, ← HC.out] at hs
 have e1 : wrap64 (↑(dex 16 c) + wrap64 (wrap64 (2 ^ k) - 1)) = ((sqr p k).c : Int) := by
  rw [last_of k hk]; simp only [sqr, ← HC.out]; unfold wrap64; omega
 have e2 : wrap64 (↑(dey 16 c) + wrap64 (wrap64 (2 ^ k) - 1)) = ((sqr p k).d : Int) := by
  rw [last_of k hk]; simp only [sqr, ← HC.out]; unfold wrap64; omega
 have e3 : dex 16 c = (sqr p k).a := by simp only [sqr, ← HC.out]
 have e4 : dey 16 c = (sqr p k).b := by simp only [sqr, ← HC.out]
 rw [e1,e2,e3,e4]
 exact bodyPost_ret (v := .agg #[.int .i64 (sqr p k).a, .int .i64 (sqr p k).b, .int .i64 (sqr p k).c, .int .i64 (sqr p k).d]) (by simp [results,Tryz.results91,go_sem]) rfl ⟨rfl,((Below.refl _ _).alloc (Nat.le_refl _) _).alloc (by simp) _⟩
end
section
theorem bcell {W w1 : World} (hb : Below W.heap.size W w1) : (∀ b o,b < W.heap.size → w1.cell? ⟨b,o,none⟩ = W.cell? ⟨b,o,none⟩) ∧ (∀ b o,b < W.heap.size → w1.frozen? ⟨b,o,none⟩ = W.frozen? ⟨b,o,none⟩) :=
 ⟨fun b o h => hb.cell (p := ⟨b,o,none⟩) h,fun b o h => hb.frozen (p := ⟨b,o,none⟩) h⟩
set_option maxHeartbeats 400000 in
theorem common_yes (a1 b1 c1 d1 a2 b2 c2 d2 m1 m2 m3 m4 : Int) (w : World) (hm1 : (if a1 < a2 then a2 else a1) = m1) (hm2 : (if b1 < b2 then b2 else b1) = m2) (hm3 : (if c2 < c1 then c2 else c1) = m3) (hm4 : (if d2 < d1 then d2 else d1) = m4) (hR : rightB m1 m2 m3 m4 = true) :
  Calls Tryz.prog 123 #[.agg #[.int .i64 a1, .int .i64 b1, .int .i64 c1, .int .i64 d1], .agg #[.int .i64 a2, .int .i64 b2, .int .i64 c2, .int .i64 d2]] w fun e w' =>
   e = .returned (.tuple #[.agg #[.int .i64 m1, .int .i64 m2, .int .i64 m3, .int .i64 m4], .bool true]) ∧ Below w.heap.size w w' := by
 go_enter Tryz.func123,Tryz.ntmps123
 go_wp2_with fail
 clear hm1 hm2 hm3 hm4
 refine (right_any _ _ _ _ _).mono ?_
 rintro e w1 ⟨rfl,hb⟩
 obtain ⟨hc,hf⟩ := bcell hb
 have hz : w.heap.size + 1 + 1 + 1 < w1.heap.size := by have := hb.size; simp at this; omega
 have h0 : Below w.heap.size w w1 := (((((Below.refl _ _).alloc (Nat.le_refl _) _).alloc (by simp) _).alloc (by simp; omega) _).alloc (by simp; omega) _).trans (hb.mono (by simp; omega))
 go_wp2
 exact bodyPost_ret (v := .tuple #[.agg #[.int .i64 m1, .int .i64 m2, .int .i64 m3, .int .i64 m4], .bool true]) (by simp [results,Tryz.results123,go_sem,hc]) rfl
  ⟨rfl,(((h0.setCell (p := ⟨w.heap.size + 1 + 1, 0,none⟩) (by simp; omega) _).setCell (p := ⟨w.heap.size + 1 + 1, 1,none⟩) (by simp; omega) _).setCell (p := ⟨w.heap.size + 1 + 1, 2,none⟩) (by simp; omega) _).setCell (p := ⟨w.heap.size + 1 + 1, 3,none⟩) (by simp; omega) _⟩
set_option maxHeartbeats 400000 in
theorem common_no (a1 b1 c1 d1 a2 b2 c2 d2 m1 m2 m3 m4 : Int) (w : World) (hm1 : (if a1 < a2 then a2 else a1) = m1) (hm2 : (if b1 < b2 then b2 else b1) = m2) (hm3 : (if c2 < c1 then c2 else c1) = m3) (hm4 : (if d2 < d1 then d2 else d1) = m4) (hR : rightB m1 m2 m3 m4 = false) :
  Calls Tryz.prog 123 #[.agg #[.int .i64 a1, .int .i64 b1, .int .i64 c1, .int .i64 d1], .agg #[.int .i64 a2, .int .i64 b2, .int .i64 c2, .int .i64 d2]] w fun e w' =>
   e = .returned (.tuple #[.agg #[.int .i64 0, .int .i64 0, .int .i64 0, .int .i64 0], .bool false]) ∧ Below w.heap.size w w' := by
 go_enter Tryz.func123,Tryz.ntmps123
 go_wp2_with fail
 clear hm1 hm2 hm3 hm4
 refine (right_any _ _ _ _ _).mono ?_
 rintro e w1 ⟨rfl,hb⟩
 obtain ⟨hc,hf⟩ := bcell hb
 have hz : w.heap.size + 1 + 1 + 1 < w1.heap.size := by have := hb.size; simp at this; omega
 have h0 : Below w.heap.size w w1 := (((((Below.refl _ _).alloc (Nat.le_refl _) _).alloc (by simp) _).alloc (by simp; omega) _).alloc (by simp; omega) _).trans (hb.mono (by simp; omega))
 go_wp2
 exact bodyPost_ret (v := .tuple #[.agg #[.int .i64 0, .int .i64 0, .int .i64 0, .int .i64 0], .bool false]) (by simp [results,Tryz.results123,go_sem,hc]) rfl
  ⟨rfl,(((h0.setCell (p := ⟨w.heap.size + 1 + 1, 0,none⟩) (by simp; omega) _).setCell (p := ⟨w.heap.size + 1 + 1, 1,none⟩) (by simp; omega) _).setCell (p := ⟨w.heap.size + 1 + 1, 2,none⟩) (by simp; omega) _).setCell (p := ⟨w.heap.size + 1 + 1, 3,none⟩) (by simp; omega) _⟩
theorem rightB_box {r : Box} (h : r.ok) : rightB r.a r.b r.c r.d = true := by
 obtain ⟨h1,h2,h3,h4⟩ := h
 unfold rightB; rw [decide_eq_true_iff]; omega
theorem rightB_box_not {r : Box} (h : ¬ r.ok) : rightB r.a r.b r.c r.d = false := by
 unfold rightB; rw [decide_eq_false_iff_not]; intro g; exact h ⟨by omega,by omega,by omega,by omega⟩
theorem both_max (x y : Nat) : (if (x : Int) < y then (y : Int) else x) = ((max x y : Nat) : Int) := by split <;> omega
theorem both_min (x y : Nat) : (if (y : Int) < x then (y : Int) else x) = ((min x y : Nat) : Int) := by split <;> omega
theorem common_box_yes (s r : Box) (w : World) (h : (both s r).ok) :
  Calls Tryz.prog 123 #[.agg #[.int .i64 s.a, .int .i64 s.b, .int .i64 s.c, .int .i64 s.d], .agg #[.int .i64 r.a, .int .i64 r.b, .int .i64 r.c, .int .i64 r.d]] w fun e w' =>
   e = .returned (.tuple #[.agg #[.int .i64 (both s r).a, .int .i64 (both s r).b, .int .i64 (both s r).c, .int .i64 (both s r).d], .bool true]) ∧ Below w.heap.size w w' :=
 common_yes _ _ _ _ _ _ _ _ _ _ _ _ w (both_max _ _) (both_max _ _) (both_min _ _) (both_min _ _) (rightB_box h)
theorem common_box_no (s r : Box) (w : World) (h : ¬ (both s r).ok) :
  Calls Tryz.prog 123 #[.agg #[.int .i64 s.a, .int .i64 s.b, .int .i64 s.c, .int .i64 s.d], .agg #[.int .i64 r.a, .int .i64 r.b, .int .i64 r.c, .int .i64 r.d]] w fun e w' =>
   e = .returned (.tuple #[.agg #[.int .i64 0, .int .i64 0, .int .i64 0, .int .i64 0], .bool false]) ∧ Below w.heap.size w w' :=
 common_no _ _ _ _ _ _ _ _ _ _ _ _ w (both_max _ _) (both_max _ _) (both_min _ _) (both_min _ _) (rightB_box_not h)
end
end Go.Proofs.YtdgbgmffpcooeaaGreat
