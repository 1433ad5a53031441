/- Size Iter -/
import Derived.Test.YtdgbgmffpcooeaaGreatU02
import Derived.RangeFuncNested
import Derived.RangeFuncBound
import Derived.RangeFuncCalls
import Derived.RangeFuncLeaves
import Derived.Shelf.Abstract
import Derived.Shelf.RegionOpen
import Derived.OwnWalkIn
import Derived.TacticsInMore
import Derived.LoopNIn
import Derived.LoopIn
namespace Go.Proofs.YtdgbgmffpcooeaaGreat
open Go.RowKit
section
def Fits (r : Box) (k : Nat) : Prop := r.c / 2 ^ k ≤ r.a / 2 ^ k + 1 ∧ r.d / 2 ^ k ≤ r.b / 2 ^ k + 1
def IsSize (r : Box) (k : Nat) : Prop := Fits r k ∧ ∀ j,j < k → ¬ Fits r j
theorem fits15 {r : Box} (h : r.ok) : Fits r 15 := by
 obtain ⟨h1,h2,h3,h4⟩ := h
 unfold Fits; omega
theorem size_le {r : Box} {k : Nat} (h : r.ok) (hk : IsSize r k) : k ≤ 15 := by
 refine Nat.le_of_not_lt fun g => hk.2 15 g (fits15 h)
theorem size_unique {r : Box} {k l : Nat} (hk : IsSize r k) (hl : IsSize r l) : k = l := by
 rcases Nat.lt_trichotomy k l with g | g | g
 ·exact absurd hk.1 (hl.2 k g)
 ·exact g
 ·exact absurd hl.1 (hk.2 l g)
theorem shr_nat (x k : Nat) : ((x : Int) / 2 ^ k) = ((x / 2 ^ k : Nat) : Int) := by rw [pow_cast,div_cast]
set_option maxHeartbeats 1000000 in
theorem size_any (r : Box) (hr : r.ok) (w : World) :
  Calls Tryz.prog 138 #[.agg #[.int .i64 (r.a : Int), .int .i64 (r.b : Int), .int .i64 (r.c : Int), .int .i64 (r.d : Int)]] w fun e w' => (∃ k : Nat,e = .returned (.int .i64 (k : Int)) ∧ IsSize r k) ∧ Below w.heap.size w w' := by
 go_enter Tryz.func138,Tryz.ntmps138
 go_wp2
 go_loopw [3] (fun i wr => ∃ k : Nat,i = .int .i64 (k : Int) ∧ k ≤ 15 ∧ (∀ j,j < k → ¬ Fits r j) ∧ Below (w.heap.size + 1) (w.alloc (.cells #[.int .i64 (r.a : Int), .int .i64 (r.b : Int), .int .i64 (r.c : Int), .int .i64 (r.d : Int)] 34)) wr) (fun i _ => 16 - (intOf i).toNat)
 case atStart => exact ⟨0,rfl,by omega,fun j h => by omega,Below.refl _ _⟩
 case round =>
  obtain ⟨k,rfl,hk,hno,hB⟩ := hrel
  have c0 : wr.cell? ⟨w.heap.size, 0,none⟩ = some (.int .i64 (r.a : Int)) := (hB.cell (p := ⟨w.heap.size, 0,none⟩) (by simp)).trans (by simp)
  have c1 : wr.cell? ⟨w.heap.size, 1,none⟩ = some (.int .i64 (r.b : Int)) := (hB.cell (p := ⟨w.heap.size, 1,none⟩) (by simp)).trans (by simp)
  have c2 : wr.cell? ⟨w.heap.size, 2,none⟩ = some (.int .i64 (r.c : Int)) := (hB.cell (p := ⟨w.heap.size, 2,none⟩) (by simp)).trans (by simp)
  have c3 : wr.cell? ⟨w.heap.size, 3,none⟩ = some (.int .i64 (r.d : Int)) := (hB.cell (p := ⟨w.heap.size, 3,none⟩) (by simp)).trans (by simp)
  have hB' : Below w.heap.size w wr := ((Below.refl _ w).alloc (Nat.le_refl _) _).trans (hB.mono (by omega))
  obtain ⟨A,hA⟩ : ∃ A,r.a / 2 ^ k = A := ⟨_,rfl⟩
  obtain ⟨C,hC⟩ : ∃ A,r.c / 2 ^ k = A := ⟨_,rfl⟩
  obtain ⟨B,hBb⟩ : ∃ A,r.b / 2 ^ k = A := ⟨_,rfl⟩
  obtain ⟨D,hD⟩ : ∃ A,r.d / 2 ^ k = A := ⟨_,rfl⟩
  have sA := shr_nat r.a k
  have sB := shr_nat r.b k
  have sC := shr_nat r.c k
  have sD := shr_nat r.d k
  rw [hA] at sA; rw [hBb] at sB; rw [hC] at sC; rw [hD] at sD
  have HF : Hid (Fits r k ↔ (C ≤ A + 1 ∧ D ≤ B + 1)) := by show Fits r k ↔ _; unfold Fits; rw [hA,hC,hBb,hD]
  have lA : A ≤ r.a := by rw [← hA]; exact Nat.div_le_self _ _
  have lB : B ≤ r.b := by rw [← hBb]; exact Nat.div_le_self _ _
  have lC : C ≤ r.c := by rw [← hC]; exact Nat.div_le_self _ _
  have lD : D ≤ r.d := by rw [← hD]; exact Nat.div_le_self _ _
  have hr2 := hr.2.1
  have hr4 := hr.2.2.2
  have hr1 := hr.1
  have hr3 := hr.2.2.1
  clear hA hC hBb hD
  have hgo : ¬ Fits r k → k + 1 ≤ 15 ∧ ∀ j,j < k + 1 → ¬ Fits r j := fun hn => by
   refine ⟨?_,fun j hj => ?_⟩
   ·refine Nat.lt_of_le_of_ne hk fun e => hn ?_
    rw [e]; exact fits15 hr
   ·rcases Nat.lt_or_ge j k with g | g
    ·exact hno j g
    ·rw [show j = k by omega]; exact hn
  have HG : Hid (¬ Fits r k → k + 1 ≤ 15 ∧ ∀ j,j < k + 1 → ¬ Fits r j) := hgo
  clear hgo
  by_cases h1 : A + 1 < C
  ·have t1 : (1 : Int) < (C : Int) - (A : Int) := by omega
   obtain ⟨g1,g2⟩ := HG.out (fun h => by have := HF.out.1 h; omega)
   clear hno
   go_wp2
   go_quiet (fail)
   go_wp2
   go_roundw
   case rel => exact ⟨k + 1,by go_num,g1,g2,below_drewN hB _⟩
   case measure => simp [intOf]; omega
  ·have t1 : decide ((1 : Int) < (C : Int) - (A : Int)) = false := by simp; omega
   by_cases h2 : B + 1 < D
   ·have t2 : (1 : Int) < (D : Int) - (B : Int) := by omega
    obtain ⟨g1,g2⟩ := HG.out (fun h => by have := HF.out.1 h; omega)
    clear hno
    go_wp2
    go_quiet (fail)
    go_wp2
    go_roundw
    case rel => exact ⟨k + 1,by go_num,g1,g2,below_drewN hB _⟩
    case measure => simp [intOf]; omega
   ·have t2 : decide ((1 : Int) < (D : Int) - (B : Int)) = false := by simp; omega
    have hfit : Hid (IsSize r k) := ⟨HF.out.2 ⟨by omega,by omega⟩,hno⟩
    clear hno
    go_wp2
    go_quiet (fail)
    go_wp2
    go_ret
    exact ⟨⟨k,rfl,hfit.out⟩,below_drewN hB' _⟩
end
end Go.Proofs.YtdgbgmffpcooeaaGreat
namespace Go.Proofs.YtdgbgmffpcooeaaGreat
open Go.RowKit Go.Shelf
section
attribute [local go_sem] Oper.semAt_some
structure Cel where
 p : Nat
 k : Nat
 c : Nat
 hc : c = p * 4 ^ k
 hk : k ≤ 15
 hp : (p + 1) * 4 ^ k ≤ 4294967296
def Cel.pk (q : Cel) : Nat × Nat := (q.p,q.k)
def pks (l : List Cel) : List (Nat × Nat) := l.map Cel.pk
theorem pks_snoc (l : List Cel) (q : Cel) : pks (l ++ [q]) = pks l ++ [(q.p,q.k)] := by simp [pks,Cel.pk]
def celE (q : Cel) : Array Value := #[.agg #[.int .i64 (q.c : Int), .int .i64 (q.k : Int)]]
theorem shl_of (p k c : Nat) (hc : c = p * 4 ^ k) (hlt : c < 4294967296) : wrap64 ((p : Int) * 2 ^ (2 * k)) = (c : Int) := by
 have e4 : 4 ^ k = 2 ^ (2 * k) := by rw [show 4 = 2 ^ 2 from rfl, ← Nat.pow_mul]
 rw [pow_cast, ← Int.natCast_mul, ← e4, ← hc]
 exact wrap64_nat _ (by omega)
theorem shr_of (c k : Nat) : ((c : Int) / 2 ^ (2 * k)) = ((c / 4 ^ k : Nat) : Int) := by
 have e4 : 4 ^ k = 2 ^ (2 * k) := by rw [show 4 = 2 ^ 2 from rfl, ← Nat.pow_mul]
 rw [pow_cast,div_cast,e4]
theorem next_size (c k : Nat) : (4 * (c / 4 ^ k / 4 + 1)) * 4 ^ k = (c / 4 ^ (k + 1) + 1) * 4 ^ (k + 1) := by
 rw [Nat.div_div_eq_div_mul,Nat.pow_succ]
 rw [Nat.mul_comm (4 ^ k) 4, ← Nat.mul_assoc,Nat.mul_comm 4 (_ + 1)]
theorem place_fits (c k p : Nat) (hc : c < 4294967296) (hk : k < 16) (h : p < 4 * (c / 4 ^ k / 4 + 1)) : (p + 1) * 4 ^ k ≤ 4294967296 := by
 have h1 : (p + 1) * 4 ^ k ≤ (4 * (c / 4 ^ k / 4 + 1)) * 4 ^ k := Nat.mul_le_mul_right _ (by omega)
 rw [next_size] at h1
 have e : 4 ^ (15 - k) * 4 ^ (k + 1) = 4294967296 := by rw [← Nat.pow_add,show 15 - k + (k + 1) = 16 by omega]
 have h2 : c / 4 ^ (k + 1) < 4 ^ (15 - k) := Nat.div_lt_of_lt_mul (by rw [Nat.mul_comm,e]; exact hc)
 have h3 : (c / 4 ^ (k + 1) + 1) * 4 ^ (k + 1) ≤ 4 ^ (15 - k) * 4 ^ (k + 1) := Nat.mul_le_mul_right _ h2
 omega
theorem cel_mk (c k p q : Nat) (hc : c < 4294967296) (hk : k < 16) (hq : c / 4 ^ k = q) (h : p < 4 * (q / 4 + 1)) :
  ∃ x : Cel,celE x = #[.agg #[.int .i64 (wrap64 ((p : Int) * 2 ^ (2 * k))), .int .i64 (k : Int)]] ∧ x.p = p ∧ x.k = k ∧ p < 17179869184 := by
 rw [← hq] at h
 have hpf := place_fits c k p hc hk h
 have hpos := Nat.pow_pos (n := k) (show 0 < 4 by decide)
 have hpl : p * 4 ^ k < 4294967296 := by rw [Nat.add_mul] at hpf; omega
 have hle : c / 4 ^ k ≤ c := Nat.div_le_self _ _
 refine ⟨⟨p,k,p * 4 ^ k,rfl,by omega,hpf⟩, ?_,rfl,rfl,by omega⟩
 rw [shl_of p k _ rfl hpl]
 rfl
theorem chain_room {c k p q : Nat} {pre : List Cel} (h : chain c (pks pre) (p * 4 ^ k)) (hp : p < 4 * (q / 4 + 1)) (hk : k < 16) (hq : c / 4 ^ k = q) (hc : c < 4294967296) : pre.length ≤ 4294967296 := by
 have h1 := chain_length h
 rw [← hq] at hp
 have hpf := place_fits c k p hc hk hp
 have hpos := Nat.pow_pos (n := k) (show 0 < 4 by decide)
 have h2 : (pks pre).length = pre.length := by simp [pks]
 rw [Nat.add_mul] at hpf; omega
set_option maxRecDepth 100000 in
set_option maxHeartbeats 1000000 in
theorem cells1_in (F : Fence) (n : Nat) (h40 : F.fn 188) (hro : F.round = none) (hn : 1 ≤ n) (l Bn n₀ : Nat) (hBn : Bn < n₀) (c : Nat) (hc : c < 4294967296) (N : Nat) (hN : 4294967296 < N) (J Jx : List Cel → World → Prop)
  (hY : ∀ pre x W,J pre W → pre.length < N → YieldAt F (n - 1) Tryz.prog l (celE x) W fun e W' =>
   (e = .returned (.bool true) ∧ J (pre ++ [x]) W' ∧ Below n₀ W W') ∨ (e = .returned (.bool false) ∧ Jx (pre ++ [x]) W'))
  (W : World) (hcell : W.cell? ⟨Bn, 0,none⟩ = some (.int .i64 (c : Int))) (h0 : J [] W) :
  CallsIn F n Tryz.prog 188 #[.func (.yield l) #[] #[], .pointer (some ⟨Bn, 0,none⟩)] W fun e W' => (∃ v,e = .returned v) ∧
   ((∃ xs,chain c (pks xs) 4294967296 ∧ J xs W') ∨ (∃ pre,(∃ b,chain c (pks pre) b) ∧ Jx pre W')) := by
 refine callsIn_of_wp Tryz.func188 rfl h40 ?_ hro
 simp only [Tryz.ntmps188,List.size_toArray,List.length_cons,List.length_nil,Nat.reduceAdd,Nat.reduceSub,Array.replicate_succ,Array.replicate_zero,List.push_toArray,List.append_toArray,List.nil_append,List.cons_append]
 obtain ⟨f1,t1,a1,b1,hy1,hR1⟩ := hY [] ⟨c, 0,c,by simp,by omega,by simp; omega⟩ W h0 (by simp; omega)
 simp only [celE,Int.natCast_zero] at hy1
 gi_wp2
 refine hR1.mono ?_
 rintro e W1 (⟨rfl,hJ1,hk1⟩ | ⟨rfl,hx1⟩)
 ·have hcell1 : W1.cell? ⟨Bn, 0,none⟩ = some (.int .i64 (c : Int)) := (hk1.cell (p := ⟨Bn, 0,none⟩) hBn).trans hcell
  clear hy1 hR1
  gi_wp2
  gi_loopw [10] (fun i wr => ∃ (k : Nat) (pre : List Cel),k ≤ 16 ∧ i = .int .i64 (k : Int) ∧ Hid (chain c (pks pre) ((c / 4 ^ k + 1) * 4 ^ k)) ∧ J pre wr ∧ wr.cell? ⟨Bn, 0,none⟩ = some (.int .i64 (c : Int))) (fun i _ => 16 - (intOf i).toNat)
  case atStart =>
   exact ⟨0,_,by omega,rfl,by show chain _ _ _; simp [pks,Cel.pk,chain],hJ1,hcell1⟩
  case round =>
   obtain ⟨k,pre,hk,rfl,hch,hJ,hcw⟩ := hrel
   by_cases hlt : k < 16
   ·have hlt' : (k : Int) < 16 := by omega
    have hsr := shr_of c k
    have hq : c / 4 ^ k < 4294967296 := Nat.lt_of_le_of_lt (Nat.div_le_self _ _) hc
    obtain ⟨q,hqe⟩ : ∃ q,c / 4 ^ k = q := ⟨_,rfl⟩
    rw [hqe] at hsr hq
    have HQ : Hid (c / 4 ^ k = q) := hqe
    have hch2 : Hid (chain c (pks pre) ((q + 1) * 4 ^ k)) := by rw [← hqe]; exact hch
    clear hqe hch
    gi_wp2
    gi_loopw [4] (fun i ws => ∃ (p : Nat) (pre : List Cel),i = .int .i64 (p : Int) ∧ q + 1 ≤ p ∧ p ≤ 4 * (q / 4 + 1) ∧ Hid (chain c (pks pre) (p * 4 ^ k)) ∧ J pre ws ∧ ws.cell? ⟨Bn, 0,none⟩ = some (.int .i64 (c : Int))) (fun i _ => 4 * (q / 4 + 1) - (intOf i).toNat)
    case atStart =>
     exact ⟨q + 1,pre,by go_num,by omega,by omega,hch2,hJ,hcw⟩
    case round =>
     clear hch2 hJ hcw pre
     obtain ⟨p,pre,rfl,hp1,hp2,hch,hJ,hcw⟩ := hrel
     by_cases h4 : p % 4 = 0
     ·have ht : (((p : Int) % 4) != 0) = false := by simp; omega
      gi_wp2
      go_roundw
      case rel =>
       refine ⟨k + 1,pre,by omega,by go_num, ?_,hJ,hcw⟩
       show chain _ _ _
       rw [← next_size,HQ.out,show 4 * (q / 4 + 1) = p by omega]; exact hch.out
      case measure => simp [intOf]; omega
     ·have ht : (((p : Int) % 4) != 0) = true := by simp; omega
      obtain ⟨x,hxe,hxp,hxk,hpb⟩ := cel_mk c k p q hc hlt HQ.out (by omega)
      have hlen := chain_room hch.out (by omega) hlt HQ.out hc
      obtain ⟨f2,t2,a2,b2,hy2,hR2⟩ := hY pre x wr hJ (by omega)
      rw [hxe] at hy2
      have hnew : Hid (chain c (pks (pre ++ [x])) ((p + 1) * 4 ^ k)) := by
       show chain _ _ _
       rw [pks_snoc,hxp,hxk]; exact chain_snoc hch.out rfl
      clear hlen hch hsr hxe hxp hxk
      gi_wp2
      refine hR2.mono ?_
      rintro e W3 (⟨rfl,hJ3,hk3⟩ | ⟨rfl,hx3⟩)
      ·have hcw3 : W3.cell? ⟨Bn, 0,none⟩ = some (.int .i64 (c : Int)) := (hk3.cell (p := ⟨Bn, 0,none⟩) hBn).trans hcw
       clear hR2 hy2
       gi_wp2
       go_roundw
       case rel =>
        have hrel : ∃ (p' : Nat) (pre' : List Cel),Value.int .i64 ((p : Int) + 1) = .int .i64 (p' : Int) ∧ q + 1 ≤ p' ∧ p' ≤ 4 * (q / 4 + 1) ∧ Hid (chain c (pks pre') (p' * 4 ^ k)) ∧ J pre' W3 ∧ W3.cell? ⟨Bn, 0,none⟩ = some (.int .i64 (c : Int)) := ⟨p + 1,_,by go_num,by omega,by omega,hnew,hJ3,hcw3⟩
        exact hrel
       case measure => simp [intOf]; omega
      ·clear hR2 hy2
       gi_wp2
       refine bodyPost_ret (results_none rfl _ _ _) rfl ?_
       exact ⟨⟨_,rfl⟩, .inr ⟨_,⟨_,hnew.out⟩,hx3⟩⟩
   ·obtain rfl : k = 16 := by omega
    gi_wp2
    go_end0
    refine ⟨⟨_,rfl⟩, .inl ⟨pre, ?_,hJ⟩⟩
    have := hch.out
    rw [show c / 4 ^ 16 = 0 from Nat.div_eq_of_lt hc] at this
    exact this
 ·gi_wp2
  refine bodyPost_ret (results_none rfl _ _ _) rfl ?_
  exact ⟨⟨_,rfl⟩, .inr ⟨_,⟨_,by simp [pks,Cel.pk,chain]; rfl⟩,hx1⟩⟩
set_option maxHeartbeats 400000 in
theorem cellsFrom_in (F : Fence) (n : Nat) (h34 : F.fn 151) (hro : F.round = none) (c : Int) (w : World) :
  CallsIn F n Tryz.prog 151 #[.int .i64 c] w fun e w' => e = .returned (.func (.func 188) #[] #[.pointer (some ⟨w.heap.size, 0,none⟩)]) ∧ w' = w.alloc (.cells #[.int .i64 c] 3) := by
 refine callsIn_of_wp Tryz.func151 rfl h34 ?_ hro
 simp only [Tryz.ntmps151,List.size_toArray,List.length_cons,List.length_nil,Nat.reduceAdd,Nat.reduceSub,Array.replicate_succ,Array.replicate_zero,List.push_toArray,List.append_toArray,List.nil_append,List.cons_append]
 gi_wp2
 go_ret
 exact ⟨rfl,rfl⟩
theorem cells_stops (F : Fence) (n : Nat) (h40 : F.fn 188) (hro : F.round = none) (hn : 1 ≤ n) (Bn n₀ : Nat) (c : Nat) (hc : c < 4294967296) (w : World) (hBn : Bn < n₀) (hn₀ : n₀ ≤ w.heap.size)
  (hcell : w.cell? ⟨Bn, 0,none⟩ = some (.int .i64 (c : Int))) (N : Nat) (hN : 4294967296 < N) :
  SeqStopsK F n Tryz.prog 188 #[.pointer (some ⟨Bn, 0,none⟩)] celE (Below n₀) (fun xs => chain c (pks xs) 4294967296) (fun pre => ∃ b,chain c (pks pre) b) N w := fun l J Jx W hW _ _ hY h0 =>
 cells1_in F n h40 hro hn l Bn n₀ hBn c hc N hN J Jx hY W ((hW.cell (p := ⟨Bn, 0,none⟩) (by show Bn < _; omega)).trans hcell) h0
end
end Go.Proofs.YtdgbgmffpcooeaaGreat
