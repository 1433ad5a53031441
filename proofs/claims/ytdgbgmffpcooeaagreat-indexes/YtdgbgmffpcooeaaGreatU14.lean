/- B5 Pk2 -/
import Derived.Test.YtdgbgmffpcooeaaGreatU13
namespace Go.Proofs.YtdgbgmffpcooeaaGreat
open Go.RowKit Go.Lib
section
open Classical in
theorem nodeOf_leaf {l : List UInt8} {c : Nat} (h0 : l[0]? = some 1) (h1 : l[1]? = some (UInt8.ofNat c)) (hc : c < 256) :
  nodeOf l = if (0 < (pairsR rectC (min c 10) (l.drop 2)).length ∧ Rising (pairsR rectC (min c 10) (l.drop 2))) ∧ nodeB (.leaf (pairsR rectC (min c 10) (l.drop 2))) = l then some (.leaf (pairsR rectC (min c 10) (l.drop 2))) else none := by
 rw [pairsR_length]
 split
 ·rename_i h
  exact nodeOf_leaf_yes (by omega) (by omega) h.1.2 h.2
 ·rename_i h
  refine nodeOf_none fun n hs e => h ?_
  rcases nodeB_says hs e with ⟨r,rfl,g0,g1,g2,g3,g4⟩ | ⟨r,rfl,g0,_⟩
  ·rw [h1] at g1
   have hcr : c = r.length := ofNat_inj hc (by omega) (Option.some.inj g1)
   have hm : min c 10 = r.length := by omega
   rw [hm,g4]
   exact ⟨⟨g3,hs.2.2.1⟩,e⟩
  ·rw [h0] at g0; simp at g0
open Classical in
theorem nodeOf_branch {l : List UInt8} {c : Nat} (h0 : l[0]? = some 2) (h1 : l[1]? = some (UInt8.ofNat c)) (hc : c < 256) :
  nodeOf l = if (1 < (pairsR secC (min c 14) (l.drop 2)).length ∧ Rising (pairsR secC (min c 14) (l.drop 2))) ∧ nodeB (.branch (pairsR secC (min c 14) (l.drop 2))) = l then some (.branch (pairsR secC (min c 14) (l.drop 2))) else none := by
 rw [pairsR_length]
 split
 ·rename_i h
  exact nodeOf_branch_yes (by omega) (by omega) h.1.2 h.2
 ·rename_i h
  refine nodeOf_none fun n hs e => h ?_
  rcases nodeB_says hs e with ⟨r,rfl,g0,_⟩ | ⟨r,rfl,g0,g1,g2,g3,g4⟩
  ·rw [h0] at g0; simp at g0
  ·rw [h1] at g1
   have hcr : c = r.length := ofNat_inj hc (by omega) (Option.some.inj g1)
   have hm : min c 14 = r.length := by omega
   rw [hm,g4]
   exact ⟨⟨by omega,hs.2.2.1⟩,e⟩
theorem nodeOf_else {l : List UInt8} {x : UInt8} (h0 : l[0]? = some x) (h1 : x ≠ 1) (h2 : x ≠ 2) : nodeOf l = none := nodeOf_none fun n hs e => by
 rcases nodeB_says hs e with ⟨r,rfl,g0,_⟩ | ⟨r,rfl,g0,_⟩
 ·rw [h0] at g0; exact h1 (Option.some.inj g0)
 ·rw [h0] at g0; exact h2 (Option.some.inj g0)
theorem numR1 {b : ByteArray} {x : UInt8} (h : b.data.toList[0]? = some x) : numR 1 b = (x.toNat : Int) := by
 have hx := x.toNat_lt
 unfold numR
 have : b.data.toList.take 1 = [x] := by
  cases hl : b.data.toList with
  | nil => rw [hl] at h; cases h
  | cons y t => rw [hl] at h; simp at h; simp [h]
 rw [this]
 unfold w64
 simp only [rdN]
 omega
def nm (s : String) : String := "quarto" ++ (String.singleton (Char.ofNat 47) ++ ("tree." ++ s))
theorem m_lsound (x : Value) (w : World) : (method 447 191 x (nm "sound")).run Tryz.prog w = .ok (259, x) w := by kernel_rfl
theorem m_lbytes (x : Value) (w : World) : (method 447 191 x (nm "bytes")).run Tryz.prog w = .ok (255, x) w := by kernel_rfl
theorem m_lpoor (x : Value) (w : World) : (method 447 191 x (nm "poor")).run Tryz.prog w = .ok (258, x) w := by kernel_rfl
theorem m_lparts (x : Value) (w : World) : (method 447 191 x (nm "parts")).run Tryz.prog w = .ok (257, x) w := by kernel_rfl
theorem m_ljoin (x : Value) (w : World) : (method 447 191 x (nm "join")).run Tryz.prog w = .ok (256, x) w := by kernel_rfl
theorem m_lfirst (a : Option Addr) (n c : Nat) (w : World) : (method 447 191 (.agg #[.slice a n c]) (nm "first")).run Tryz.prog w = .ok (131, .slice a n c) w := by kernel_rfl
theorem m_bsound (x : Value) (w : World) : (method 447 214 x (nm "sound")).run Tryz.prog w = .ok (273, x) w := by kernel_rfl
theorem m_bbytes (x : Value) (w : World) : (method 447 214 x (nm "bytes")).run Tryz.prog w = .ok (269, x) w := by kernel_rfl
theorem m_bpoor (x : Value) (w : World) : (method 447 214 x (nm "poor")).run Tryz.prog w = .ok (272, x) w := by kernel_rfl
theorem m_bparts (x : Value) (w : World) : (method 447 214 x (nm "parts")).run Tryz.prog w = .ok (271, x) w := by kernel_rfl
theorem m_bjoin (x : Value) (w : World) : (method 447 214 x (nm "join")).run Tryz.prog w = .ok (270, x) w := by kernel_rfl
theorem m_bfirst (a : Option Addr) (n c : Nat) (w : World) : (method 447 214 (.agg #[.slice a n c]) (nm "first")).run Tryz.prog w = .ok (266, .slice a n c) w := by kernel_rfl
def Fresh (base : Nat) (v : Value) : Prop := ∀ T a n c,v = .iface T (.agg #[.slice (some a) n c]) → base ≤ a.block
theorem Fresh.mono {a b : Nat} {v : Value} (h : Fresh b v) (hab : a ≤ b) : Fresh a v := fun T x n c e => Nat.le_trans hab (h T x n c e)
theorem fresh_own {W : World} {base e size m sc : Nat} {xs : List Value} {T : TypeId} {sa : Option Addr} (h : W.ownsRow base e size (.slice sa m sc) m xs) : Fresh base (.iface T (.agg #[.slice sa m sc])) := fun T' a n c e' => by
 cases e'
 obtain ⟨_,⟨h1,_⟩ | ⟨g,cap,cur,h1,h2,_⟩⟩ := h
 ·cases h1
 ·cases h1; exact h2
def ReadN (W : World) (base : Nat) (b : ByteArray) (e : Ending) : Prop :=
 (∃ v nd,nodeOf b.data.toList = some nd ∧ e = .returned (.tuple #[v, .bool true]) ∧ NodeV W v nd ∧ Fresh base v) ∨ (nodeOf b.data.toList = none ∧ ∃ v,e = .returned (.tuple #[v, .bool false]))
set_option maxRecDepth 100000 in
set_option maxHeartbeats 4000000 in
theorem readNode_any (w : World) (b : ByteArray) (hb : b.size = 256) :
  Calls Tryz.prog 167 #[.string b] w fun e w' => ReadN w' w.heap.size b e ∧ Below w.heap.size w w' := by
 have hlen : b.data.toList.length = 256 := by rw [length_data,hb]
 obtain ⟨x,hx⟩ : ∃ x,b.data.toList[0]? = some x := ⟨_,List.getElem?_eq_getElem (by omega)⟩
 obtain ⟨y,hy⟩ : ∃ y,b.data.toList[1]? = some y := ⟨_,List.getElem?_eq_getElem (by omega)⟩
 have hT0 := Blk.new w 246 #[.string b]
 have hb0 : Below w.heap.size w (w.alloc (.cells #[.string b] 246)) := (Below.refl _ _).alloc (Nat.le_refl _) _
 have hc1 := tnum_blk _ w.heap.size b 1 hT0 (by omega) (by omega) (by omega)
 have hc2 : ∀ w1,Blk w1 w.heap.size 246 #[.string (restB b 1)] → _ := fun w1 h1 => tnum_blk w1 w.heap.size (restB b 1) 1 h1 (by omega) (by rw [size_rest]; omega) (by rw [size_rest]; omega)
 rw [numR1 hx] at hc1
 rw [numR1 (x := y) (b := restB b 1) (by rw [data_rest,List.getElem?_drop]; exact hy),rest_rest] at hc2
 have H2 : Hid _ := hc2
 clear hc2 hT0
 have hxl := x.toNat_lt
 have hyl := y.toNat_lt
 by_cases h1 : x = 1
 ·subst h1
  have hn := nodeOf_leaf hx (c := y.toNat) (by rw [hy]; simp) hyl
  have hp : ∀ w1,Blk w1 w.heap.size 246 #[.string (restB b (1 + 1))] → _ := fun w1 h1 => pairsR_any w1 w.heap.size (restB b (1 + 1)) (min y.toNat 10) h1 (by rw [size_rest]; omega) (by rw [size_rest]; omega)
  rw [data_rest] at hp
  obtain ⟨m,hm⟩ : ∃ m,min y.toNat 10 = m := ⟨_,rfl⟩
  have hmin : min (y.toNat : Int) 10 = (m : Int) := by omega
  have hm10 : m ≤ 10 := by omega
  rw [hm] at hn hp
  have hPl := pairsR_length rectC m (b.data.toList.drop 2)
  generalize pairsR rectC m (b.data.toList.drop 2) = P at hn hp hPl
  have H3 : Hid _ := hp
  have HN : Hid _ := hn
  have HP : Hid (P.length = m) := hPl
  have hP10 : P.length ≤ 10 := by omega
  clear hPl
  generalize (y.toNat) = cnt at H2 hmin
  clear hp hn hx hy hm hyl hlen
  go_enter Tryz.func167,Tryz.ntmps167
  go_upto_region 7 with (first
   | (go_at_call 165; refine hc1.mono ?_; clear hc1; rintro e w1 ⟨rfl,B1,o1⟩)
   | (go_at_call 165; refine (H2.out _ B1).mono ?_; rintro e w2 ⟨rfl,B2,o2⟩))
  go_upto_region 10 with (first
   | (go_at_call 195; refine (H3.out _ B2).mono ?_; rintro e w3 ⟨v,rfl,hown,o3⟩; obtain ⟨sa,sc,rfl,_,_,_⟩ := own_shape hown))
  have hb3 : Below w.heap.size w w3 := by
   have h1 := hb0.trans (o1.below hb0.size (fun k hk => by omega))
   have h2 := h1.trans (o2.below h1.size (fun k hk => by omega))
   exact h2.trans (o3.below h2.size (fun k hk => by omega))
  have hfr : Fresh w.heap.size (.iface 191 (.agg #[.slice sa m sc])) := (fresh_own hown).mono (by
   have h1 := hb0.trans (o1.below hb0.size (fun k hk => by omega))
   exact (h1.trans (o2.below h1.size (fun k hk => by omega))).size)
  have hrow : RowR w3 (.slice sa m sc) P := Row.of_own pkR (base := w2.heap.size) (by rw [HP.out]; exact hown)
  have hso := soundL_any w3 _ P hrow
  have hby : ∀ w4,Below w3.heap.size w3 w4 → _ := fun w4 h4 => lbytes_any w4 _ P (hrow.below pkR h4) (by omega)
  clear hown o1 o2 o3 B1 B2 H2 H3 hb0
  by_cases hs : 0 < P.length ∧ Rising P
  ·simp only [hs,and_self,decide_true] at hso
   have HB : Hid _ := hby
   clear hby
   have hm1 := m_lsound
   have hm2 := m_lbytes
   simp [nm] at hm1 hm2
   go_wp2_with (first
    | (go_at_call 259; refine hso.mono ?_; rintro e w4 ⟨rfl,hb4⟩)
    | (go_at_call 255; refine (HB.out _ hb4).mono ?_; rintro e w5 ⟨rfl,hb5⟩))
   go_ret2
   have hb5' : Below w3.heap.size w3 w5 := hb4.trans (hb5.mono hb4.size)
   refine ⟨?_,hb3.trans (hb5'.mono hb3.size)⟩
   rw [Lib.toList_data]
   by_cases he : nodeB (.leaf P) = b.data.toList
   ·refine .inl ⟨_, .leaf P,by rw [HN.out,if_pos ⟨hs,he⟩], ?_,⟨_,rfl,hrow.below pkR hb5'⟩,hfr⟩
    rw [he]; simp
   ·refine .inr ⟨by rw [HN.out,if_neg (fun h => he h.2)], .iface 191 (.agg #[.slice sa m sc]), ?_⟩
    rw [beq_eq_false_iff_ne.2 he]; rfl
  ·simp only [hs,decide_false] at hso
   clear hby
   have hm1 := m_lsound
   simp [nm] at hm1
   go_wp2_with (first
    | (go_at_call 259; refine hso.mono ?_; rintro e w4 ⟨rfl,hb4⟩))
   go_ret2
   exact ⟨.inr ⟨by rw [HN.out,if_neg (fun h => hs h.1)],_,rfl⟩,hb3.trans (hb4.mono hb3.size)⟩
 ·by_cases h2 : x = 2
  ·subst h2
   have hn := nodeOf_branch hx (c := y.toNat) (by rw [hy]; simp) hyl
   have hp : ∀ w1,Blk w1 w.heap.size 246 #[.string (restB b (1 + 1))] → _ := fun w1 h1 => pairsS_any w1 w.heap.size (restB b (1 + 1)) (min y.toNat 14) h1 (by rw [size_rest]; omega) (by rw [size_rest]; omega)
   rw [data_rest] at hp
   obtain ⟨m,hm⟩ : ∃ m,min y.toNat 14 = m := ⟨_,rfl⟩
   have hmin : min (y.toNat : Int) 14 = (m : Int) := by omega
   have hm10 : m ≤ 14 := by omega
   rw [hm] at hn hp
   have hPl := pairsR_length secC m (b.data.toList.drop 2)
   generalize pairsR secC m (b.data.toList.drop 2) = P at hn hp hPl
   have H3 : Hid _ := hp
   have HN : Hid _ := hn
   have HP : Hid (P.length = m) := hPl
   have hP10 : P.length ≤ 14 := by omega
   clear hPl
   generalize (y.toNat) = cnt at H2 hmin
   clear hp hn hx hy hm hyl hlen
   go_enter Tryz.func167,Tryz.ntmps167
   go_upto_region 9 with (first
    | (go_at_call 165; refine hc1.mono ?_; clear hc1; rintro e w1 ⟨rfl,B1,o1⟩)
    | (go_at_call 165; refine (H2.out _ B1).mono ?_; rintro e w2 ⟨rfl,B2,o2⟩))
   go_upto_region 10 with (first
    | (go_at_call 198; refine (H3.out _ B2).mono ?_; rintro e w3 ⟨v,rfl,hown,o3⟩; obtain ⟨sa,sc,rfl,_,_,_⟩ := own_shape hown))
   have hb3 : Below w.heap.size w w3 := by
    have h1 := hb0.trans (o1.below hb0.size (fun k hk => by omega))
    have h2 := h1.trans (o2.below h1.size (fun k hk => by omega))
    exact h2.trans (o3.below h2.size (fun k hk => by omega))
   have hfr : Fresh w.heap.size (.iface 214 (.agg #[.slice sa m sc])) := (fresh_own hown).mono (by
    have h1 := hb0.trans (o1.below hb0.size (fun k hk => by omega))
    exact (h1.trans (o2.below h1.size (fun k hk => by omega))).size)
   have hrow : RowS w3 (.slice sa m sc) P := Row.of_own pkS (base := w2.heap.size) (by rw [HP.out]; exact hown)
   have hso := soundB_any w3 _ P hrow
   have hby : ∀ w4,Below w3.heap.size w3 w4 → _ := fun w4 h4 => bbytes_any w4 _ P (hrow.below pkS h4) (by omega)
   clear hown o1 o2 o3 B1 B2 H2 H3 hb0
   by_cases hs : 1 < P.length ∧ Rising P
   ·simp only [hs,and_self,decide_true] at hso
    have HB : Hid _ := hby
    clear hby
    have hm1 := m_bsound
    have hm2 := m_bbytes
    simp [nm] at hm1 hm2
    go_wp2_with (first
     | (go_at_call 273; refine hso.mono ?_; rintro e w4 ⟨rfl,hb4⟩)
     | (go_at_call 269; refine (HB.out _ hb4).mono ?_; rintro e w5 ⟨rfl,hb5⟩))
    go_ret2
    have hb5' : Below w3.heap.size w3 w5 := hb4.trans (hb5.mono hb4.size)
    refine ⟨?_,hb3.trans (hb5'.mono hb3.size)⟩
    rw [Lib.toList_data]
    by_cases he : nodeB (.branch P) = b.data.toList
    ·refine .inl ⟨_, .branch P,by rw [HN.out,if_pos ⟨hs,he⟩], ?_,⟨_,rfl,hrow.below pkS hb5'⟩,hfr⟩
     rw [he]; simp
    ·refine .inr ⟨by rw [HN.out,if_neg (fun h => he h.2)], .iface 214 (.agg #[.slice sa m sc]), ?_⟩
     rw [beq_eq_false_iff_ne.2 he]; rfl
   ·simp only [hs,decide_false] at hso
    clear hby
    have hm1 := m_bsound
    simp [nm] at hm1
    go_wp2_with (first
     | (go_at_call 273; refine hso.mono ?_; rintro e w4 ⟨rfl,hb4⟩))
    go_ret2
    exact ⟨.inr ⟨by rw [HN.out,if_neg (fun h => hs h.1)],_,rfl⟩,hb3.trans (hb4.mono hb3.size)⟩
  ·have hn := nodeOf_else hx h1 h2
   have t1 : ((x.toNat : Int) == 1) = false := by
    have : x.toNat ≠ 1 := fun e => h1 (UInt8.toNat_inj.1 (by simpa using e))
    simp; omega
   have t2 : ((x.toNat : Int) == 2) = false := by
    have : x.toNat ≠ 2 := fun e => h2 (UInt8.toNat_inj.1 (by simpa using e))
    simp; omega
   have HN : Hid _ := hn
   clear hn hx hy hlen hxl hyl h1 h2
   go_enter Tryz.func167,Tryz.ntmps167
   go_wp2_with (first
    | (go_at_call 165; refine hc1.mono ?_; clear hc1; rintro e w1 ⟨rfl,B1,o1⟩)
    | (go_at_call 165; refine (H2.out _ B1).mono ?_; rintro e w2 ⟨rfl,B2,o2⟩))
   go_ret2
   have h1 := hb0.trans (o1.below hb0.size (fun k hk => by omega))
   exact ⟨.inr ⟨HN.out,_,rfl⟩,h1.trans (o2.below h1.size (fun k hk => by omega))⟩
end
end Go.Proofs.YtdgbgmffpcooeaaGreat
namespace Go.Proofs.YtdgbgmffpcooeaaGreat
open Go.RowKit Go.Lib Go.Maps
section
def PS.brk (s : PS) : Bool := s.broken || decide (s.left = 0)
def PS.asked (s : PS) : PS := { s with broken := s.brk }
def PS.spent (s : PS) : PS := { s with left := if 0 < s.left then s.left - 1 else s.left }
def PS.settled (s : PS) : PS := { s with old := fun _ => none }
set_option maxHeartbeats 1000000 in
theorem phas_any (w : World) (base : Nat) (A : PA) (s : PS) (h : PD w base A s) (i : Int) :
  Calls Tryz.prog 164 #[.pointer (some ⟨A.q, 0,none⟩), .int .i64 i] w fun e w' => e = .returned (.bool (decide (0 ≤ i ∧ i < (s.n : Int)))) ∧ w' = w := by
 obtain ⟨c0,c1,c2,c3,c4⟩ := h.cells
 by_cases h1 : 0 ≤ i
 ·by_cases h2 : i < (s.n : Int)
  ·go_enter Tryz.func164,Tryz.ntmps164
   go_wp2
   go_ret
   exact ⟨ret_bool (by simp [h1,h2]),rfl⟩
  ·have t2 : decide (i < (s.n : Int)) = false := by simp; omega
   go_enter Tryz.func164,Tryz.ntmps164
   go_wp2
   go_ret
   exact ⟨ret_bool (by simp),rfl⟩
 ·have t1 : decide (0 ≤ i) = false := by simp; omega
  go_enter Tryz.func164,Tryz.ntmps164
  go_wp2
  go_ret
  exact ⟨ret_bool (by simp),rfl⟩
set_option maxHeartbeats 1000000 in
theorem pfails_any (w : World) (base : Nat) (A : PA) (s : PS) (h : PD w base A s) :
  Calls Tryz.prog 106 #[.pointer (some ⟨A.q, 0,none⟩)] w fun e w' => e = .returned (.bool s.brk) ∧ PD w' base A s.asked ∧ Off A.F w w' := by
 obtain ⟨c0,c1,c2,c3,c4⟩ := h.cells
 have f3 : w.frozen? ⟨A.q, 3,none⟩ = false := h.blkQ.frozen 3
 by_cases hl : s.left = 0
 ·have hb : s.brk = true := by unfold PS.brk; simp [hl]
  have hR : PD (w.setCell ⟨A.q, 3,none⟩ (.bool true)) base A s.asked := h.cell 3 (.bool true) rfl rfl rfl (by unfold PS.asked; rw [hb]; rfl)
  rw [hl] at c2
  go_enter Tryz.func106,Tryz.ntmps106
  go_wp2
  go_ret
  exact ⟨ret_bool hb.symm,hR,(Off.refl _ _).setCell _ (.inl (.inr (.inl rfl)))⟩
 ·have t1 : (s.left == 0) = false := by simp; omega
  have hb : s.brk = s.broken := by unfold PS.brk; simp [hl]
  have hs : s.asked = s := by unfold PS.asked; rw [hb]
  have HB : Hid (s.brk = s.broken) := hb
  have HS : Hid (s.asked = s) := hs
  clear hb hs
  go_enter Tryz.func106,Tryz.ntmps106
  go_wp2
  go_ret
  exact ⟨ret_bool HB.out.symm,by rw [HS.out]; exact h,Off.refl _ _⟩
set_option maxHeartbeats 1000000 in
theorem pspend_any (w : World) (base : Nat) (A : PA) (s : PS) (h : PD w base A s) (hlf : -1 ≤ s.left ∧ s.left ≤ 9223372036854775807) :
  Calls Tryz.prog 107 #[.pointer (some ⟨A.q, 0,none⟩)] w fun e w' => e = .returned (.tuple #[]) ∧ PD w' base A s.spent ∧ Off A.F w w' := by
 obtain ⟨c0,c1,c2,c3,c4⟩ := h.cells
 have f2 : w.frozen? ⟨A.q, 2,none⟩ = false := h.blkQ.frozen 2
 by_cases hl : 0 < s.left
 ·have hs : s.spent = { s with left := s.left - 1 } := by unfold PS.spent; rw [if_pos hl]
  have hR : PD (w.setCell ⟨A.q, 2,none⟩ (.int .i64 (s.left - 1))) base A s.spent := h.cell 2 (.int .i64 (s.left - 1)) (by rw [hs]) (by rw [hs]) (by rw [hs]) (by rw [hs]; rfl)
  have HS : Hid (s.spent = { s with left := s.left - 1 }) := hs
  clear hs
  go_enter Tryz.func107,Tryz.ntmps107
  go_wp2
  refine bodyPost_end (v := .tuple #[]) (by simp [results,Tryz.results107]) rfl ⟨rfl,hR,(Off.refl _ _).setCell _ (.inl (.inr (.inl rfl)))⟩
 ·have t1 : decide (0 < s.left) = false := by simp; omega
  have hs : s.spent = s := by unfold PS.spent; rw [if_neg hl]
  have HS : Hid (s.spent = s) := hs
  clear hs
  go_enter Tryz.func107,Tryz.ntmps107
  go_wp2
  refine bodyPost_end (v := .tuple #[]) (by simp [results,Tryz.results107]) rfl ⟨rfl,by rw [HS.out]; exact h,Off.refl _ _⟩
theorem MapIs.empty (n : Nat) : MapIs (.map []) (fun _ => none) n := ⟨fun i _ => (by simp [Maps.has]),fun i b _ h => (by cases h),fun k h => (by simp [Maps.has] at h),fun i b _ h => (by cases h)⟩
set_option maxHeartbeats 1000000 in
theorem psettle_any (w : World) (base : Nat) (A : PA) (s : PS) (h : PD w base A s) :
  Calls Tryz.prog 73 #[.pointer (some ⟨A.q, 0,none⟩)] w fun e w' => e = .returned (.tuple #[]) ∧ PD w' base { A with m := w.heap.size } s.settled ∧ Off A.F w w' := by
 obtain ⟨a1,a2,a3,a4,a5,a6⟩ := h.apart
 obtain ⟨c0,c1,c2,c3,c4⟩ := h.cells
 have hbl := h.blkQ.lt
 have f1 : w.frozen? ⟨A.q, 1,none⟩ = false := h.blkQ.frozen 1
 have hmm := @run_makeMap Tryz.prog
 have hR : PD ((w.setCell ⟨A.q, 1,none⟩ (.map (some w.heap.size))).alloc (.map #[] 0)) base { A with m := w.heap.size } s.settled := by
  have ho : Off (fun k => k = A.q) w ((w.setCell ⟨A.q, 1,none⟩ (.map (some w.heap.size))).alloc (.map #[] 0)) := (Off.one (i := 1) (B := A.q) w (.map (some w.heap.size))).alloc _
  obtain ⟨l1,l2,l3,l4⟩ := h.le
  refine ⟨⟨l1,l2,l3,by simp only; omega⟩,h.blkP.off ho a1,(h.blkQ.set 1 _).alloc _,h.sec.off ho a2,⟨0, .map [], ?_,Nat.zero_le _,MapIs.empty _⟩,h.n1,h.n2⟩
  have := World.ownsMap_made (H := Unit) (w.setCell ⟨A.q, 1,none⟩ (.map (some w.heap.size))) Tryz.prog 3 secR
  simpa using this
 go_enter Tryz.func73,Tryz.ntmps73
 go_wp2
 refine bodyPost_end (v := .tuple #[]) (by simp [results,Tryz.results73]) rfl ⟨rfl,hR,((Off.refl _ _).setCell _ (.inl (.inr (.inl rfl)))).alloc _⟩
def PS.flush (s : PS) : Int × PS := if s.brk then (4,s.asked) else (0,s.asked.spent.settled)
end
end Go.Proofs.YtdgbgmffpcooeaaGreat
