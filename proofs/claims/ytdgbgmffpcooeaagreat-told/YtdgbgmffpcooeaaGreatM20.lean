/- B5 Pk2 Pk3 Pk4 -/
import Derived.Test.YtdgbgmffpcooeaaGreatM19
import Derived.Test.YtdgbgmffpcooeaaGreatM14
section
/- The node that a sector's bytes are. -/
namespace Go.Proofs.YtdgbgmffpcooeaaGreat
open Go.RowKit Go.Lib

open Classical in
theorem nodeOf_leaf {l : List UInt8} {c : Nat} (h0 : l[0]? = some 1) (h1 : l[1]? = some (UInt8.ofNat c)) (hc : c < 256) :
    nodeOf l = if (0 < (pairsR rectC (min c 10) (l.drop 2)).length ∧ Rising (pairsR rectC (min c 10) (l.drop 2))) ∧ nodeB (.leaf (pairsR rectC (min c 10) (l.drop 2))) = l then some (.leaf (pairsR rectC (min c 10) (l.drop 2))) else none := by
  rw [pairsR_length]
  split
  · rename_i h
    exact nodeOf_leaf_yes (by omega) (by omega) h.1.2 h.2
  · rename_i h
    refine nodeOf_none fun n hs e => h ?_
    rcases nodeB_says hs e with ⟨r, rfl, g0, g1, g2, g3, g4⟩ | ⟨r, rfl, g0, _⟩
    · rw [h1] at g1
      have hcr : c = r.length := ofNat_inj hc (by omega) (Option.some.inj g1)
      have hm : min c 10 = r.length := by omega
      rw [hm, g4]
      exact ⟨⟨g3, hs.2.2.1⟩, e⟩
    · rw [h0] at g0; simp at g0
open Classical in
theorem nodeOf_branch {l : List UInt8} {c : Nat} (h0 : l[0]? = some 2) (h1 : l[1]? = some (UInt8.ofNat c)) (hc : c < 256) :
    nodeOf l = if (1 < (pairsR secC (min c 14) (l.drop 2)).length ∧ Rising (pairsR secC (min c 14) (l.drop 2))) ∧ nodeB (.branch (pairsR secC (min c 14) (l.drop 2))) = l then some (.branch (pairsR secC (min c 14) (l.drop 2))) else none := by
  rw [pairsR_length]
  split
  · rename_i h
    exact nodeOf_branch_yes (by omega) (by omega) h.1.2 h.2
  · rename_i h
    refine nodeOf_none fun n hs e => h ?_
    rcases nodeB_says hs e with ⟨r, rfl, g0, _⟩ | ⟨r, rfl, g0, g1, g2, g3, g4⟩
    · rw [h0] at g0; simp at g0
    · rw [h1] at g1
      have hcr : c = r.length := ofNat_inj hc (by omega) (Option.some.inj g1)
      have hm : min c 14 = r.length := by omega
      rw [hm, g4]
      exact ⟨⟨by omega, hs.2.2.1⟩, e⟩
theorem nodeOf_else {l : List UInt8} {x : UInt8} (h0 : l[0]? = some x) (h1 : x ≠ 1) (h2 : x ≠ 2) : nodeOf l = none := nodeOf_none fun n hs e => by
  rcases nodeB_says hs e with ⟨r, rfl, g0, _⟩ | ⟨r, rfl, g0, _⟩
  · rw [h0] at g0; exact h1 (Option.some.inj g0)
  · rw [h0] at g0; exact h2 (Option.some.inj g0)
theorem numR1 {b : ByteArray} {x : UInt8} (h : b.data.toList[0]? = some x) : numR 1 b = (x.toNat : Int) := by
  have hx := x.toNat_lt
  unfold numR
  have : b.data.toList.take 1 = [x] := by
    cases hl : b.data.toList with
    | nil => rw [hl] at h; cases h
    | cons y t => rw [hl] at h; simp at h; simp [h]
  rw [this]
  unfold w64
  simp only [rdN]
  omega
/-- The name of a method of the tree's package. -/
def nm (s : String) : String := "quarto" ++ (String.singleton (Char.ofNat 47) ++ ("tree." ++ s))
theorem m_lsound (x : Value) (w : World) : (method 447 191 x (nm "sound")).run Tryz.prog w = .ok (259, x) w := by kernel_rfl
theorem m_lbytes (x : Value) (w : World) : (method 447 191 x (nm "bytes")).run Tryz.prog w = .ok (255, x) w := by kernel_rfl
theorem m_lpoor (x : Value) (w : World) : (method 447 191 x (nm "poor")).run Tryz.prog w = .ok (258, x) w := by kernel_rfl
theorem m_lparts (x : Value) (w : World) : (method 447 191 x (nm "parts")).run Tryz.prog w = .ok (257, x) w := by kernel_rfl
theorem m_ljoin (x : Value) (w : World) : (method 447 191 x (nm "join")).run Tryz.prog w = .ok (256, x) w := by kernel_rfl
theorem m_lfirst (a : Option Addr) (n c : Nat) (w : World) : (method 447 191 (.agg #[.slice a n c]) (nm "first")).run Tryz.prog w = .ok (131, .slice a n c) w := by kernel_rfl
theorem m_bsound (x : Value) (w : World) : (method 447 214 x (nm "sound")).run Tryz.prog w = .ok (273, x) w := by kernel_rfl
theorem m_bbytes (x : Value) (w : World) : (method 447 214 x (nm "bytes")).run Tryz.prog w = .ok (269, x) w := by kernel_rfl
theorem m_bpoor (x : Value) (w : World) : (method 447 214 x (nm "poor")).run Tryz.prog w = .ok (272, x) w := by kernel_rfl
theorem m_bparts (x : Value) (w : World) : (method 447 214 x (nm "parts")).run Tryz.prog w = .ok (271, x) w := by kernel_rfl
theorem m_bjoin (x : Value) (w : World) : (method 447 214 x (nm "join")).run Tryz.prog w = .ok (270, x) w := by kernel_rfl
theorem m_bfirst (a : Option Addr) (n c : Nat) (w : World) : (method 447 214 (.agg #[.slice a n c]) (nm "first")).run Tryz.prog w = .ok (266, .slice a n c) w := by kernel_rfl
/-- A node's row lies in a block that was laid at or behind this one. -/
def Fresh (base : Nat) (v : Value) : Prop := ∀ T a n c, v = .iface T (.agg #[.slice (some a) n c]) → base ≤ a.block
theorem Fresh.mono {a b : Nat} {v : Value} (h : Fresh b v) (hab : a ≤ b) : Fresh a v := fun T x n c e => Nat.le_trans hab (h T x n c e)
theorem fresh_own {W : World} {base e size m sc : Nat} {xs : List Value} {T : TypeId} {sa : Option Addr} (h : W.ownsRow base e size (.slice sa m sc) m xs) : Fresh base (.iface T (.agg #[.slice sa m sc])) := fun T' a n c e' => by
  cases e'
  obtain ⟨_, ⟨h1, _⟩ | ⟨g, cap, cur, h1, h2, _⟩⟩ := h
  · cases h1
  · cases h1; exact h2
/-- What readNode answers. -/
def ReadN (W : World) (base : Nat) (b : ByteArray) (e : Ending) : Prop :=
  (∃ v nd, nodeOf b.data.toList = some nd ∧ e = .returned (.tuple #[v, .bool true]) ∧ NodeV W v nd ∧ Fresh base v) ∨ (nodeOf b.data.toList = none ∧ ∃ v, e = .returned (.tuple #[v, .bool false]))
set_option maxRecDepth 100000 in
set_option maxHeartbeats 4000000 in
theorem readNode_any (w : World) (b : ByteArray) (hb : b.size = 256) :
    Calls Tryz.prog 167 #[.string b] w fun e w' => ReadN w' w.heap.size b e ∧ Below w.heap.size w w' := by
  have hlen : b.data.toList.length = 256 := by rw [length_data, hb]
  obtain ⟨x, hx⟩ : ∃ x, b.data.toList[0]? = some x := ⟨_, List.getElem?_eq_getElem (by omega)⟩
  obtain ⟨y, hy⟩ : ∃ y, b.data.toList[1]? = some y := ⟨_, List.getElem?_eq_getElem (by omega)⟩
  have hT0 := Blk.new w 246 #[.string b]
  have hb0 : Below w.heap.size w (w.alloc (.cells #[.string b] 246)) := (Below.refl _ _).alloc (Nat.le_refl _) _
  have hc1 := tnum_blk _ w.heap.size b 1 hT0 (by omega) (by omega) (by omega)
  have hc2 : ∀ w1, Blk w1 w.heap.size 246 #[.string (restB b 1)] → _ := fun w1 h1 => tnum_blk w1 w.heap.size (restB b 1) 1 h1 (by omega) (by rw [size_rest]; omega) (by rw [size_rest]; omega)
  rw [numR1 hx] at hc1
  rw [numR1 (x := y) (b := restB b 1) (by rw [data_rest, List.getElem?_drop]; exact hy), rest_rest] at hc2
  have H2 : Hid _ := hc2
  clear hc2 hT0
  have hxl := x.toNat_lt
  have hyl := y.toNat_lt
  by_cases h1 : x = 1
  · subst h1
    have hn := nodeOf_leaf hx (c := y.toNat) (by rw [hy]; simp) hyl
    have hp : ∀ w1, Blk w1 w.heap.size 246 #[.string (restB b (1 + 1))] → _ := fun w1 h1 => pairsR_any w1 w.heap.size (restB b (1 + 1)) (min y.toNat 10) h1 (by rw [size_rest]; omega) (by rw [size_rest]; omega)
    rw [data_rest] at hp
    obtain ⟨m, hm⟩ : ∃ m, min y.toNat 10 = m := ⟨_, rfl⟩
    have hmin : min (y.toNat : Int) 10 = (m : Int) := by omega
    have hm10 : m ≤ 10 := by omega
    rw [hm] at hn hp
    have hPl := pairsR_length rectC m (b.data.toList.drop 2)
    generalize pairsR rectC m (b.data.toList.drop 2) = P at hn hp hPl
    have H3 : Hid _ := hp
    have HN : Hid _ := hn
    have HP : Hid (P.length = m) := hPl
    have hP10 : P.length ≤ 10 := by omega
    clear hPl
    generalize (y.toNat) = cnt at H2 hmin
    clear hp hn hx hy hm hyl hlen
    go_enter Tryz.func167, Tryz.ntmps167
    go_upto_region 7 with (first
      | (go_at_call 165; refine hc1.mono ?_; clear hc1; rintro e w1 ⟨rfl, B1, o1⟩)
      | (go_at_call 165; refine (H2.out _ B1).mono ?_; rintro e w2 ⟨rfl, B2, o2⟩))
    go_upto_region 10 with (first
      | (go_at_call 195; refine (H3.out _ B2).mono ?_; rintro e w3 ⟨v, rfl, hown, o3⟩; obtain ⟨sa, sc, rfl, _, _, _⟩ := own_shape hown))
    have hb3 : Below w.heap.size w w3 := by
      have h1 := hb0.trans (o1.below hb0.size (fun k hk => by omega))
      have h2 := h1.trans (o2.below h1.size (fun k hk => by omega))
      exact h2.trans (o3.below h2.size (fun k hk => by omega))
    have hfr : Fresh w.heap.size (.iface 191 (.agg #[.slice sa m sc])) := (fresh_own hown).mono (by
      have h1 := hb0.trans (o1.below hb0.size (fun k hk => by omega))
      exact (h1.trans (o2.below h1.size (fun k hk => by omega))).size)
    have hrow : RowR w3 (.slice sa m sc) P := Row.of_own pkR (base := w2.heap.size) (by rw [HP.out]; exact hown)
    have hso := soundL_any w3 _ P hrow
    have hby : ∀ w4, Below w3.heap.size w3 w4 → _ := fun w4 h4 => lbytes_any w4 _ P (hrow.below pkR h4) (by omega)
    clear hown o1 o2 o3 B1 B2 H2 H3 hb0
    by_cases hs : 0 < P.length ∧ Rising P
    · simp only [hs, and_self, decide_true] at hso
      have HB : Hid _ := hby
      clear hby
      have hm1 := m_lsound
      have hm2 := m_lbytes
      simp [nm] at hm1 hm2
      go_wp2_with (first
        | (go_at_call 259; refine hso.mono ?_; rintro e w4 ⟨rfl, hb4⟩)
        | (go_at_call 255; refine (HB.out _ hb4).mono ?_; rintro e w5 ⟨rfl, hb5⟩))
      go_ret2
      have hb5' : Below w3.heap.size w3 w5 := hb4.trans (hb5.mono hb4.size)
      refine ⟨?_, hb3.trans (hb5'.mono hb3.size)⟩
      rw [Lib.toList_data]
      by_cases he : nodeB (.leaf P) = b.data.toList
      · refine .inl ⟨_, .leaf P, by rw [HN.out, if_pos ⟨hs, he⟩], ?_, ⟨_, rfl, hrow.below pkR hb5'⟩, hfr⟩
        rw [he]; simp
      · refine .inr ⟨by rw [HN.out, if_neg (fun h => he h.2)], .iface 191 (.agg #[.slice sa m sc]), ?_⟩
        rw [beq_eq_false_iff_ne.2 he]; rfl
    · simp only [hs, decide_false] at hso
      clear hby
      have hm1 := m_lsound
      simp [nm] at hm1
      go_wp2_with (first
        | (go_at_call 259; refine hso.mono ?_; rintro e w4 ⟨rfl, hb4⟩))
      go_ret2
      exact ⟨.inr ⟨by rw [HN.out, if_neg (fun h => hs h.1)], _, rfl⟩, hb3.trans (hb4.mono hb3.size)⟩
  · by_cases h2 : x = 2
    · subst h2
      have hn := nodeOf_branch hx (c := y.toNat) (by rw [hy]; simp) hyl
      have hp : ∀ w1, Blk w1 w.heap.size 246 #[.string (restB b (1 + 1))] → _ := fun w1 h1 => pairsS_any w1 w.heap.size (restB b (1 + 1)) (min y.toNat 14) h1 (by rw [size_rest]; omega) (by rw [size_rest]; omega)
      rw [data_rest] at hp
      obtain ⟨m, hm⟩ : ∃ m, min y.toNat 14 = m := ⟨_, rfl⟩
      have hmin : min (y.toNat : Int) 14 = (m : Int) := by omega
      have hm10 : m ≤ 14 := by omega
      rw [hm] at hn hp
      have hPl := pairsR_length secC m (b.data.toList.drop 2)
      generalize pairsR secC m (b.data.toList.drop 2) = P at hn hp hPl
      have H3 : Hid _ := hp
      have HN : Hid _ := hn
      have HP : Hid (P.length = m) := hPl
      have hP10 : P.length ≤ 14 := by omega
      clear hPl
      generalize (y.toNat) = cnt at H2 hmin
      clear hp hn hx hy hm hyl hlen
      go_enter Tryz.func167, Tryz.ntmps167
      go_upto_region 9 with (first
        | (go_at_call 165; refine hc1.mono ?_; clear hc1; rintro e w1 ⟨rfl, B1, o1⟩)
        | (go_at_call 165; refine (H2.out _ B1).mono ?_; rintro e w2 ⟨rfl, B2, o2⟩))
      go_upto_region 10 with (first
        | (go_at_call 198; refine (H3.out _ B2).mono ?_; rintro e w3 ⟨v, rfl, hown, o3⟩; obtain ⟨sa, sc, rfl, _, _, _⟩ := own_shape hown))
      have hb3 : Below w.heap.size w w3 := by
        have h1 := hb0.trans (o1.below hb0.size (fun k hk => by omega))
        have h2 := h1.trans (o2.below h1.size (fun k hk => by omega))
        exact h2.trans (o3.below h2.size (fun k hk => by omega))
      have hfr : Fresh w.heap.size (.iface 214 (.agg #[.slice sa m sc])) := (fresh_own hown).mono (by
        have h1 := hb0.trans (o1.below hb0.size (fun k hk => by omega))
        exact (h1.trans (o2.below h1.size (fun k hk => by omega))).size)
      have hrow : RowS w3 (.slice sa m sc) P := Row.of_own pkS (base := w2.heap.size) (by rw [HP.out]; exact hown)
      have hso := soundB_any w3 _ P hrow
      have hby : ∀ w4, Below w3.heap.size w3 w4 → _ := fun w4 h4 => bbytes_any w4 _ P (hrow.below pkS h4) (by omega)
      clear hown o1 o2 o3 B1 B2 H2 H3 hb0
      by_cases hs : 1 < P.length ∧ Rising P
      · simp only [hs, and_self, decide_true] at hso
        have HB : Hid _ := hby
        clear hby
        have hm1 := m_bsound
        have hm2 := m_bbytes
        simp [nm] at hm1 hm2
        go_wp2_with (first
          | (go_at_call 273; refine hso.mono ?_; rintro e w4 ⟨rfl, hb4⟩)
          | (go_at_call 269; refine (HB.out _ hb4).mono ?_; rintro e w5 ⟨rfl, hb5⟩))
        go_ret2
        have hb5' : Below w3.heap.size w3 w5 := hb4.trans (hb5.mono hb4.size)
        refine ⟨?_, hb3.trans (hb5'.mono hb3.size)⟩
        rw [Lib.toList_data]
        by_cases he : nodeB (.branch P) = b.data.toList
        · refine .inl ⟨_, .branch P, by rw [HN.out, if_pos ⟨hs, he⟩], ?_, ⟨_, rfl, hrow.below pkS hb5'⟩, hfr⟩
          rw [he]; simp
        · refine .inr ⟨by rw [HN.out, if_neg (fun h => he h.2)], .iface 214 (.agg #[.slice sa m sc]), ?_⟩
          rw [beq_eq_false_iff_ne.2 he]; rfl
      · simp only [hs, decide_false] at hso
        clear hby
        have hm1 := m_bsound
        simp [nm] at hm1
        go_wp2_with (first
          | (go_at_call 273; refine hso.mono ?_; rintro e w4 ⟨rfl, hb4⟩))
        go_ret2
        exact ⟨.inr ⟨by rw [HN.out, if_neg (fun h => hs h.1)], _, rfl⟩, hb3.trans (hb4.mono hb3.size)⟩
    · have hn := nodeOf_else hx h1 h2
      have t1 : ((x.toNat : Int) == 1) = false := by
        have : x.toNat ≠ 1 := fun e => h1 (UInt8.toNat_inj.1 (by simpa using e))
        simp; omega
      have t2 : ((x.toNat : Int) == 2) = false := by
        have : x.toNat ≠ 2 := fun e => h2 (UInt8.toNat_inj.1 (by simpa using e))
        simp; omega
      have HN : Hid _ := hn
      clear hn hx hy hlen hxl hyl h1 h2
      go_enter Tryz.func167, Tryz.ntmps167
      go_wp2_with (first
        | (go_at_call 165; refine hc1.mono ?_; clear hc1; rintro e w1 ⟨rfl, B1, o1⟩)
        | (go_at_call 165; refine (H2.out _ B1).mono ?_; rintro e w2 ⟨rfl, B2, o2⟩))
      go_ret2
      have h1 := hb0.trans (o1.below hb0.size (fun k hk => by omega))
      exact ⟨.inr ⟨HN.out, _, rfl⟩, h1.trans (o2.below h1.size (fun k hk => by omega))⟩
end Go.Proofs.YtdgbgmffpcooeaaGreat
end
section
/- What the program's disk answers: has, fails, spend, settle, Steps, Break, Flush, Read. -/
namespace Go.Proofs.YtdgbgmffpcooeaaGreat
open Go.RowKit Go.Lib Go.Maps

def PS.brk (s : PS) : Bool := s.broken || decide (s.left = 0)
def PS.asked (s : PS) : PS := { s with broken := s.brk }
def PS.spent (s : PS) : PS := { s with left := if 0 < s.left then s.left - 1 else s.left }
def PS.settled (s : PS) : PS := { s with old := fun _ => none }

set_option maxHeartbeats 1000000 in
theorem phas_any (w : World) (base : Nat) (A : PA) (s : PS) (h : PD w base A s) (i : Int) :
    Calls Tryz.prog 164 #[.pointer (some ⟨A.q, 0, none⟩), .int .i64 i] w fun e w' => e = .returned (.bool (decide (0 ≤ i ∧ i < (s.n : Int)))) ∧ w' = w := by
  obtain ⟨c0, c1, c2, c3, c4⟩ := h.cells
  by_cases h1 : 0 ≤ i
  · by_cases h2 : i < (s.n : Int)
    · go_enter Tryz.func164, Tryz.ntmps164
      go_wp2
      go_ret
      exact ⟨ret_bool (by simp [h1, h2]), rfl⟩
    · have t2 : decide (i < (s.n : Int)) = false := by simp; omega
      go_enter Tryz.func164, Tryz.ntmps164
      go_wp2
      go_ret
      exact ⟨ret_bool (by simp), rfl⟩
  · have t1 : decide (0 ≤ i) = false := by simp; omega
    go_enter Tryz.func164, Tryz.ntmps164
    go_wp2
    go_ret
    exact ⟨ret_bool (by simp), rfl⟩

set_option maxHeartbeats 1000000 in
theorem pfails_any (w : World) (base : Nat) (A : PA) (s : PS) (h : PD w base A s) :
    Calls Tryz.prog 106 #[.pointer (some ⟨A.q, 0, none⟩)] w fun e w' => e = .returned (.bool s.brk) ∧ PD w' base A s.asked ∧ Off A.F w w' := by
  obtain ⟨c0, c1, c2, c3, c4⟩ := h.cells
  have f3 : w.frozen? ⟨A.q, 3, none⟩ = false := h.blkQ.frozen 3
  by_cases hl : s.left = 0
  · have hb : s.brk = true := by unfold PS.brk; simp [hl]
    have hR : PD (w.setCell ⟨A.q, 3, none⟩ (.bool true)) base A s.asked := h.cell 3 (.bool true) rfl rfl rfl (by unfold PS.asked; rw [hb]; rfl)
    rw [hl] at c2
    go_enter Tryz.func106, Tryz.ntmps106
    go_wp2
    go_ret
    exact ⟨ret_bool hb.symm, hR, (Off.refl _ _).setCell _ (.inl (.inr (.inl rfl)))⟩
  · have t1 : (s.left == 0) = false := by simp; omega
    have hb : s.brk = s.broken := by unfold PS.brk; simp [hl]
    have hs : s.asked = s := by unfold PS.asked; rw [hb]
    have HB : Hid (s.brk = s.broken) := hb
    have HS : Hid (s.asked = s) := hs
    clear hb hs
    go_enter Tryz.func106, Tryz.ntmps106
    go_wp2
    go_ret
    exact ⟨ret_bool HB.out.symm, by rw [HS.out]; exact h, Off.refl _ _⟩

set_option maxHeartbeats 1000000 in
theorem pspend_any (w : World) (base : Nat) (A : PA) (s : PS) (h : PD w base A s) (hlf : -1 ≤ s.left ∧ s.left ≤ 9223372036854775807) :
    Calls Tryz.prog 107 #[.pointer (some ⟨A.q, 0, none⟩)] w fun e w' => e = .returned (.tuple #[]) ∧ PD w' base A s.spent ∧ Off A.F w w' := by
  obtain ⟨c0, c1, c2, c3, c4⟩ := h.cells
  have f2 : w.frozen? ⟨A.q, 2, none⟩ = false := h.blkQ.frozen 2
  by_cases hl : 0 < s.left
  · have hs : s.spent = { s with left := s.left - 1 } := by unfold PS.spent; rw [if_pos hl]
    have hR : PD (w.setCell ⟨A.q, 2, none⟩ (.int .i64 (s.left - 1))) base A s.spent := h.cell 2 (.int .i64 (s.left - 1)) (by rw [hs]) (by rw [hs]) (by rw [hs]) (by rw [hs]; rfl)
    have HS : Hid (s.spent = { s with left := s.left - 1 }) := hs
    clear hs
    go_enter Tryz.func107, Tryz.ntmps107
    go_wp2
    refine bodyPost_end (v := .tuple #[]) (by simp [results, Tryz.results107]) rfl ⟨rfl, hR, (Off.refl _ _).setCell _ (.inl (.inr (.inl rfl)))⟩
  · have t1 : decide (0 < s.left) = false := by simp; omega
    have hs : s.spent = s := by unfold PS.spent; rw [if_neg hl]
    have HS : Hid (s.spent = s) := hs
    clear hs
    go_enter Tryz.func107, Tryz.ntmps107
    go_wp2
    refine bodyPost_end (v := .tuple #[]) (by simp [results, Tryz.results107]) rfl ⟨rfl, by rw [HS.out]; exact h, Off.refl _ _⟩

theorem MapIs.empty (n : Nat) : MapIs (.map []) (fun _ => none) n := ⟨fun i _ => (by simp [Maps.has]), fun i b _ h => (by cases h), fun k h => (by simp [Maps.has] at h), fun i b _ h => (by cases h)⟩

set_option maxHeartbeats 1000000 in
theorem psettle_any (w : World) (base : Nat) (A : PA) (s : PS) (h : PD w base A s) :
    Calls Tryz.prog 73 #[.pointer (some ⟨A.q, 0, none⟩)] w fun e w' => e = .returned (.tuple #[]) ∧ PD w' base { A with m := w.heap.size } s.settled ∧ Off A.F w w' := by
  obtain ⟨a1, a2, a3, a4, a5, a6⟩ := h.apart
  obtain ⟨c0, c1, c2, c3, c4⟩ := h.cells
  have hbl := h.blkQ.lt
  have f1 : w.frozen? ⟨A.q, 1, none⟩ = false := h.blkQ.frozen 1
  have hmm := @run_makeMap Tryz.prog
  have hR : PD ((w.setCell ⟨A.q, 1, none⟩ (.map (some w.heap.size))).alloc (.map #[] 0)) base { A with m := w.heap.size } s.settled := by
    have ho : Off (fun k => k = A.q) w ((w.setCell ⟨A.q, 1, none⟩ (.map (some w.heap.size))).alloc (.map #[] 0)) := (Off.one (i := 1) (B := A.q) w (.map (some w.heap.size))).alloc _
    obtain ⟨l1, l2, l3, l4⟩ := h.le
    refine ⟨⟨l1, l2, l3, by simp only; omega⟩, h.blkP.off ho a1, (h.blkQ.set 1 _).alloc _, h.sec.off ho a2, ⟨0, .map [], ?_, Nat.zero_le _, MapIs.empty _⟩, h.n1, h.n2⟩
    have := World.ownsMap_made (H := Unit) (w.setCell ⟨A.q, 1, none⟩ (.map (some w.heap.size))) Tryz.prog 3 secR
    simpa using this
  go_enter Tryz.func73, Tryz.ntmps73
  go_wp2
  refine bodyPost_end (v := .tuple #[]) (by simp [results, Tryz.results73]) rfl ⟨rfl, hR, ((Off.refl _ _).setCell _ (.inl (.inr (.inl rfl)))).alloc _⟩

set_option maxHeartbeats 1000000 in
theorem psteps_any (w : World) (base : Nat) (A : PA) (s : PS) (h : PD w base A s) :
    Calls Tryz.prog 55 #[.pointer (some ⟨A.q, 0, none⟩)] w fun e w' => e = .returned (.int .i64 s.steps) ∧ w' = w := by
  obtain ⟨c0, c1, c2, c3, c4⟩ := h.cells
  go_enter Tryz.func55, Tryz.ntmps55
  go_wp2
  go_ret
  exact ⟨rfl, rfl⟩

def PS.break_ (s : PS) (n : Int) : Int × PS := if n < 0 then (5, s) else (0, { s with left := n })
set_option maxHeartbeats 1000000 in
theorem pbreak_any (w : World) (base : Nat) (A : PA) (s : PS) (h : PD w base A s) (n : Int) :
    Calls Tryz.prog 77 #[.pointer (some ⟨A.q, 0, none⟩), .int .i64 n] w fun e w' => e = .returned (.int .i64 (s.break_ n).1) ∧ PD w' base A (s.break_ n).2 ∧ Off A.F w w' := by
  obtain ⟨c0, c1, c2, c3, c4⟩ := h.cells
  have f2 : w.frozen? ⟨A.q, 2, none⟩ = false := h.blkQ.frozen 2
  by_cases h1 : n < 0
  · have e : s.break_ n = (5, s) := by unfold PS.break_; rw [if_pos h1]
    rw [e]
    go_enter Tryz.func77, Tryz.ntmps77
    go_wp2
    go_ret
    exact ⟨rfl, h, Off.refl _ _⟩
  · have e : s.break_ n = (0, { s with left := n }) := by unfold PS.break_; rw [if_neg h1]
    rw [e]
    have hR := h.cell 2 (.int .i64 n) (s' := { s with left := n }) rfl rfl rfl rfl
    go_enter Tryz.func77, Tryz.ntmps77
    go_wp2
    go_ret
    exact ⟨rfl, hR, (Off.refl _ _).setCell _ (.inl (.inr (.inl rfl)))⟩

def PS.flush (s : PS) : Int × PS := if s.brk then (4, s.asked) else (0, s.asked.spent.settled)
set_option maxHeartbeats 1000000 in
theorem pflush_any (w : World) (base : Nat) (A : PA) (s : PS) (h : PD w base A s) (hlf : -1 ≤ s.left ∧ s.left ≤ 9223372036854775807) :
    Calls Tryz.prog 76 #[.pointer (some ⟨A.q, 0, none⟩)] w fun e w' => ∃ A' : PA, e = .returned (.int .i64 s.flush.1) ∧ PD w' base A' s.flush.2 ∧ Off A.F w w' ∧ A'.p = A.p ∧ ∀ k, A'.F k → A.F k ∨ w.heap.size ≤ k := by
  have hcon := pfails_any w base A s h
  cases hb : s.brk with
  | true =>
    have e : s.flush = (4, s.asked) := by unfold PS.flush; rw [hb]; rfl
    rw [e]
    rw [hb] at hcon
    go_enter Tryz.func76, Tryz.ntmps76
    go_wp2_with (go_at_call 106; refine hcon.mono ?_; rintro e w1 ⟨rfl, hR, ho⟩)
    go_ret
    exact ⟨A, rfl, hR, ho, rfl, fun k hk => .inl hk⟩
  | false =>
    have e : s.flush = (0, s.asked.spent.settled) := by unfold PS.flush; rw [hb]; rfl
    rw [e]
    rw [hb] at hcon
    go_enter Tryz.func76, Tryz.ntmps76
    go_wp2_with (first
      | (go_at_call 106; refine hcon.mono ?_; rintro e w1 ⟨rfl, hR, ho⟩)
      | (go_at_call 107; refine (pspend_any w1 base A s.asked hR hlf).mono ?_; rintro e w2 ⟨rfl, hR2, ho2⟩)
      | (go_at_call 73; refine (psettle_any w2 base A s.asked.spent hR2).mono ?_; rintro e w3 ⟨rfl, hR3, ho3⟩))
    go_ret
    refine ⟨{ A with m := w2.heap.size }, rfl, hR3, (ho.trans ho2).trans ho3, rfl, fun k hk => ?_⟩
    have := (ho.trans ho2).size
    rcases hk with rfl | rfl | rfl | rfl
    · exact .inl (.inl rfl)
    · exact .inl (.inr (.inl rfl))
    · exact .inl (.inr (.inr (.inl rfl)))
    · exact .inr this
end Go.Proofs.YtdgbgmffpcooeaaGreat
end
section
/- What the program's disk answers at Read; what New makes. -/
namespace Go.Proofs.YtdgbgmffpcooeaaGreat
open Go.RowKit Go.Lib Go.Maps

theorem sec_conv {W : World} {g n : Nat} {now : Nat → ByteArray} (h : Sec W g n now) {i : Nat} (hi : i < n) : (convert 81 9 (.slice (some ⟨g, i * 256, none⟩) 256 256)).run Tryz.prog W = .ok (.string (now i)) W := by
  have hl : (now i).data.toList.length = 256 := by rw [length_data]; exact h.size i hi
  have := run_convert_bytes_back (P := Tryz.prog) W 81 9 5 ⟨g, i * 256, none⟩ 256 (now i).data.toList Tryz.underlying81 Tryz.underlying5 Tryz.underlying9 (fun j hj => by
    rw [Addr.add_mid]
    exact h.at_ i hi j _ (by unfold strCells; rw [List.getElem?_map, List.getElem?_eq_getElem hj]; rfl))
  rw [hl] at this
  simpa using this

def PS.read (s : PS) (i : Int) : ByteArray × Int × PS :=
  if i < 0 ∨ (s.n : Int) ≤ i then (ByteArray.empty, 3, s) else if s.brk then (ByteArray.empty, 4, s.asked) else (s.now i.toNat, 0, { s.asked with steps := wrap64 (s.steps + 1) })

set_option maxRecDepth 100000 in
set_option maxHeartbeats 1000000 in
theorem pread_any (w : World) (base : Nat) (A : PA) (s : PS) (h : PD w base A s) (i : Int) :
    Calls Tryz.prog 128 #[.pointer (some ⟨A.q, 0, none⟩), .int .i64 i] w fun e w' => e = .returned (.tuple #[.string (s.read i).1, .int .i64 (s.read i).2.1]) ∧ PD w' base A (s.read i).2.2 ∧ Off A.F w w' := by
  have hhas := phas_any w base A s h i
  by_cases h1 : i < 0 ∨ (s.n : Int) ≤ i
  · have e : s.read i = (ByteArray.empty, 3, s) := by unfold PS.read; rw [if_pos h1]
    rw [e]
    have hd : decide (0 ≤ i ∧ i < (s.n : Int)) = false := by rw [decide_eq_false_iff_not]; omega
    rw [hd] at hhas
    clear hd h1 e
    go_enter Tryz.func128, Tryz.ntmps128
    go_wp2_with (go_at_call 164; refine hhas.mono ?_; rintro e w1 ⟨rfl, rfl⟩)
    go_ret2
    exact ⟨rfl, h, Off.refl _ _⟩
  · have hd : decide (0 ≤ i ∧ i < (s.n : Int)) = true := by rw [decide_eq_true_iff]; omega
    rw [hd] at hhas
    obtain ⟨k, rfl⟩ : ∃ k : Nat, i = k := ⟨i.toNat, by omega⟩
    have hk : k < s.n := by omega
    have hk' : (k : Int) < (s.n : Int) := by omega
    have hcon := pfails_any w base A s h
    clear hd
    cases hb : s.brk with
    | true =>
      have e : s.read k = (ByteArray.empty, 4, s.asked) := by unfold PS.read; rw [if_neg h1, hb]; rfl
      rw [e]
      rw [hb] at hcon
      clear h1 e
      go_enter Tryz.func128, Tryz.ntmps128
      go_wp2_with (first | (go_at_call 164; refine hhas.mono ?_; rintro e w1 ⟨rfl, rfl⟩) | (go_at_call 106; refine hcon.mono ?_; rintro e w1 ⟨rfl, hR, ho⟩))
      go_ret2
      exact ⟨rfl, hR, ho⟩
    | false =>
      have e : s.read k = (s.now k, 0, { s.asked with steps := wrap64 (s.steps + 1) }) := by unfold PS.read; rw [if_neg h1, hb]; rfl
      rw [e]
      rw [hb] at hcon
      clear h1 e
      go_enter Tryz.func128, Tryz.ntmps128
      go_wp2_with (first | (go_at_call 164; refine hhas.mono ?_; rintro e w0 ⟨rfl, rfl⟩) | (go_at_call 106; refine hcon.mono ?_; rintro e w1 ⟨rfl, hR, ho⟩; have hR2 : PD (w1.setCell ⟨A.q, 4, none⟩ (.int .i64 (wrap64 (s.steps + 1)))) base A { s.asked with steps := wrap64 (s.steps + 1) } := hR.cell 4 (.int .i64 (wrap64 (s.steps + 1))) rfl rfl rfl rfl; have hcv := sec_conv hR2.sec (i := k) hk; have hgl := hR.sec.lt; have c0 : w1.cell? ⟨A.q, 0, none⟩ = some (.slice (some ⟨A.g, 0, none⟩) s.n s.n) := hR.cells.1; have c4 : w1.cell? ⟨A.q, 4, none⟩ = some (.int .i64 s.steps) := hR.cells.2.2.2.2; have f4 : w1.frozen? ⟨A.q, 4, none⟩ = false := hR.blkQ.frozen 4; simp only [PS.asked] at hcv))
      go_ret2
      exact ⟨rfl, hR2, ho.setCell _ (.inl (.inr (.inl rfl)))⟩
end Go.Proofs.YtdgbgmffpcooeaaGreat
end
section
/- What the program's New makes. -/
namespace Go.Proofs.YtdgbgmffpcooeaaGreat
open Go.RowKit Go.Lib Go.Maps

theorem info135 : (Tryz.prog.info? 135).map (fun i => (i.zero, i.size, i.bytes)) = some (some (.agg (Array.replicate 256 (.int .u8 0))), 256, 256) := by kernel_rfl

/-- A disk that has no outer block yet. -/
structure PI (W : World) (base q g m : Nat) (s : PS) : Prop where
  le : base ≤ q ∧ base ≤ g ∧ base ≤ m
  blkQ : Blk W q 133 (pdCells ⟨0, q, g, m⟩ s)
  sec : Sec W g s.n s.now
  map : ∃ k D, W.ownsMap Tryz.prog 3 secR m k D ∧ k ≤ 4096 ∧ MapIs D s.old s.n
  n1 : 256 ≤ s.n
  n2 : s.n ≤ 4096
def PS.fresh (n : Nat) (now : Nat → ByteArray) : PS := ⟨n, now, fun _ => none, -1, false, 0⟩
theorem size_zero256 : (zeros 256).size = 256 := size_zeros 256
theorem zero_cells_of (k j : Nat) (v : Value) (h : (strCells (zeros k))[j]? = some v) : j < k ∧ v = .int .u8 0 := by
  have hl : (strCells (zeros k)).length = k := by rw [strCells_length]; exact size_zeros k
  have hj : j < k := by have := (List.getElem?_eq_some_iff.1 h).1; omega
  refine ⟨hj, ?_⟩
  unfold strCells zeros at h
  rw [List.getElem?_map] at h
  simp [hj] at h
  exact h.symm
theorem zero_cells (j : Nat) (v : Value) (h : (strCells (zeros 256))[j]? = some v) : j < 256 ∧ v = .int .u8 0 := zero_cells_of 256 j v h
theorem rep_get (k i : Nat) (x : Value) (h : i < k) : (Array.replicate k x)[i]! = x := by
  rw [getElem!_pos _ _ (by simpa using h)]; simp

/-- The sectors that make lays. -/
theorem sec_made {W : World} {base g n : Nat} (h : W.ownsRow base 135 256 (.slice (some ⟨g, 0, none⟩) n n) n (madeCells (Value.agg (Array.replicate 256 (.int .u8 0))).cells (n * 256)).toList) : Sec W g n (fun _ => zeros 256) := by
  have hc := own_cell h
  obtain ⟨_, ⟨e1, _⟩ | ⟨g', cap', cur, e1, _, h1, _, _, h3, _⟩⟩ := h
  · cases e1
  · cases e1
    refine ⟨⟨cur, h1, h3⟩, fun i hi j v hv => ?_, fun _ _ => size_zero256⟩
    obtain ⟨hj, rfl⟩ := zero_cells j v hv
    have hlt : i * 256 + j < n * 256 := by
      have := Nat.mul_le_mul_right 256 (show i + 1 ≤ n from hi); omega
    rw [(hc (i * 256 + j) hlt).1]
    simp [madeCells, Value.cells, hlt]
    exact rep_get 256 _ _ (Nat.mod_lt _ (by omega))

set_option maxRecDepth 100000 in
set_option maxHeartbeats 1000000 in
theorem pnew_no (w : World) (a : Int) (h : a < 256 ∨ 4096 < a) :
    Calls Tryz.prog 57 #[.int .i64 a] w fun e w' => e = .returned (.tuple #[.pointer none, .int .i64 2]) ∧ w' = w := by
  rcases h with h | h
  · go_enter Tryz.func57, Tryz.ntmps57
    go_wp2
    go_ret2
    exact ⟨rfl, rfl⟩
  · have h0 : decide (a < 256) = false := by simp; omega
    go_enter Tryz.func57, Tryz.ntmps57
    go_wp2
    go_ret2
    exact ⟨rfl, rfl⟩

set_option maxRecDepth 100000 in
set_option maxHeartbeats 1000000 in
theorem pnew_ok (w : World) (n : Nat) (h1 : 256 ≤ n) (h2 : n ≤ 4096) :
    Calls Tryz.prog 57 #[.int .i64 (n : Int)] w fun e w' => ∃ q g m, e = .returned (.tuple #[.pointer (some ⟨q, 0, none⟩), .int .i64 0]) ∧ PI w' w.heap.size q g m (PS.fresh n (fun _ => zeros 256)) ∧ Below w.heap.size w w' := by
  obtain ⟨i7, hi7, hz7a, hz7b, hz7c⟩ := info_parts info135
  have t1 : decide ((n : Int) < 256) = false := by simp; omega
  have t2 : decide ((4096 : Int) < (n : Int)) = false := by simp; omega
  have hmm := @run_makeMap Tryz.prog
  go_enter Tryz.func57, Tryz.ntmps57
  go_wp2_with (at_make; refine wpList_make_full _ rfl (.tmp 10) (.tmp 10) 130 rfl w.heap.size 135 i7 _ 256 Tryz.underlying130 hi7 hz7a hz7b _ _ _ _ n rfl rfl rfl rfl (by rw [hz7c]; omega) (by unfold maxLen; omega) (Nat.le_refl _) ?_; intro w1 hown hgrow; have hsec := sec_made hown; clear hown hz7a)
  have hB1 : Below w.heap.size w w1 := (Below.refl _ _).grown hgrow (Nat.le_refl _) (fun k hk => by cases hk)
  have hs1 := hB1.size
  have hgl := hsec.lt
  go_ret2
  refine ⟨w1.heap.size + 1, w.heap.size, w1.heap.size, rfl, ⟨⟨by omega, by omega, by omega⟩, ?_, ?_, ⟨0, .map [], ?_, Nat.zero_le _, MapIs.empty _⟩, h1, h2⟩, (hB1.alloc hs1 _).alloc (by simp; omega) _⟩
  · have := Blk.new (w1.alloc (.map #[] 0)) 133 #[.slice (some ⟨w.heap.size, 0, none⟩) n n, .map (some w1.heap.size), .int .i64 (-1), .bool false, .int .i64 0]
    simp only [World.size_alloc] at this
    exact this
  · exact hsec.off (F := fun _ => False) (Off.of_below (((Below.refl _ w1).alloc (Nat.le_refl _) _).alloc (by simp) _)) (fun h => h)
  · have := (World.ownsMap_made (H := Unit) w1 Tryz.prog 3 secR).alloc (.cells #[.slice (some ⟨w.heap.size, 0, none⟩) n n, .map (some w1.heap.size), .int .i64 (-1), .bool false, .int .i64 0] 133)
    exact this
end Go.Proofs.YtdgbgmffpcooeaaGreat
end
