/- No1 No2 -/
import Derived.Test.YtdgbgmffpcooeaaGreatC51
import Derived.Test.YtdgbgmffpcooeaaGreatC52
section
/- How a game begins. -/
namespace Go.Proofs.YtdgbgmffpcooeaaGreat
open Go.RowKit Go.Lib
theorem PD.base0 {W : World} {base : Nat} {A : PA} {s : PS} (h : PD W base A s) : PD W 0 A s := ⟨⟨Nat.zero_le _, Nat.zero_le _, Nat.zero_le _, Nat.zero_le _⟩, h.blkP, h.blkQ, h.sec, h.map, h.n1, h.n2⟩
theorem PD.les {W : World} {base : Nat} {A : PA} {s : PS} (h : PD W base A s) : ∀ k, A.F k → base ≤ k := fun k hk => by
  obtain ⟨a, b, c, d⟩ := h.le
  rcases hk with rfl | rfl | rfl | rfl
  · exact a
  · exact b
  · exact c
  · exact d
theorem tput_nil (id : Int) (v : Box) : tput id v [] = [(id, v)] := rfl
theorem win_one : winL ⟨9, 9, 20, 20⟩ [(5, ⟨3, 4, 9, 9⟩)] = [5] := by decide +kernel
theorem win_two : winL ⟨10, 9, 20, 20⟩ [(5, ⟨3, 4, 9, 9⟩)] = [] := by decide +kernel
set_option maxRecDepth 100000 in
set_option maxHeartbeats 4000000 in
theorem begun_any (w : World) (c : Int) (wc : (Lit.int .i64 c).wf = true) :
    Calls Tryz.prog 15 #[.int .i64 c] w fun e w' => ∃ G p X n σ, e = .returned (.pointer (some ⟨G, 0, none⟩)) ∧ GameX w' (fun k => k < w.heap.size) G p X n σ (((n - 200) / 4 : Nat) : Int) [(5, ⟨3, 4, 9, 9⟩)] ∧ 256 ≤ n ∧ Below w.heap.size w w' ∧ (n : Int) = 256 + pickI c 1200 ∧ 0 ≤ σ.steps ∧ σ.steps ≤ 5000000000000 := by
  have hpk := pick_eq c 1200 w (by omega) wc
  obtain ⟨r, hre, hr⟩ : ∃ r : Nat, pickI c 1200 = (r : Int) ∧ r < 1200 := by
    have := pickI_lt c 1200 (by omega)
    exact ⟨(pickI c 1200).toNat, by omega, by omega⟩
  have HRE : Hid (pickI c 1200 = (r : Int)) := hre
  rw [hre] at hpk
  clear hre
  go_enter Tryz.func15, Tryz.ntmps15
  go_upto_region 2 with (go_at_call 24; refine hpk.mono ?_; rintro e w9 ⟨rfl, rfl⟩)
  have hnew := qnewd_ok w9 (256 + r) (by omega) (by omega)
  rw [show ((256 + r : Nat) : Int) = 256 + (r : Int) from by omega] at hnew
  go_upto_region 5 with (go_at_call 29; refine hnew.mono ?_; rintro e w1 ⟨A, rfl, hP, hb1⟩)
  have hop := open_on (N := fun k => k < w9.heap.size) (hP.base0) (tr_fresh (256 + r)) idx_nil ⟨rfl, rfl⟩ ⟨fun k hk h => by have := hP.les k hk; omega, fun k hk => by have := hb1.size; omega⟩
  clear hnew hpk
  go_upto_region 8 with (go_at_call 21; refine hop.mono ?_; rintro e w2 ⟨X, rfl, hC2, σ2, hL2, hA2⟩)
  have HA2 : Hid (0 ≤ σ2.steps ∧ σ2.steps ≤ 12000000) := by
    obtain ⟨j, hj, e⟩ := (hA2 (by simp)).eq (show (0 : Int) ≤ 0 from by omega) (show (0 : Int) + _ < _ from by decide)
    have e' : σ2.steps = 0 + (j : Int) := e
    have : (1 + (1 + 15 ^ 6) : Nat) = 11390627 := by decide
    show _ ∧ _
    omega
  clear hA2
  have hs1 := hb1.size
  have hs2 := hC2.size
  have hdv : (256 + (r : Int) - 200) / 4 = ((((256 + r) - 200) / 4 : Nat) : Int) := by omega
  obtain ⟨W3, hW3⟩ : ∃ W3, w2.alloc (.cells #[.pointer (some ⟨A.p, 0, none⟩), .pointer (some ⟨X, 0, none⟩), .slice none 0 0, .int .i64 ((((256 + r) - 200) / 4 : Nat) : Int)] 62) = W3 := ⟨_, rfl⟩
  have hb3 : Below w2.heap.size w2 W3 := by rw [← hW3]; exact (Below.refl _ w2).alloc (Nat.le_refl _) _
  have G3 : Blk W3 w2.heap.size 62 (gameC A.p X (.slice none 0 0) ((((256 + r) - 200) / 4 : Nat) : Int)) := by rw [← hW3]; exact Blk.new w2 62 _
  have HW3 : Hid (w2.alloc (.cells #[.pointer (some ⟨A.p, 0, none⟩), .pointer (some ⟨X, 0, none⟩), .slice none 0 0, .int .i64 ((((256 + r) - 200) / 4 : Nat) : Int)] 62) = W3) := hW3
  have hGX : GameX W3 (fun k => k < w9.heap.size) w2.heap.size A.p X (256 + r) σ2 ((((256 + r) - 200) / 4 : Nat) : Int) [] := ⟨_, G3, ⟨rfl, .inl ⟨rfl, rfl⟩⟩, hL2.below hb3, by omega⟩
  have HB3 : Hid (Below w9.heap.size w9 W3) := (hb1.trans (hC2.keep.lows hs1)).trans (hb3.mono (by omega))
  have hgp := gput_any W3 (fun k => k < w9.heap.size) w2.heap.size A.p X (256 + r) σ2 _ [] hGX 5 (by omega) ⟨3, 4, 9, 9⟩ ⟨by simp, by simp, by simp, by simp⟩ (by simp) (by rw [tput_nil]; simp; omega)
  simp only [boxC] at hgp
  rw [tput_nil] at hgp
  clear hW3 hGX hop hP hL2 hb1 hC2 hb3 G3
  go_upto_region 9 with fail
  have hdv2 : ((256 + r - 200 : Nat) : Int) / 4 = (((256 + r - 200) / 4 : Nat) : Int) := by omega
  rw [hdv2, HW3.out]
  clear hdv hdv2
  go_upto_region 10 with (go_at_call 25; refine hgp.mono ?_; rintro e w4 ⟨rfl, hb4, σ4, hG4, hA4⟩)
  have HB4 : Hid (Below w9.heap.size w9 w4) := HB3.out.trans (hb4.lows HB3.out.size)
  have HA4 : Hid (0 ≤ σ4.steps ∧ σ4.steps ≤ 13000000) := by
    have := HA2.out
    obtain ⟨j, hj, e⟩ := hA4.eq this.1 (by omega)
    show _ ∧ _
    omega
  clear hA4
  obtain ⟨sv, g4, t4, hL4, hbG⟩ := hG4
  have hwn := live_win hL4 (r := ⟨9, 9, 20, 20⟩) ⟨by simp, by simp, by simp, by simp⟩
  rw [win_one] at hwn
  simp only [boxC] at hwn
  have HG4 : Hid (Blk w4 w2.heap.size 62 (gameC A.p X sv ((((256 + r) - 200) / 4 : Nat) : Int))) := g4
  have HT4 : Hid (TabV w4 0 sv [(5, ⟨3, 4, 9, 9⟩)]) := t4
  clear hgp hb4 g4 t4 hL4 HB3 HW3
  go_upto_region 11 with (go_at_call 11; refine hwn.mono ?_; rintro e w5 ⟨lv, rfl, hrow5, hC5, σ5, hL5, hA5⟩; obtain ⟨lg, lc, rfl⟩ := own_int_form (l := [5]) hrow5 (by simp))
  have hwn2 := live_win hL5 (r := ⟨10, 9, 20, 20⟩) ⟨by simp, by simp, by simp, by simp⟩
  rw [win_two] at hwn2
  simp only [boxC] at hwn2
  have HR5 : Hid (w5.ownsRow w4.heap.size 3 1 (.slice (some ⟨lg, 0, none⟩) 1 lc) 1 (intsV [5])) := hrow5
  have HA5 : Hid (0 ≤ σ5.steps ∧ σ5.steps ≤ 2100000000000) := by
    have := HA4.out
    obtain ⟨j, hj, e⟩ := hA5.eq this.1 (by omega)
    show _ ∧ _
    omega
  clear hA5
  have HC5 : Hid (CalmW (fun k => k < w9.heap.size) w4 w5) := hC5
  clear hwn hrow5 hC5 hL5
  go_upto_region 12 with (go_at_call 11; refine hwn2.mono ?_; rintro e w6 ⟨ov, rfl, hrow6, hC6, σ6, hL6, hA6⟩; obtain ⟨oa, oc, rfl, _, _, _⟩ := own_shape hrow6)
  have hr6 := hC6.row HR5.out (by unfold own5; omega)
  have z0 : w6.cell? ⟨lg, 0, none⟩ = some (.int .i64 5) := own_int (l := [5]) hr6 rfl
  have HC6 : Hid (CalmW (fun k => k < w9.heap.size) w4 w6) := HC5.out.trans hC6
  have HA6 : Hid (0 ≤ σ6.steps ∧ σ6.steps ≤ 5000000000000) := by
    have := HA5.out
    obtain ⟨j, hj, e⟩ := hA6.eq this.1 (by omega)
    show _ ∧ _
    omega
  clear hA6
  have HL6 : Hid (LiveX w6 (fun k => k < w9.heap.size) A.p X (256 + r) σ6 [(5, ⟨3, 4, 9, 9⟩)]) := hL6
  clear hwn2 hrow6 hC6 hL6 hr6 HR5 HC5
  go_wp2
  go_ret
  have hs4 := HB4.out.size
  exact ⟨_, A.p, X, 256 + r, σ6, rfl, ⟨sv, HC6.out.blk HG4.out (by unfold own5; omega), HC6.out.row HT4.out (by unfold own5; omega), HL6.out, hbG⟩, by omega, HB4.out.trans (HC6.out.keep.lows hs4), by rw [HRE.out]; omega, HA6.out⟩
end Go.Proofs.YtdgbgmffpcooeaaGreat
end
section
/- Told: the walk. -/
namespace Go.Proofs.YtdgbgmffpcooeaaGreat
open Go.RowKit Go.Lib
structure MvR where
  k : Int
  a : Int
  b : Int
/-- Where the moves of a script lie. -/
structure MAt (w : World) (so : Option Addr) (ls : Nat) (O : Nat → MvR) : Prop where
  at_ : ∀ i, i < ls → ∃ a, so = some a ∧ a.block < w.heap.size ∧ w.cell? (a.add (i * 3)) = some (.int .i64 (O i).k) ∧ w.cell? ⟨(a.add (i * 3)).block, (a.add (i * 3)).off + 1, none⟩ = some (.int .i64 (O i).a) ∧ w.cell? ⟨(a.add (i * 3)).block, (a.add (i * 3)).off + 2, none⟩ = some (.int .i64 (O i).b)
  wf : ∀ i, i < ls → (Lit.int .i64 (O i).k).wf = true ∧ (Lit.int .i64 (O i).a).wf = true ∧ (Lit.int .i64 (O i).b).wf = true
theorem moves_any (w : World) (N : Nat → Prop) (G p X n : Nat) (σ : PS) (tb : List (Int × Box)) (h : GameX w N G p X n σ (((n - 200) / 4 : Nat) : Int) tb) (hrm : tb.length ≤ (n - 200) / 4) (K A B : Int) (wK : (Lit.int .i64 K).wf = true) (wA : (Lit.int .i64 A).wf = true) (wB : (Lit.int .i64 B).wf = true) :
    Calls Tryz.prog 16 #[.pointer (some ⟨G, 0, none⟩), .agg #[.int .i64 K, .int .i64 A, .int .i64 B]] w (MoveP w N G p n σ (pickI K 10 < 8)) := by
  have hp := pickI_lt K 10 (by omega)
  have weak : ∀ (c : Prop) e w', (pickI K 10 < 8 → c) → MoveP w N G p n σ c e w' → MoveP w N G p n σ (pickI K 10 < 8) e w' := fun c e w' hc ⟨h1, h2, X', σ', tb', h3, h4, h5⟩ => ⟨h1, h2, X', σ', tb', h3, h4, fun h => h5 (hc h)⟩
  by_cases h4 : pickI K 10 < 4
  · exact (moves_put w N G p X n σ tb h hrm K A B wK wA wB ⟨hp.1, h4⟩).mono (fun e w' => weak True e w' (fun _ => trivial))
  · by_cases h6 : pickI K 10 < 6
    · exact (moves_del w N G p X n σ tb h hrm K A B wK wA wB ⟨by omega, h6⟩).mono (fun e w' => weak True e w' (fun _ => trivial))
    · by_cases h8 : pickI K 10 < 8
      · exact (moves_get w N G p X n σ tb h hrm K A B wK wA wB ⟨by omega, h8⟩).mono (fun e w' => weak True e w' (fun _ => trivial))
      · by_cases h9 : pickI K 10 = 8
        · exact (moves_win w N G p X n σ tb h hrm K A B wK wA wB h9).mono (fun e w' => weak False e w' (fun h => by omega))
        · exact (moves_open w N G p X n σ tb h hrm K A B wK wA wB (by omega)).mono (fun e w' => weak False e w' (fun h => by omega))
end Go.Proofs.YtdgbgmffpcooeaaGreat
end
