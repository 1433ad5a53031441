/- Cz1 -/
import Derived.Test.YtdgbgmffpcooeaaGreatC53
section
/- Cheap: the walk. -/
namespace Go.Proofs.YtdgbgmffpcooeaaGreat
open Go.RowKit Go.Lib
theorem live_steps {w : World} {N : Nat → Prop} {p X n : Nat} {σ : PS} {tb : List (Int × Box)} (h : LiveX w N p X n σ tb) :
    Calls Tryz.prog 27 #[.pointer (some ⟨p, 0, none⟩)] w fun e w' => e = .returned (.tuple #[.int .i64 σ.steps, .int .i64 0]) ∧ w' = w := by
  obtain ⟨A, x, t, f, fr, root, es, us, rfl, h2, h3, h4, h5⟩ := h
  have cp : w.cell? ⟨A.p, 0, none⟩ = some (.pointer (some ⟨A.q, 0, none⟩)) := h4.pd.blkP.cell 0
  have hcon := psteps_any w 0 A σ h4.pd
  clear h2 h3 h4 h5
  go_enter Tryz.func27, Tryz.ntmps27
  go_wp2_with (go_at_call 55; refine hcon.mono ?_; rintro e w1 ⟨rfl, rfl⟩)
  go_ret2
  exact ⟨rfl, rfl⟩
theorem pickI_small (z : Int) (h : 0 ≤ z ∧ z < 8) : pickI z 10 = z := by
  unfold pickI
  rw [if_neg (by omega)]
  omega
set_option maxRecDepth 100000 in
set_option maxHeartbeats 8000000 in
theorem cheap_any (w : World) (c : Int) (hwc : (Lit.int .i64 c).wf = true) (so : Option Addr) (ls cs : Nat) (O : Nat → MvR) (hO : MAt w so ls O) (hls : ls ≤ 1048576) :
    Calls Tryz.prog 7 #[.int .i64 c, .slice so ls cs] w fun e w' => e = .returned (.bool true) ∧ Below w.heap.size w w' := by
  have hbg := begun_any w 1000 (WalkArith.wf_i64 (by omega))
  have e1000 : pickI 1000 1200 = 1000 := by decide
  rw [e1000] at hbg
  go_enter Tryz.func7, Tryz.ntmps7
  go_upto_region 2 with (go_at_call 15; refine hbg.mono ?_; rintro e w1 ⟨G, p, X, n, σ, rfl, hG1, hn, hb1, hn2, hst⟩)
  have hn3 : n = 1256 := by omega
  subst hn3
  have hpk := pick_any c 250 w1 (by omega) hwc
  rw [show ((250 : Nat) : Int) = 250 from rfl] at hpk
  have HB1 : Hid (Below w.heap.size w w1) := hb1
  have HG1 : Hid (GameX w1 (fun k => k < w.heap.size) G p X 1256 σ ((264 : Nat) : Int) [(5, ⟨3, 4, 9, 9⟩)]) := hG1
  have HST : Hid (0 ≤ σ.steps ∧ σ.steps ≤ 5000000000000) := hst
  clear hbg hb1 hG1 hn hn2 hst e1000
  go_upto_region 5 with (go_at_call 24; refine hpk.mono ?_; rintro e w9 ⟨⟨m, hm, rfl⟩, rfl⟩)
  clear hpk
  go_wp2
  go_loopw [7] (fun x wr => ∃ (i : Nat) (σ : PS) (tb : List (Int × Box)), x = .int .i64 (i : Int) ∧ i ≤ m ∧ GameX wr (fun k => k < w.heap.size) G p X 1256 σ ((264 : Nat) : Int) tb ∧ tb.length ≤ i + 1 ∧ Below w.heap.size w wr ∧ (0 ≤ σ.steps ∧ σ.steps ≤ 5000000000000 + 400 * (i : Int))) (fun x _ => m - (intOf x).toNat)
  case atStart => exact ⟨0, σ, _, rfl, Nat.zero_le _, HG1.out, by simp, HB1.out, by have := HST.out; omega⟩
  case round =>
    obtain ⟨i, σ, tb, rfl, hi, hG, hrm, hb, hst⟩ := hrel
    have HB : Hid (Below w.heap.size w wr) := hb
    have HSt : Hid (0 ≤ σ.steps ∧ σ.steps ≤ 5000000000000 + 400 * (i : Int)) := hst
    clear HB1 HG1 HST hst
    by_cases hlt : i < m
    · have hlt' : (i : Int) < (m : Int) := by omega
      have hrc := rect_any wr ((i : Int) * 104729 + 17) (WalkArith.wf_i64 (by omega))
      have HGw : Hid (GameX wr (fun k => k < w.heap.size) G p X 1256 σ ((264 : Nat) : Int) tb) := hG
      have HU : Hid (Ups tb) := by obtain ⟨_, _, _, hL, _⟩ := hG; exact hL.up.1
      have HLEN : Hid (∀ v, (tput (1000 + (i : Int) * 7919 % 1000) v tb).length ≤ i + 1 + 1) := fun v => by
        cases hg : tget (1000 + (i : Int) * 7919 % 1000) tb with
        | none => rw [tput_len_new hg]; omega
        | some v0 => rw [tput_len HU.out hg]; omega
      clear hG hb
      go_wp2_with (first
        | (go_at_call 26; refine hrc.mono ?_; rintro e w2 ⟨⟨v, hv, rfl⟩, hb2⟩; have hgp := gput_any w2 (fun k => k < w.heap.size) G p X 1256 σ _ tb (HGw.out.below hb2) (1000 + (i : Int) * 7919 % 1000) (by omega) v hv (by omega) (by have := HLEN.out v; omega))
        | (go_at_call 25; refine hgp.mono ?_; rintro e w3 ⟨rfl, hk3, σ3, hG3, hA3⟩))
      refine ⟨⟨i + 1, σ3, _, by go_num, by omega, hG3, by have := HLEN.out v; omega, (HB.out.trans (hb2.mono HB.out.size)).trans (hk3.lows (by have := HB.out.size; have := hb2.size; omega)), ?_⟩, by simp [intOf]; omega⟩
      have h8 := HSt.out
      obtain ⟨j, hj, e⟩ := hA3.eq h8.1 (by omega)
      omega
    · have hlt' : ¬ (i : Int) < (m : Int) := by omega
      have HG2 : Hid (GameX wr (fun k => k < w.heap.size) G p X 1256 σ ((264 : Nat) : Int) tb) := hG
      clear hG hb
      have hbs : w.heap.size ≤ wr.heap.size := HB.out.size
      go_wp2
      go_loopw [9] (fun x wr => ∃ (i X : Nat) (σ : PS) (tb : List (Int × Box)), x = .int .i64 (i : Int) ∧ i ≤ ls ∧ GameX wr (fun k => k < w.heap.size) G p X 1256 σ (((1256 - 200) / 4 : Nat) : Int) tb ∧ tb.length ≤ (1256 - 200) / 4 ∧ Below w.heap.size w wr ∧ (0 ≤ σ.steps ∧ σ.steps ≤ 5000000000000 + 400 * 250 + 400 * (i : Int))) (fun x _ => ls - (intOf x).toNat)
      case atStart => exact ⟨0, X, σ, tb, rfl, Nat.zero_le _, HG2.out, by omega, HB.out, by have := HSt.out; omega⟩
      case round =>
        clear HB HSt HG2 hrm hi hlt hlt' hbs
        obtain ⟨i, X, σ, tb, rfl, hi, hG, hrm, hb, hst⟩ := hrel
        have HB : Hid (Below w.heap.size w wr) := hb
        have HSt : Hid (0 ≤ σ.steps ∧ σ.steps ≤ 5000000000000 + 400 * 250 + 400 * (i : Int)) := hst
        by_cases hlt : i < ls
        · have hlt' : (i : Int) < (ls : Int) := by omega
          obtain ⟨a, rfl, hab, q0, q1, q2⟩ := hO.at_ i hlt
          obtain ⟨v0, v1, v2⟩ := hO.wf i hlt
          have hbk : (a.add (i * 3)).block = a.block := by unfold Addr.add; split <;> rfl
          have r0 : wr.cell? (a.add (i * 3)) = some (.int .i64 (O i).k) := (hb.cell (p := a.add (i * 3)) (by rw [hbk]; exact hab)).trans q0
          have r1 : wr.cell? ⟨(a.add (i * 3)).block, (a.add (i * 3)).off + 1, none⟩ = some (.int .i64 (O i).a) := (hb.cell (p := ⟨(a.add (i * 3)).block, (a.add (i * 3)).off + 1, none⟩) (by show (a.add (i * 3)).block < _; rw [hbk]; exact hab)).trans q1
          have r2 : wr.cell? ⟨(a.add (i * 3)).block, (a.add (i * 3)).off + 2, none⟩ = some (.int .i64 (O i).b) := (hb.cell (p := ⟨(a.add (i * 3)).block, (a.add (i * 3)).off + 2, none⟩) (by show (a.add (i * 3)).block < _; rw [hbk]; exact hab)).trans q2
          have cG : wr.cell? ⟨G, 0, none⟩ = some (.pointer (some ⟨p, 0, none⟩)) := by obtain ⟨_, g1, _⟩ := hG; exact g1.cell 0
          have hs1 := live_steps (w := wr) (by obtain ⟨_, _, _, hL, _⟩ := hG; exact hL)
          have hpk := pick_any (O i).k 8 wr.drew (by omega) v0
          rw [show ((8 : Nat) : Int) = 8 from rfl] at hpk
          have HM : Hid (∀ k : Nat, k < 8 → Calls Tryz.prog 16 #[.pointer (some ⟨G, 0, none⟩), .agg #[.int .i64 (k : Int), .int .i64 (O i).a, .int .i64 (O i).b]] wr.drew (MoveP wr.drew (fun k => k < w.heap.size) G p 1256 σ True)) := fun k hk => by
            refine (moves_any wr.drew (fun k => k < w.heap.size) G p X 1256 σ tb (hG.below (Below.drew (Below.refl _ _))) hrm (k : Int) (O i).a (O i).b (WalkArith.wf_i64 (by omega)) v1 v2).mono ?_
            rintro e w' ⟨h1, h2, X', σ', tb', h3, h4, h5⟩
            exact ⟨h1, h2, X', σ', tb', h3, h4, fun _ => h5 (by rw [pickI_small _ ⟨by omega, by omega⟩]; omega)⟩
          have KEEPS : Hid (∀ W', Keep (fun k => k < w.heap.size) wr.drew W' → W'.cell? (a.add (i * 3)) = some (.int .i64 (O i).k) ∧ W'.cell? ⟨(a.add (i * 3)).block, (a.add (i * 3)).off + 1, none⟩ = some (.int .i64 (O i).a) ∧ W'.cell? ⟨(a.add (i * 3)).block, (a.add (i * 3)).off + 2, none⟩ = some (.int .i64 (O i).b)) := fun W' hk => by
            have e : ∀ q : Addr, q.block = a.block → W'.cell? q = wr.cell? q := fun q hq => (hk.lows (show w.heap.size ≤ wr.drew.heap.size from HB.out.size)).cell (by rw [hq]; exact hab)
            exact ⟨(e _ hbk).trans r0, (e ⟨(a.add (i * 3)).block, (a.add (i * 3)).off + 1, none⟩ hbk).trans r1, (e ⟨(a.add (i * 3)).block, (a.add (i * 3)).off + 2, none⟩ hbk).trans r2⟩
          clear hbk q0 q1 q2 v0 v1 v2 hG hb hst hrm
          go_upto_region 15 with (go_at_call 27; refine hs1.mono ?_; rintro e w2 ⟨rfl, rfl⟩)
          go_region_held3 (fun W' => W'.cell? (a.add (i * 3)) = some (.int .i64 (O i).k) ∧ W'.cell? ⟨(a.add (i * 3)).block, (a.add (i * 3)).off + 1, none⟩ = some (.int .i64 (O i).a) ∧ W'.cell? ⟨(a.add (i * 3)).block, (a.add (i * 3)).off + 2, none⟩ = some (.int .i64 (O i).b))
            (first
              | exact ⟨r0, r1, r2⟩
              | exact KEEPS.out _ hk4
              | go_keep)
            (first
              | (go_at_call 24; refine hpk.mono ?_; rintro e w3 ⟨⟨k, hk, rfl⟩, rfl⟩; have hmv := HM.out k hk)
              | (go_at_call 16; refine hmv.mono ?_; rintro e w4 ⟨rfl, hk4, X4, σ4, tb4, hG4, hrm4, hA4⟩))
          have cG4 : w4.cell? ⟨G, 0, none⟩ = some (.pointer (some ⟨p, 0, none⟩)) := by obtain ⟨_, g1, _⟩ := hG4; exact g1.cell 0
          have hs4 := live_steps (w := w4) (by obtain ⟨_, _, _, hL, _⟩ := hG4; exact hL)
          obtain ⟨d1, d2, d3, d4⟩ : 0 ≤ σ.steps ∧ σ.steps ≤ 5000000500000000 ∧ σ.steps ≤ σ4.steps ∧ σ4.steps - σ.steps ≤ 400 := by
            have h8 := HSt.out
            obtain ⟨j, hj, e⟩ := (hA4 trivial).eq h8.1 (by omega)
            omega
          have HG4 : Hid (GameX w4 (fun k => k < w.heap.size) G p X4 1256 σ4 (((1256 - 200) / 4 : Nat) : Int) tb4) := hG4
          clear hG4 hA4 hpk hs1
          go_wp2_with (go_at_call 27; refine hs4.mono ?_; rintro e w5 ⟨rfl, rfl⟩)
          refine ⟨⟨i + 1, X4, σ4, tb4, by go_num, by omega, HG4.out, hrm4, (HB.out.drew).trans (hk4.lows HB.out.size), ?_⟩, by simp [intOf]; omega⟩
          have h8 := HSt.out
          omega
        · have hlt' : ¬ (i : Int) < (ls : Int) := by omega
          clear hG
          go_wp2
          go_ret
          exact ⟨rfl, HB.out⟩
end Go.Proofs.YtdgbgmffpcooeaaGreat
end
