/- The walk of Disks. -/
import Derived.Test.YtdgbgmffpcooeaaQ6b
import Derived.Deep.CutBlock
namespace Go.Proofs.Ytdgbgmffpcooeaa
open Go.RowKit Go.Lib Go.Maps

set_option maxRecDepth 100000 in
set_option maxHeartbeats 4000000 in
theorem disks_any (w : World) (so : Option Addr) (ls cs : Nat) (O : Nat → OpR) (hO : OAt w so ls O) (hls : ls ≤ 1048576) :
    Calls Try.prog 6 #[.slice so ls cs] w fun e w' => e = .returned (.bool true) ∧ Below w.heap.size w w' := by
  obtain ⟨i55, hi55, hz55a, hz55b, hz55c⟩ := info_parts info55
  go_enter Try.func6, Try.ntmps6
  go_upto_region 2 with (go_at_call 19; refine (keeps_ok w).mono ?_; rintro e w1 ⟨rfl, hb1⟩)
  go_wp2
  go_loopw [4, 5] (fun v x wr => ∃ (i : Nat) (L : List Duo), x = .int .i64 (i : Int) ∧ i ≤ ls ∧ L.length ≤ i ∧ wr.ownsRow w.heap.size 55 2 v L.length (flat2 L) ∧ (∀ e ∈ L, Two wr w.heap.size (2 * i) e) ∧ (L.Pairwise fun a b => ∀ j, a.F j → ¬ b.F j) ∧ (∀ j, v.ownBlock = some j → ∀ e ∈ L, ¬ e.F j) ∧ Below w.heap.size w wr) (fun _ x _ => ls - (intOf x).toNat)
  case atStart => exact ⟨0, [], rfl, by omega, by simp, World.ownsRow_nil _ _ _ _, by simp, List.Pairwise.nil, by simp, hb1⟩
  case round =>
    obtain ⟨i, L, rfl, hi, hL, hrow, htw, hpw, hvF, hB⟩ := hrel
    clear hb1
    by_cases hlt : i < ls
    · have hlt' : (i : Int) < (ls : Int) := by omega
      obtain ⟨a, ha, hab, q0, q1, q2, q3, q4, q5, q6, q7, q8⟩ := hO.at_ i hlt
      subst ha
      have hblk : (a.add (i * 9)).block = a.block := by unfold Addr.add; split <;> rfl
      have m0 := (hB.cell (p := a.add (i * 9)) (by rw [hblk]; exact hab)).trans q0
      have mt : ∀ t, wr.cell? ⟨(a.add (i * 9)).block, (a.add (i * 9)).off + t, none⟩ = w.cell? ⟨(a.add (i * 9)).block, (a.add (i * 9)).off + t, none⟩ := fun t => hB.cell (p := ⟨(a.add (i * 9)).block, (a.add (i * 9)).off + t, none⟩) (by simp only; rw [hblk]; exact hab)
      have m1 := (mt 1).trans q1
      have m2 := (mt 2).trans q2
      have m3 := (mt 3).trans q3
      have m4 := (mt 4).trans q4
      have m5 := (mt 5).trans q5
      have m6 := (mt 6).trans q6
      have m7 := (mt 7).trans q7
      have m8 := (mt 8).trans q8
      have hwd := hO.wd_ i hlt
      have had := hO.ad_ i hlt
      have hsd := hO.sd_ i hlt
      have hlk := hO.lk_ i hlt
      obtain ⟨K, hKA⟩ := hO.kat i hlt
      generalize O i = o at m0 m1 m2 m3 m4 m5 m6 m7 m8 hwd had hsd hlk hKA
      obtain ⟨kd, wd, ad, sd, ak, lk, ck, r1, r2, r3, r4⟩ := o
      simp only at m0 m1 m2 m3 m4 m5 m6 m7 m8 hwd had hsd hlk hKA
      clear q0 q1 q2 q3 q4 q5 q6 q7 q8 mt hO hblk
      have HTW : Hid _ := htw
      have HPW : Hid _ := hpw
      have HVF : Hid _ := hvF
      clear htw hpw hvF
      go_upto_block 2 with fail
      have hbe : Below wr.heap.size wr ((wr.alloc (.cells #[.int .i64 kd, .int .i64 wd, .int .i64 ad, .string sd, .slice ak lk ck, .int .i64 r1, .int .i64 r2, .int .i64 r3, .int .i64 r4] 51)).alloc (.cells #[.pointer none, .pointer none] 55)) := ((Below.refl _ _).alloc (Nat.le_refl _) _).alloc (by simp) _
      have hb6 := (Blk.new wr 51 #[.int .i64 kd, .int .i64 wd, .int .i64 ad, .string sd, .slice ak lk ck, .int .i64 r1, .int .i64 r2, .int .i64 r3, .int .i64 r4]).alloc (.cells #[.pointer none, .pointer none] 55)
      have hb8 := Blk.new (wr.alloc (.cells #[.int .i64 kd, .int .i64 wd, .int .i64 ad, .string sd, .slice ak lk ck, .int .i64 r1, .int .i64 r2, .int .i64 r3, .int .i64 r4] 51)) 55 #[.pointer none, .pointer none]
      simp only [World.size_alloc] at hb8
      obtain ⟨b6, hbb6⟩ : ∃ b, wr.heap.size = b := ⟨_, rfl⟩
      obtain ⟨b8, hbb8⟩ : ∃ b, b6 + 1 = b := ⟨_, rfl⟩
      obtain ⟨w1', hw1⟩ : ∃ w1, (wr.alloc (.cells #[.int .i64 kd, .int .i64 wd, .int .i64 ad, .string sd, .slice ak lk ck, .int .i64 r1, .int .i64 r2, .int .i64 r3, .int .i64 r4] 51)).alloc (.cells #[.pointer none, .pointer none] 55) = w1 := ⟨_, rfl⟩
      rw [hw1] at hbe hb6 hb8 ⊢
      rw [hbb6] at hb6 hb8 ⊢
      rw [hbb8] at hb8 ⊢
      have htw1 : ∀ e ∈ L, Two w1' w.heap.size (2 * i) e := fun e he => (HTW.out e he).off (Nat.le_refl _) (Off.of_below (F := fun _ => False) hbe) (fun _ _ h => h)
      have hrow1 := own_below hrow hbe
      have hB1 := hB.trans (hbe.mono hB.size)
      have hlt6 : ∀ j, (∃ e ∈ L, e.F j) → j < b6 := fun j ⟨e, he, hj⟩ => by have := ((HTW.out e he).lt j hj).2; omega
      have hle6 : w.heap.size ≤ b6 := by have := hB.size; omega
      have hvl : ∀ j, u4.ownBlock = some j → j < b8 := fun j hj => by
        obtain ⟨_, cs', hh⟩ := own_tagged hrow hj
        have := (Array.getElem?_eq_some_iff.1 hh).1
        omega
      have hD : Dsk w i b8 u4 L w1' := ⟨hb8, htw1, hrow1, hL, HPW.out, HVF.out, fun e he j hj => (by have := hlt6 j ⟨e, he, hj⟩; omega), hvl, by omega, hB1⟩
      have hKA1 : KAt w1' ak lk K := hKA.off (Off.of_below (F := fun _ => False) hB1) (fun _ _ _ h => h)
      have HKW : Hid (KAt w ak lk K) := hKA
      have HEF : Hid (∀ e ∈ L, ∀ t, e.F t → t < b6) := fun e he t ht => hlt6 t ⟨e, he, ht⟩
      have h68 : b6 < b8 := by omega
      have hwB : w.heap.size ≤ b6 := hle6
      clear hw1 hbb6 hbb8 htw1 hlt6 HTW hrow hB hbe m0 m1 m2 m3 m4 m5 m6 m7 m8 hvl hrow1 hb8 hB1 HPW HVF hKA hle6
      obtain ⟨av, capv, hvs, _, hvm, _⟩ := own_shape hD.row
      subst hvs
      have HD : Hid (Dsk w i b8 (.slice av L.length capv) L w1') := hD
      have HKA : Hid _ := hKA1
      clear hD hKA1
      go_cut [4, 7] (fun v' ok wx => ok = .bool true ∧ Join w i b8 v' wx)
      case first =>
        have c60 : w1'.cell? ⟨b6, 0, none⟩ = some (.int .i64 kd) := hb6.cell 0
        have c61 : w1'.cell? ⟨b6, 1, none⟩ = some (.int .i64 wd) := hb6.cell 1
        have c62 : w1'.cell? ⟨b6, 2, none⟩ = some (.int .i64 ad) := hb6.cell 2
        have c63 : w1'.cell? ⟨b6, 3, none⟩ = some (.string sd) := hb6.cell 3
        by_cases k1 : kd = 1
        · subst k1
          clear hvm
          by_cases hnew : ad < 256 ∨ 4096 < ad
          · have hq := qnewd_no w1' ad hnew
            have hr := rnew_no w1' ad hnew
            have e80 : w1'.cell? ⟨b8, 0, none⟩ = some (.pointer none) := HD.out.hb8.cell 0
            have e81 : w1'.cell? ⟨b8, 1, none⟩ = some (.pointer none) := HD.out.hb8.cell 1
            have f80 : w1'.frozen? ⟨b8, 0, none⟩ = false := HD.out.hb8.frozen 0
            have f81 : w1'.frozen? ⟨b8, 1, none⟩ = false := HD.out.hb8.frozen 1
            clear hnew
            go_wp2_with (first
              | (go_at_call 20; refine hq.mono ?_; rintro e w2 ⟨rfl, hw2⟩; subst hw2)
              | (go_at_call 21; refine hr.mono ?_; rintro e w3 ⟨rfl, hw3⟩; subst hw3))
            go_meet
            case rel => exact ⟨by simp, HD.out.stillborn⟩
          · obtain ⟨n, rfl⟩ : ∃ n : Nat, ad = n := ⟨ad.toNat, by omega⟩
            have hq := qnewd_ok w1' n (by omega) (by omega)
            have hr := fun W => rnew_ok W n (by omega) (by omega)
            clear hnew
            go_wp2_with (first
              | (go_at_call 20; refine hq.mono ?_; rintro e w2 ⟨A, rfl, hP2, hb2⟩; have c62' : w2.cell? ⟨b6, 2, none⟩ = some (.int .i64 (n : Int)) := (hb6.below hb2 hb6.lt).cell 2)
              | (go_at_call 21; refine (hr w2).mono ?_; rintro e w3 ⟨B, rfl, hR3, hb3⟩; have hB3 := hb2.trans (hb3.mono hb2.size); have hb83 := HD.out.hb8.below hB3 HD.out.hb8.lt; have e80 : w3.cell? ⟨b8, 0, none⟩ = some (.pointer none) := hb83.cell 0; have e81 : w3.cell? ⟨b8, 1, none⟩ = some (.pointer none) := hb83.cell 1; have f80 : w3.frozen? ⟨b8, 0, none⟩ = false := hb83.frozen 0; have f81 : w3.frozen? ⟨b8, 1, none⟩ = false := hb83.frozen 1))
            go_meet
            case rel => exact ⟨by simp, HD.out.born hB3 (hP2.below hb3) (fun j hj => (hP2.lt j hj).2) hR3 hb2.size (rel_new n)⟩
        · have k1b : (kd == 1) = false := by simp [k1]
          by_cases k2 : kd = 2
          · subst k2
            clear k1 k1b hvm
            by_cases hnew : sd.size % 256 = 0 ∧ 256 ≤ sd.size / 256 ∧ sd.size / 256 ≤ 4096
            · obtain ⟨n, hn⟩ : ∃ n, sd.size / 256 = n := ⟨_, rfl⟩
              have hq := qload_ok w1' sd n (by omega) (by omega) (by omega)
              have hr := fun W => rload_ok W sd n (by omega) (by omega) (by omega)
              have hrl := rel_load sd n (by omega)
              have HRL : Hid _ := hrl
              clear hnew hrl hn hsd
              go_wp2_with (first
                | (go_at_call 22; refine hq.mono ?_; rintro e w2 ⟨A, rfl, hP2, hb2⟩; have c63' : w2.cell? ⟨b6, 3, none⟩ = some (.string sd) := (hb6.below hb2 hb6.lt).cell 3)
                | (go_at_call 23; refine (hr w2).mono ?_; rintro e w3 ⟨B, rfl, hR3, hb3⟩; have hB3 := hb2.trans (hb3.mono hb2.size); have hb83 := HD.out.hb8.below hB3 HD.out.hb8.lt; have e80 : w3.cell? ⟨b8, 0, none⟩ = some (.pointer none) := hb83.cell 0; have e81 : w3.cell? ⟨b8, 1, none⟩ = some (.pointer none) := hb83.cell 1; have f80 : w3.frozen? ⟨b8, 0, none⟩ = false := hb83.frozen 0; have f81 : w3.frozen? ⟨b8, 1, none⟩ = false := hb83.frozen 1))
              go_meet
              case rel => exact ⟨by simp, HD.out.born hB3 (hP2.below hb3) (fun j hj => (hP2.lt j hj).2) hR3 hb2.size HRL.out⟩
            · have hq := qload_no w1' sd (by omega) hnew
              have hr := rload_no w1' sd (by omega) hnew
              have e80 : w1'.cell? ⟨b8, 0, none⟩ = some (.pointer none) := HD.out.hb8.cell 0
              have e81 : w1'.cell? ⟨b8, 1, none⟩ = some (.pointer none) := HD.out.hb8.cell 1
              have f80 : w1'.frozen? ⟨b8, 0, none⟩ = false := HD.out.hb8.frozen 0
              have f81 : w1'.frozen? ⟨b8, 1, none⟩ = false := HD.out.hb8.frozen 1
              clear hnew hsd
              go_wp2_with (first
                | (go_at_call 22; refine hq.mono ?_; rintro e w2 ⟨rfl, hw2⟩; subst hw2)
                | (go_at_call 23; refine hr.mono ?_; rintro e w3 ⟨rfl, hw3⟩; subst hw3))
              go_meet
              case rel => exact ⟨by simp, HD.out.stillborn⟩
          · have k2b : (kd == 2) = false := by simp [k2]
            by_cases k3 : kd = 3
            · subst k3
              clear k1 k1b k2 k2b
              have hrow := HD.out.row
              have hsz := HD.out.bl.size
              have hlen := HD.out.len
              have e80 : w1'.cell? ⟨b8, 0, none⟩ = some (.pointer none) := HD.out.hb8.cell 0
              have e81 : w1'.cell? ⟨b8, 1, none⟩ = some (.pointer none) := HD.out.hb8.cell 1
              go_wp2_with (at_builtin; refine wpList_append_lies _ rfl (.tmp 99) (.tmp 101) 49 rfl w.heap.size 55 i55 _ 2 16 Try.underlying49 hi55 hz55a hz55b hz55c rfl (by omega) _ L.length _ rfl (hrow.alloc _) ⟨w1'.heap.size, 0, none⟩ 1 1 [.pointer none, .pointer none] rfl rfl (World.news_of_block (cs := #[.pointer none, .pointer none]) (t := 55) (fr := (0, 0)) (heap_alloc_new w1' _)) (by simp [Value.oneCell']) (by omega) (by unfold maxLen; omega) (by omega) (by simp; omega) (w1'.heap.size + 1) (by simp) ?_; intro gC capC w2 hC2 hgC hatC hltC)
              go_meet
              case rel =>
                exact ⟨by simp, HD.out.more_nil hgC hatC hC2⟩
            · have k3b : (kd == 3) = false := by simp [k3]
              by_cases hL0 : L.length = 0
              · have t1 : decide ((0 : Int) < (L.length : Int)) = false := decide_eq_false (by omega)
                have t2 : decide (0 < L.length) = false := decide_eq_false (by omega)
                clear hL0 hvm
                go_wp2
                go_meet
                case rel => exact ⟨by simp, HD.out.idle⟩
              · have hLp : (0 : Int) < (L.length : Int) := by omega
                have hLp' : 0 < L.length := by omega
                clear hL0
                obtain ⟨gv, cv, hev, hgw, hglt⟩ := HD.out.row.form (by omega)
                cases hev
                obtain ⟨j, hj⟩ : ∃ j, pickN wd L.length = j := ⟨_, rfl⟩
                have hjl : j < L.length := by rw [← hj]; exact pickN_lt wd L.length hLp'
                have hpk := fun W => pick_eq2 W wd L.length hLp' (by have := HD.out.len; omega) hwd
                rw [hj] at hpk
                have HPK : Hid _ := hpk
                clear hj hpk
                have hjl' : (j : Int) < (L.length : Int) := by omega
                obtain ⟨y0, y1⟩ := get_flat2 L j hjl
                have p0 := (own_cell HD.out.row (j * 2) (by omega)).1.trans y0
                have p1 := (own_cell HD.out.row (j * 2 + 1) (by omega)).1.trans y1
                clear y0 y1
                have htwj := HD.out.tw _ (List.getElem_mem hjl)
                obtain ⟨Ej, hEj⟩ : ∃ e, L[j] = e := ⟨_, rfl⟩
                rw [hEj] at p0 p1 htwj
                have HEJ : Hid (L[j] = Ej) := hEj
                clear hEj
                by_cases k11 : kd = 11
                · subst k11
                  clear k1 k1b k2 k2b k3 k3b hvm
                  rcases htwj with ⟨ex, ey, _⟩ | ⟨A0, s0, B0, r0, ex, ey, hP0, hR0, hrel0, _⟩
                  · rw [ey] at p1
                    have him := rimage_nil w1'
                    have hq := qload_no w1' ⟨#[]⟩ (by show 0 ≤ _; omega) (by intro h; have := h.2.1; simp [ByteArray.size] at this)
                    have hr := rload_no w1' ⟨#[]⟩ (by show 0 ≤ _; omega) (by intro h; have := h.2.1; simp [ByteArray.size] at this)
                    have e80 : w1'.cell? ⟨b8, 0, none⟩ = some (.pointer none) := HD.out.hb8.cell 0
                    have e81 : w1'.cell? ⟨b8, 1, none⟩ = some (.pointer none) := HD.out.hb8.cell 1
                    have f80 : w1'.frozen? ⟨b8, 0, none⟩ = false := HD.out.hb8.frozen 0
                    have f81 : w1'.frozen? ⟨b8, 1, none⟩ = false := HD.out.hb8.frozen 1
                    clear ex ey
                    go_wp2_with (first
                      | (go_at_call 24; refine (HPK.out w1').mono ?_; rintro e wp ⟨rfl, hwp⟩; subst hwp)
                      | (go_at_call 25; refine him.mono ?_; rintro e wi ⟨rfl, hwi⟩; subst hwi)
                      | (go_at_call 22; refine hq.mono ?_; rintro e w2 ⟨rfl, hw2⟩; subst hw2)
                      | (go_at_call 23; refine hr.mono ?_; rintro e w3 ⟨rfl, hw3⟩; subst hw3))
                    go_meet
                    case rel => exact ⟨by simp, HD.out.stillborn⟩
                  · rw [ey] at p1
                    have him := rimage_any w1' _ B0 r0 hR0 hrel0.sizeS
                    have hls' := length_joined r0.safe r0.n hrel0.sizeS
                    obtain ⟨im, him0⟩ : ∃ b : ByteArray, (⟨(joined r0.safe r0.n).toArray⟩ : ByteArray) = b := ⟨_, rfl⟩
                    have hims : im.size = r0.n * 256 := by rw [← him0, ← hls']; show (joined r0.safe r0.n).toArray.size = _; simp
                    rw [him0] at him
                    have hq := fun W => qload_ok W im r0.n hims hR0.n1 hR0.n2
                    have hr := fun W => rload_ok W im r0.n hims hR0.n1 hR0.n2
                    have HQ : Hid _ := hq
                    have HRR : Hid _ := hr
                    have HRL : Hid _ := rel_load im r0.n hims
                    clear ex ey hq hr hls' him0 hims hP0 hR0 hrel0
                    go_wp2_with (first
                      | (go_at_call 24; refine (HPK.out w1').mono ?_; rintro e wp ⟨rfl, hwp⟩; subst hwp)
                      | (go_at_call 25; refine him.mono ?_; rintro e wi ⟨rfl, hbi⟩; have hDi := HD.out.off (F := fun _ => False) (Off.of_below hbi) (fun _ hh => hh.elim); have HDI : Hid (Dsk w i b8 _ L wi) := hDi; clear hDi)
                      | (go_at_call 22; refine (HQ.out wi).mono ?_; rintro e w2 ⟨A, rfl, hP2, hb2⟩)
                      | (go_at_call 23; refine (HRR.out w2).mono ?_; rintro e w3 ⟨B, rfl, hR3, hb3⟩; have hB3 := hb2.trans (hb3.mono hb2.size); have hb83 := HDI.out.hb8.below hB3 HDI.out.hb8.lt; have e80 : w3.cell? ⟨b8, 0, none⟩ = some (.pointer none) := hb83.cell 0; have e81 : w3.cell? ⟨b8, 1, none⟩ = some (.pointer none) := hb83.cell 1; have f80 : w3.frozen? ⟨b8, 0, none⟩ = false := hb83.frozen 0; have f81 : w3.frozen? ⟨b8, 1, none⟩ = false := hb83.frozen 1))
                    go_meet
                    case rel => exact ⟨by simp, HDI.out.born hB3 (hP2.below hb3) (fun j hj => (hP2.lt j hj).2) hR3 hb2.size HRL.out⟩
                · have k11b : (kd == 11) = false := by simp [k11]
                  by_cases k4 : 4 ≤ kd
                  · by_cases k10 : kd ≤ 10
                    · clear hvm
                      have hout : ∀ a, ak = some a → 0 < lk → a.block < w.heap.size := fun a ha h0 => by
                        obtain ⟨a', ha', hb', _⟩ := HKW.out.at_ 0 h0
                        rw [ha] at ha'; cases ha'; exact hb'
                      have hkk : 2 * i ≤ 1048576 * 8 := by omega
                      have hdo := does_any w1'.drew w.heap.size (2 * i) Ej (htwj.off (Nat.le_refl _) ((Off.refl (fun _ => False) w1').drew) (fun _ _ h => h)) hkk kd k4 k10 wd ad had.2 sd ak lk ck K (HKA.out.off ((Off.refl (fun _ => False) w1').drew) (fun _ _ _ h => h)) hlk hout r1 r2 r3 r4
                      have hDd := HD.out.off ((Off.refl (fun _ => False) w1').drew) (fun _ hh => hh.elim)
                      have HDD : Hid (Dsk w i b8 _ L w1'.drew) := hDd
                      have HPK2 := HPK
                      unfold opV at hdo
                      have hEF : ∀ t, Ej.F t → t < b6 := HEF.out Ej (by rw [← HEJ.out]; exact List.getElem_mem hjl)
                      have c64 : w1'.cell? ⟨b6, 4, none⟩ = some (.slice ak lk ck) := hb6.cell 4
                      have c65 : w1'.cell? ⟨b6, 5, none⟩ = some (.int .i64 r1) := hb6.cell 5
                      have c66 : w1'.cell? ⟨b6, 6, none⟩ = some (.int .i64 r2) := hb6.cell 6
                      have c67 : w1'.cell? ⟨b6, 7, none⟩ = some (.int .i64 r3) := hb6.cell 7
                      have c68 : w1'.cell? ⟨b6, 8, none⟩ = some (.int .i64 r4) := hb6.cell 8
                      have hgF : ¬ Ej.F gv := HD.out.vF gv rfl Ej (by rw [← HEJ.out]; exact List.getElem_mem hjl)
                      have hrd := HDD.out.row
                      clear hDd htwj hkk hout
                      go_upto_region 30 with (fail)
                      go_region_held3 (fun W' => W'.cell? ⟨b6, 0, none⟩ = some (.int .i64 kd) ∧ W'.cell? ⟨b6, 1, none⟩ = some (.int .i64 wd) ∧ W'.cell? ⟨b6, 2, none⟩ = some (.int .i64 ad) ∧ W'.cell? ⟨b6, 3, none⟩ = some (.string sd) ∧ W'.cell? ⟨b6, 4, none⟩ = some (.slice ak lk ck) ∧ W'.cell? ⟨b6, 5, none⟩ = some (.int .i64 r1) ∧ W'.cell? ⟨b6, 6, none⟩ = some (.int .i64 r2) ∧ W'.cell? ⟨b6, 7, none⟩ = some (.int .i64 r3) ∧ W'.cell? ⟨b6, 8, none⟩ = some (.int .i64 r4) ∧ W'.cell? ⟨gv, j * 2, none⟩ = some Ej.x ∧ W'.cell? ⟨gv, j * 2 + 1, none⟩ = some Ej.y)
                        (first
                          | exact ⟨c60, c61, c62, c63, c64, c65, c66, c67, c68, p0, p1⟩
                          | exact ⟨hb63.cell 0, hb63.cell 1, hb63.cell 2, hb63.cell 3, hb63.cell 4, hb63.cell 5, hb63.cell 6, hb63.cell 7, hb63.cell 8, p03, p13⟩
                          | go_keep)
                        (first
                          | (go_at_call 24; refine (HPK.out _).mono ?_; rintro e wp ⟨rfl, hwp⟩; subst hwp)
                          | (go_at_call 26; refine hdo.mono ?_; rintro e w3 ⟨E', rfl, ex', ey', hE', ho', hn'⟩; have hb63 := hb6.drew.off ho' (fun hh => Nat.lt_irrefl _ (hEF b6 hh)); have hr3 := own_off' hrd ho' (fun t ht hh => by cases ht; exact hgF hh); have p03 : w3.cell? ⟨gv, j * 2, none⟩ = some Ej.x := (own_cell hr3 (j * 2) (by omega)).1.trans (by rw [← (own_cell HD.out.row (j * 2) (by omega)).1]; exact p0); have p13 : w3.cell? ⟨gv, j * 2 + 1, none⟩ = some Ej.y := (own_cell hr3 (j * 2 + 1) (by omega)).1.trans (by rw [← (own_cell HD.out.row (j * 2 + 1) (by omega)).1]; exact p1)))
                      all_goals
                        go_wp2
                        go_meet
                        case rel =>
                          have hE2 := HEJ.out
                          subst hE2
                          exact ⟨rfl, HDD.out.done j hjl E' ex' ey' hE' ho' hn'⟩
                    · have k10b : decide (kd ≤ 10) = false := by simp; omega
                      clear hvm
                      go_wp2
                      go_meet
                      case rel => exact ⟨by simp, HD.out.idle⟩
                  · have k4b : decide (4 ≤ kd) = false := by simp; omega
                    clear hvm
                    go_wp2
                    go_meet
                    case rel => exact ⟨by simp, HD.out.idle⟩
      case rest =>
        obtain ⟨rfl, L', E, hb8', hE, hrow', hl1, hl2, htw', hpw', hdis, hvF', hB'⟩ := hcut
        have HE : Hid (Two wc w.heap.size (2 * (i + 1)) E) := hE
        have HTW' : Hid _ := htw'
        have HPW' : Hid _ := hpw'
        have HDIS : Hid _ := hdis
        have HVF' : Hid _ := hvF'
        have HL2 : Hid _ := hl2
        clear HD HKA hb6 htw' hpw' hdis hvF' hl2
        rcases hE with ⟨ex, ey, _⟩ | ⟨A, s, B, r, ex, ey, _⟩
        · rw [ex, ey] at hb8'
          have c0 : wc.cell? ⟨b8, 0, none⟩ = some (.pointer none) := hb8'.cell 0
          clear ex ey hb8'
          go_wp2
          go_roundw
          case rel => exact ⟨i + 1, L', by go_num, by omega, hl1, hrow', HTW'.out, HPW'.out, fun j hj => (HVF'.out j hj).1, hB'⟩
          case measure => simp [intOf]; omega
        · have hone := Two.one HE.out
          have hl3 := HL2.out (by rw [ex]; exact fun h => by cases h)
          obtain ⟨ex', hex'⟩ : ∃ v, E.x = v := ⟨_, rfl⟩
          obtain ⟨ey', hey'⟩ : ∃ v, E.y = v := ⟨_, rfl⟩
          have HX : Hid (flat2 L' ++ [ex', ey'] = flat2 (L' ++ [E])) := by show _ = _; rw [flat2_append, hex', hey']
          rw [hex', hey'] at hb8' hone
          rw [hex'] at ex
          subst ex
          clear hex' hey' ey
          have HONE : Hid (∀ u ∈ [Value.pointer (some ⟨A.p, 0, none⟩), ey'], u.oneCell' = true) := fun u hu => by
            rcases List.mem_cons.1 hu with h | h
            · rw [h]; rfl
            · rw [List.mem_singleton.1 h]; exact hone.2
          clear hone
          have c0 : wc.cell? ⟨b8, 0, none⟩ = some (.pointer (some ⟨A.p, 0, none⟩)) := hb8'.cell 0
          have c1 : wc.cell? ⟨b8, 1, none⟩ = some ey' := hb8'.cell 1
          have hsz := hB'.size
          go_wp2_with (at_builtin; refine wpList_append_lies _ rfl (.tmp 175) (.tmp 177) 49 rfl w.heap.size 55 i55 _ 2 16 Try.underlying49 hi55 hz55a hz55b hz55c rfl (by omega) _ L'.length _ rfl (hrow'.alloc _) ⟨wc.heap.size, 0, none⟩ 1 1 [.pointer (some ⟨A.p, 0, none⟩), ey'] rfl rfl (World.news_of_block (cs := #[.pointer (some ⟨A.p, 0, none⟩), ey']) (t := 55) (fr := (0, 0)) (heap_alloc_new wc _)) HONE.out (by omega) (by unfold maxLen; omega) (by omega) (by simp; omega) (wc.heap.size + 1) (by simp) ?_; intro gC capC w2 hC2 hgC hatC hltC)
          obtain ⟨k1, k2, k3, k4⟩ := more _ HE.out HTW'.out HPW'.out HDIS.out (fun j hj => ⟨(HVF'.out j hj).1, (HVF'.out j hj).2.1⟩) (fun j hj => own_ge hrow' hj) hgC hatC (Nat.le_refl _) hB'
          go_roundw
          case rel =>
            refine ⟨i + 1, L' ++ [E], by go_num, by omega, by simp; omega, ?_, k1, k2, fun j hj => by cases hj; exact k3, k4⟩
            rw [List.length_append, ← HX.out]; exact hC2
          case measure => simp [intOf]; omega
    · have hlt' : decide ((i : Int) < (ls : Int)) = false := by simp; omega
      have hlt2 : decide (i < ls) = false := by simp; omega
      have HTW : Hid _ := htw
      have HPW : Hid _ := hpw
      have HVF : Hid _ := hvF
      clear htw hpw hvF
      go_wp2
      go_ret
      exact ⟨rfl, hB⟩
end Go.Proofs.Ytdgbgmffpcooeaa
