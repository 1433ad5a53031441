/- Xw1 -/
import Derived.Test.YtdgbgmffpcooeaaGreatU50
import Derived.Deep.CutBlock
namespace Go.Proofs.YtdgbgmffpcooeaaGreat
open Go.RowKit Go.Lib
section
structure OpR where
 kd : Int
 wd : Int
 ad : Int
 sd : ByteArray
 ak : Option Addr
 lk : Nat
 ck : Nat
 r1 : Int
 r2 : Int
 r3 : Int
 r4 : Int
structure OAt (w : World) (so : Option Addr) (ls : Nat) (O : Nat → OpR) : Prop where
 at_ : ∀ i,i < ls → ∃ a,so = some a ∧ a.block < w.heap.size ∧ w.cell? (a.add (i * 9)) = some (.int .i64 (O i).kd) ∧ w.cell? ⟨(a.add (i * 9)).block,(a.add (i * 9)).off + 1,none⟩ = some (.int .i64 (O i).wd) ∧ w.cell? ⟨(a.add (i * 9)).block,(a.add (i * 9)).off + 2,none⟩ = some (.int .i64 (O i).ad) ∧ w.cell? ⟨(a.add (i * 9)).block,(a.add (i * 9)).off + 3,none⟩ = some (.string (O i).sd) ∧ w.cell? ⟨(a.add (i * 9)).block,(a.add (i * 9)).off + 4,none⟩ = some (.slice (O i).ak (O i).lk (O i).ck) ∧ w.cell? ⟨(a.add (i * 9)).block,(a.add (i * 9)).off + 5,none⟩ = some (.int .i64 (O i).r1) ∧ w.cell? ⟨(a.add (i * 9)).block,(a.add (i * 9)).off + 6,none⟩ = some (.int .i64 (O i).r2) ∧ w.cell? ⟨(a.add (i * 9)).block,(a.add (i * 9)).off + 7,none⟩ = some (.int .i64 (O i).r3) ∧ w.cell? ⟨(a.add (i * 9)).block,(a.add (i * 9)).off + 8,none⟩ = some (.int .i64 (O i).r4)
 wd_ : ∀ i,i < ls → -9223372036854775808 ≤ (O i).wd ∧ (O i).wd ≤ 9223372036854775807
 ad_ : ∀ i,i < ls → -9223372036854775808 ≤ (O i).ad ∧ (O i).ad ≤ 9223372036854775807
set_option maxRecDepth 100000 in
set_option maxHeartbeats 8000000 in
theorem indexes_any (w : World) (so : Option Addr) (ls cs : Nat) (O : Nat → OpR) (hO : OAt w so ls O) (hls : ls ≤ 1048576) :
  Calls Tryz.prog 3 #[.slice so ls cs] w fun e w' => e = .returned (.bool true) ∧ Below w.heap.size w w' := by
 obtain ⟨i23,hi23,hz23a,hz23b,hz23c⟩ := info_parts info23
 have hmade := made_any w 44 (by omega)
 go_enter Tryz.func3,Tryz.ntmps3
 go_upto_region 4 with (go_at_call 9; refine hmade.mono ?_; rintro e w1 ⟨t,p,X,n,R,f,F,rfl,hM⟩)
 obtain ⟨hl,⟨l1,l2,l3,l4,l5⟩,hb1⟩ := hM
 obtain ⟨_,hn1,_,_,_⟩ := hl.live.upT
 have HBT : Hid (Blk w1 t 31 (ixC p X R n)) := hl.blk
 have hp1 := v_put hl.live (id := 7) (by decide) (v := ⟨10, 10, 20, 20⟩) (by unfold Box.ok; decide) (by simp) (by rw [len37.1]; omega)
 simp only [boxC] at hp1
 have ct1 : w1.cell? ⟨t, 1,none⟩ = some (.pointer (some ⟨X, 0,none⟩)) := hl.blk.cell 1
 have hl1 := hl.blk.lt
 have HB1 : Hid (Below w.heap.size w w1) := hb1
 have HFG : Hid (∀ k,F k → w.heap.size ≤ k) := l4
 clear hl hmade hb1 l1 l2 l3 l4 l5
 go_upto_region 5 with (go_at_call 10; refine hp1.mono ?_; rintro e w2 ⟨hc2,rfl,f2,hL2,_⟩)
 have hp2 := v_put hL2 (id := 3) (by decide) (v := ⟨15, 0, 15, 65535⟩) (by unfold Box.ok; decide) (by rw [len37.1]; omega) (by rw [len37.2]; omega)
 simp only [boxC] at hp2
 have ct2 : w2.cell? ⟨t, 1,none⟩ = some (.pointer (some ⟨X, 0,none⟩)) := (hc2.blk HBT.out (by unfold own5; omega)).cell 1
 have hl2 := (hc2.blk HBT.out (by unfold own5; omega)).lt
 have HC2 : Hid (CalmW (NF w1 F) w1 w2) := hc2
 clear hp1 hL2 ct1 hl1 hc2
 go_upto_region 6 with (go_at_call 10; refine hp2.mono ?_; rintro e w3 ⟨hc3,rfl,f3,hL3,_⟩)
 have hw3 := v_win hL3 (r := ⟨15, 12, 15, 12⟩) (by unfold Box.ok; decide)
 rw [win37] at hw3
 simp only [boxC,List.length_cons,List.length_nil,Nat.zero_add,Nat.reduceAdd] at hw3
 have hc13 := HC2.out.trans hc3
 have ct3 : w3.cell? ⟨t, 1,none⟩ = some (.pointer (some ⟨X, 0,none⟩)) := (hc13.blk HBT.out (by unfold own5; omega)).cell 1
 have hl3 := (hc13.blk HBT.out (by unfold own5; omega)).lt
 have HC3 : Hid (CalmW (NF w1 F) w1 w3) := hc13
 clear hp2 hL3 ct2 hl2 hc3 hc13
 go_upto_region 7 with (go_at_call 11; refine hw3.mono ?_; rintro e w4 ⟨hc4,⟨u,rfl,hu⟩,hL4⟩)
 obtain ⟨gu,cu,rfl,hgu,hgl⟩ := hu.form (by simp)
 have u0 : w4.cell? ⟨gu, 0,none⟩ = some (.int .i64 3) := (own_cell hu 0 (by simp)).1
 have u1 : w4.cell? ⟨gu, 1,none⟩ = some (.int .i64 7) := (own_cell hu 1 (by simp)).1
 have hc14 := HC3.out.trans hc4
 have hb4 : Below w.heap.size w w4 := ⟨hc14.os.trans HB1.out.os,hc14.tape.trans HB1.out.tape,hc14.output.trans HB1.out.output,Nat.le_trans HB1.out.size hc14.size,fun k hk => (hc14.low k ⟨Nat.lt_of_lt_of_le hk HB1.out.size,fun h => by have := HFG.out k h; omega⟩ (Nat.lt_of_lt_of_le hk HB1.out.size)).trans (HB1.out.block k hk)⟩
 have HB4 : Hid (Below w.heap.size w w4) := hb4
 clear hw3 hu hc4 hL4 hc14 ct3 hl3 HC3 HC2 HB1 HFG HBT hb4
 go_upto_region 11 with fail
 have hs4 := HB4.out.size
 have HST0 : Sts w w4.heap.size 0 (.slice none 0 0) [] (fun k => k = w4.heap.size) (w4.alloc (.cells (bkI 0 0 (.slice none 0 0) (.slice none 0 0) (.slice none 0 0) (.slice none 0 0)) 44)) :=
  ⟨World.ownsRow_nil _ _ _ _,by simp,fun e he => (by cases he),List.Pairwise.nil,fun j hj => (by cases hj),bks_new w w4 hs4,fun e he => (by cases he),HB4.out.alloc hs4 _⟩
 obtain ⟨B,hB⟩ : ∃ B,w4.heap.size = B := ⟨_,rfl⟩
 unfold bkI at HST0
 obtain ⟨W0,hW0⟩ : ∃ W0,w4.alloc (.cells #[.int .i64 0, .int .i64 0, .bool false, .slice none 0 0, .slice none 0 0, .slice none 0 0, .slice none 0 0, .slice none 0 0, .slice none 0 0, .slice none 0 0, .slice none 0 0] 44) = W0 := ⟨_,rfl⟩
 rw [hW0] at HST0 ⊢
 rw [hB] at HST0 ⊢
 clear hW0 hB HB4 u0 u1 hgu hgl hs4
 go_wp2
 go_loopw [9, 11] (fun v x wr => ∃ (i : Nat) (L : List Ixe) (OB : Nat → Prop),x = .int .i64 (i : Int) ∧ i ≤ ls ∧ Sts w B i v L OB wr) (fun _ x _ => ls - (intOf x).toNat)
 case atStart => exact ⟨0, [],_,rfl,Nat.zero_le _,HST0⟩
 case round =>
  obtain ⟨i,L,OB,rfl,hi,hst⟩ := hrel
  clear HST0
  by_cases hlt : i < ls
  ·have hlt' : (i : Int) < (ls : Int) := by omega
   obtain ⟨a,ha,hab,q0,q1,q2,q3,q4,q5,q6,q7,q8⟩ := hO.at_ i hlt
   subst ha
   have hblk : ∀ j,(a.add j).block = a.block := fun j => by unfold Addr.add; split <;> rfl
   have hbl := hst.bl
   have m0 := (hbl.cell (p := a.add (i * 9)) (by rw [hblk]; exact hab)).trans q0
   have mt : ∀ j,wr.cell? ⟨(a.add (i * 9)).block,(a.add (i * 9)).off + j,none⟩ = w.cell? ⟨(a.add (i * 9)).block,(a.add (i * 9)).off + j,none⟩ := fun j => hbl.cell (p := ⟨(a.add (i * 9)).block,(a.add (i * 9)).off + j,none⟩) (by simp only; rw [hblk]; exact hab)
   have m1 := (mt 1).trans q1
   have m2 := (mt 2).trans q2
   have m3 := (mt 3).trans q3
   have m4 := (mt 4).trans q4
   have m5 := (mt 5).trans q5
   have m6 := (mt 6).trans q6
   have m7 := (mt 7).trans q7
   have m8 := (mt 8).trans q8
   have hwd := hO.wd_ i hlt
   have had := hO.ad_ i hlt
   generalize O i = o at m0 m1 m2 m3 m4 m5 m6 m7 m8 hwd had
   obtain ⟨kd,wd,ad,sd,ak,lk,ck,r1,r2,r3,r4⟩ := o
   simp only at m0 m1 m2 m3 m4 m5 m6 m7 m8 hwd had
   have HST : Hid (Sts w B i _ L OB wr) := hst
   clear q0 q1 q2 q3 q4 q5 q6 q7 q8 mt hO hblk hst hbl
   go_upto_block 2 with fail
   have hbe : Below wr.heap.size wr (wr.alloc (.cells #[.int .i64 kd, .int .i64 wd, .int .i64 ad, .string sd, .slice ak lk ck, .int .i64 r1, .int .i64 r2, .int .i64 r3, .int .i64 r4] 46)) := (Below.refl _ _).alloc (Nat.le_refl _) _
   have hb6 := Blk.new wr 46 #[.int .i64 kd, .int .i64 wd, .int .i64 ad, .string sd, .slice ak lk ck, .int .i64 r1, .int .i64 r2, .int .i64 r3, .int .i64 r4]
   have hst1 := HST.out.below hbe
   have hvl : ∀ j,_ = some j → j < wr.heap.size := fun j hj => own_lt2 HST.out.row hj
   have hGl : ∀ e ∈ L, ∀ k,e.G k → k < wr.heap.size := fun e he k hk => ((HST.out.ix e he).2.1 k hk).2
   have hOl : ∀ k,OB k → k < wr.heap.size := fun k hk => (HST.out.bk.lt k hk).2
   obtain ⟨b6,hbb6⟩ : ∃ b,wr.heap.size = b := ⟨_,rfl⟩
   obtain ⟨w1',hw1⟩ : ∃ w1,wr.alloc (.cells #[.int .i64 kd, .int .i64 wd, .int .i64 ad, .string sd, .slice ak lk ck, .int .i64 r1, .int .i64 r2, .int .i64 r3, .int .i64 r4] 46) = w1 := ⟨_,rfl⟩
   rw [hw1] at hb6 hst1 ⊢
   rw [hbb6] at hb6 hvl hGl hOl ⊢
   have HS1 : Hid (w1'.heap.size = b6 + 1) := by show _ = _; rw [← hw1, ← hbb6]; simp
   clear hw1 hbb6 m0 m1 m2 m3 m4 m5 m6 m7 m8 hbe HST
   obtain ⟨av,capv,hvs,_,hvm,_⟩ := own_shape hst1.row
   subst hvs
   have hLi := hst1.len
   have hbw := hst1.bl.size
   have HST : Hid (Sts w B i (.slice av L.length capv) L OB w1') := hst1
   have HVL : Hid (∀ j,(Value.slice av L.length capv).ownBlock = some j → j < b6) := hvl
   have HGL : Hid (∀ e ∈ L, ∀ k,e.G k → k < b6) := hGl
   have HOL : Hid (∀ k,OB k → k < b6) := hOl
   clear hst1 hvl hGl hOl
   go_cut [9, 13, 14, 15] (fun v' fine s14 s15 wx => fine = .bool true ∧ ∃ L' OB',Sts w B (i + 1) v' L' OB' wx)
   case first =>
    have c60 : w1'.cell? ⟨b6, 0,none⟩ = some (.int .i64 kd) := hb6.cell 0
    have c61 : w1'.cell? ⟨b6, 1,none⟩ = some (.int .i64 wd) := hb6.cell 1
    have c62 : w1'.cell? ⟨b6, 2,none⟩ = some (.int .i64 ad) := hb6.cell 2
    have hb6l := hb6.lt
    by_cases k1 : kd = 12
    ·subst k1
     clear hvm
     have hmk := made_any w1' ad had
     go_upto_region 19 with (go_at_call 9; refine hmk.mono ?_; rintro e w2 ⟨t2,p2,X2,n2,R2,f2,F2,rfl,hM2⟩)
     obtain ⟨G2,hI2,hge2⟩ := hM2.ix (w := w) hbw
     have hb2 := hM2.2.2
     have hst2 := HST.out.below hb2
     have hs2 := hst2.bl.size
     have hrow2 := hst2.row
     have HI2 : Hid (IxOk w2 w.heap.size t2 G2) := hI2
     have HGE : Hid (∀ k,G2 k → b6 < k) := fun k hk => by have := hge2 k hk; have := HS1.out; omega
     have HST2 : Hid (Sts w B i (.slice av L.length capv) L OB w2) := hst2
     clear hmk hM2 hI2 hge2 hst2 hb2
     go_wp2_with (at_builtin; refine wpList_append_lies _ rfl (.tmp 94) (.tmp 96) 38 rfl w.heap.size 23 i23 _ 1 8 Tryz.underlying38 hi23 hz23a hz23b hz23c rfl (by omega) _ L.length _ rfl (hrow2.alloc _) ⟨w2.heap.size, 0,none⟩ 1 1 [.pointer (some ⟨t2, 0,none⟩)] rfl rfl (World.news_of_block (cs := #[.pointer (some ⟨t2, 0,none⟩)]) (t := 23) (fr := (0, 0)) (heap_alloc_new w2 _)) (by simp [Value.oneCell']) (by omega) (by unfold maxLen; omega) (by omega) (by simp; omega) (w2.heap.size + 1) (by simp) ?_; intro gC capC w3 hC3 hgC hatC hltC)
     go_meet
     case rel =>
      refine ⟨rfl,_,OB,HST2.out.add ⟨t2,G2⟩ HI2.out (fun e he k hk hk2 => ?_) (fun k hk ho => ?_) (fun j hj hk => ?_) hgC hatC hC3⟩
      ·have := HGL.out e he k hk; have := HGE.out k hk2; omega
      ·have := HOL.out k ho; have := HGE.out k hk; omega
      ·have := HVL.out j hj; have := HGE.out j hk; omega
    ·have k1b : (kd == 12) = false := by simp [k1]
     by_cases k2 : kd = 13
     ·subst k2
      clear k1 k1b hvm
      have hI2 := ix_none (w := w) (W := w1') hbw
      have hb2 : Below w1'.heap.size w1' (w1'.alloc (.cells #[.pointer none, .pointer none, .pointer none, .int .i64 0] 31)) := (Below.refl _ _).alloc (Nat.le_refl _) _
      have hst2 := HST.out.below hb2
      obtain ⟨w2,hw2⟩ : ∃ w2,w1'.alloc (.cells #[.pointer none, .pointer none, .pointer none, .int .i64 0] 31) = w2 := ⟨_,rfl⟩
      have HW2 : Hid (w1'.alloc (.cells #[.pointer none, .pointer none, .pointer none, .int .i64 0] 31) = w2) := hw2
      rw [hw2] at hI2 hst2
      have hs2 := hst2.bl.size
      have HS2 : Hid (w2.heap.size = w1'.heap.size + 1) := by show _ = _; rw [← hw2]; simp
      have hrow2 := hst2.row
      have HI2 : Hid (IxOk w2 w.heap.size w1'.heap.size (fun k => k = w1'.heap.size)) := hI2
      have HST2 : Hid (Sts w B i (.slice av L.length capv) L OB w2) := hst2
      clear hI2 hst2 hb2 hw2
      go_wp2_with (at_builtin; rw [HW2.out]; refine wpList_append_lies _ rfl (.tmp 102) (.tmp 105) 38 rfl w.heap.size 23 i23 _ 1 8 Tryz.underlying38 hi23 hz23a hz23b hz23c rfl (by omega) _ L.length _ rfl (hrow2.alloc _) ⟨w1'.heap.size + 1, 0,none⟩ 1 1 [.pointer (some ⟨w1'.heap.size, 0,none⟩)] rfl rfl (by rw [← HS2.out]; exact World.news_of_block (cs := #[.pointer (some ⟨w1'.heap.size, 0,none⟩)]) (t := 23) (fr := (0, 0)) (heap_alloc_new w2 _)) (by simp [Value.oneCell']) (by omega) (by unfold maxLen; omega) (by omega) (by simp; omega) (w2.heap.size + 1) (by simp) ?_; intro gC capC w3 hC3 hgC hatC hltC)
      go_meet
      case rel =>
       refine ⟨rfl,_,OB,HST2.out.add ⟨w1'.heap.size,fun k => k = w1'.heap.size⟩ HI2.out (fun e he k hk hk2 => ?_) (fun k hk ho => ?_) (fun j hj hk => ?_) hgC hatC hC3⟩
       ·have := HGL.out e he k hk; have : k = w1'.heap.size := hk2; have := HS1.out; omega
       ·have := HOL.out k ho; have : k = w1'.heap.size := hk; have := HS1.out; omega
       ·have := HVL.out j hj; have : j = w1'.heap.size := hk; have := HS1.out; omega
     ·have k2b : (kd == 13) = false := by simp [k2]
      by_cases hL0 : L.length = 0
      ·have t1 : decide ((0 : Int) < (L.length : Int)) = false := decide_eq_false (by omega)
       have t2 : decide (0 < L.length) = false := decide_eq_false (by omega)
       clear hL0 hvm
       go_wp2
       go_meet
       case rel => exact ⟨by simp,L,OB,HST.out.idle⟩
      ·have hLp : (0 : Int) < (L.length : Int) := by omega
       have hLp' : 0 < L.length := by omega
       clear hL0
       by_cases k4 : 14 ≤ kd
       ·by_cases k10 : kd ≤ 19
        ·clear hvm
         obtain ⟨gv,cv,hev,hgw,hglt⟩ := HST.out.row.form (by omega)
         cases hev
         obtain ⟨j,hj⟩ : ∃ j,pickN wd L.length = j := ⟨_,rfl⟩
         have hjl : j < L.length := by rw [← hj]; exact pickN_lt wd L.length hLp'
         have hpk := fun W => pick_law W wd L.length hLp' hwd
         rw [hj] at hpk
         have HPK : Hid (∀ W,Calls Tryz.prog 12 #[.int .i64 wd, .int .i64 (L.length : Int)] W fun e w' => e = .returned (.int .i64 (j : Int)) ∧ w' = W) := hpk
         clear hj hpk
         have hjl' : (j : Int) < (L.length : Int) := by omega
         have y0 : (rowX L)[j]? = some (.pointer (some ⟨L[j].t, 0,none⟩)) := by unfold rowX; rw [List.getElem?_map,List.getElem?_eq_getElem hjl]; rfl
         have HP0 : Hid (∀ W,Off (fun k => L[j].G k ∨ OB k) w1' W → W.cell? ⟨gv,j,none⟩ = some (.pointer (some ⟨L[j].t, 0,none⟩))) := fun W ho => by
          have hr := own_offv HST.out.row ho (fun g hg hh => hh.elim ((HST.out.vG g hg).1 _ (List.getElem_mem hjl)) (HST.out.vG g hg).2)
          exact (own_cell hr j (by omega)).1.trans y0
         have p0 := HP0.out w1' (Off.refl _ _)
         have HB6 : Hid (∀ W,Off (fun k => L[j].G k ∨ OB k) w1' W → Blk W b6 46 #[.int .i64 kd, .int .i64 wd, .int .i64 ad, .string sd, .slice ak lk ck, .int .i64 r1, .int .i64 r2, .int .i64 r3, .int .i64 r4]) := fun W ho => hb6.off ho (fun hh => hh.elim (fun h => by have := HGL.out _ (List.getElem_mem hjl) b6 h; omega) (fun h => by have := HOL.out b6 h; omega))
         have hbd : Below w1'.heap.size w1' w1'.drew := (Below.refl _ w1').drew
         have hstd := HST.out.below hbd
         have hdo := does_any (hstd.ix _ (List.getElem_mem hjl)) hstd.bk (hstd.dis _ (List.getElem_mem hjl)) (by omega) hstd.bl.size kd k4 k10 wd ad sd ak lk ck r1 r2 r3 r4
         unfold opC at hdo
         have HSTD : Hid (Sts w B i (.slice (some ⟨gv, 0,none⟩) L.length capv) L OB w1'.drew) := hstd
         have HDN : Hid (∀ W,DoesP w1'.drew w.heap.size B i L[j].t L[j].G OB W → ∃ L' OB',Sts w B (i + 1) (.slice (some ⟨gv, 0,none⟩) L.length capv) L' OB' W) := fun W hD => HSTD.out.done hjl hD
         have HOF : Hid (∀ W,DoesP w1'.drew w.heap.size B i L[j].t L[j].G OB W → Off (fun k => L[j].G k ∨ OB k) w1' W) := fun W hD => by
          obtain ⟨_,_,_,_,_,d4,_⟩ := hD
          exact ((Off.refl _ w1').drew).trans d4
         obtain ⟨tj,htj⟩ : ∃ q,L[j].t = q := ⟨_,rfl⟩
         rw [htj] at p0 HP0 hdo HDN HOF
         have c63 : w1'.cell? ⟨b6, 3,none⟩ = some (.string sd) := hb6.cell 3
         have c64 : w1'.cell? ⟨b6, 4,none⟩ = some (.slice ak lk ck) := hb6.cell 4
         have c65 : w1'.cell? ⟨b6, 5,none⟩ = some (.int .i64 r1) := hb6.cell 5
         have c66 : w1'.cell? ⟨b6, 6,none⟩ = some (.int .i64 r2) := hb6.cell 6
         have c67 : w1'.cell? ⟨b6, 7,none⟩ = some (.int .i64 r3) := hb6.cell 7
         have c68 : w1'.cell? ⟨b6, 8,none⟩ = some (.int .i64 r4) := hb6.cell 8
         have HKS : Hid (∀ W,DoesP w1'.drew w.heap.size B i tj L[j].G OB W → W.cell? ⟨b6, 0,none⟩ = some (.int .i64 kd) ∧ W.cell? ⟨b6, 1,none⟩ = some (.int .i64 wd) ∧ W.cell? ⟨b6, 2,none⟩ = some (.int .i64 ad) ∧ W.cell? ⟨b6, 3,none⟩ = some (.string sd) ∧ W.cell? ⟨b6, 4,none⟩ = some (.slice ak lk ck) ∧ W.cell? ⟨b6, 5,none⟩ = some (.int .i64 r1) ∧ W.cell? ⟨b6, 6,none⟩ = some (.int .i64 r2) ∧ W.cell? ⟨b6, 7,none⟩ = some (.int .i64 r3) ∧ W.cell? ⟨b6, 8,none⟩ = some (.int .i64 r4) ∧ W.cell? ⟨gv,j,none⟩ = some (.pointer (some ⟨tj, 0,none⟩))) := fun W hD => by
          have b := HB6.out W (HOF.out W hD)
          exact ⟨b.cell 0,b.cell 1,b.cell 2,b.cell 3,b.cell 4,b.cell 5,b.cell 6,b.cell 7,b.cell 8,HP0.out W (HOF.out W hD)⟩
         clear htj y0 hstd hbd
         go_upto_region 23 with (fail)
         go_region_held3 (fun W => W.cell? ⟨b6, 0,none⟩ = some (.int .i64 kd) ∧ W.cell? ⟨b6, 1,none⟩ = some (.int .i64 wd) ∧ W.cell? ⟨b6, 2,none⟩ = some (.int .i64 ad) ∧ W.cell? ⟨b6, 3,none⟩ = some (.string sd) ∧ W.cell? ⟨b6, 4,none⟩ = some (.slice ak lk ck) ∧ W.cell? ⟨b6, 5,none⟩ = some (.int .i64 r1) ∧ W.cell? ⟨b6, 6,none⟩ = some (.int .i64 r2) ∧ W.cell? ⟨b6, 7,none⟩ = some (.int .i64 r3) ∧ W.cell? ⟨b6, 8,none⟩ = some (.int .i64 r4) ∧ W.cell? ⟨gv,j,none⟩ = some (.pointer (some ⟨tj, 0,none⟩)))
          (first
           | exact ⟨c60,c61,c62,c63,c64,c65,c66,c67,c68,p0⟩
           | exact HKS.out _ hD3
           | go_keep)
          (first
           | (go_at_call 12; refine (HPK.out _).mono ?_; rintro e wp ⟨rfl,hwp⟩; have hwp' := hwp.symm; clear hwp; subst hwp')
           | (go_at_call 13; refine hdo.mono ?_; rintro e w3 ⟨rfl,hD3⟩))
         all_goals
          go_wp2
          go_meet
          case rel => exact ⟨rfl,HDN.out _ hD3⟩
        ·have k10b : decide (kd ≤ 19) = false := by simp; omega
         clear hvm
         go_wp2
         go_meet
         case rel => exact ⟨by simp,L,OB,HST.out.idle⟩
       ·have k4b : decide (14 ≤ kd) = false := by simp; omega
        clear hvm
        go_wp2
        go_meet
        case rel => exact ⟨by simp,L,OB,HST.out.idle⟩
   case rest =>
    obtain ⟨rfl,L',OB',hst'⟩ := hcut
    obtain ⟨nn,came,ki,yi,iv,inn,E,K,z1,z2,z3,z4⟩ := hst'.bk
    have hstl := still_any wc w.heap.size B nn came ki yi iv inn E K OB' z1 (by omega)
    have HST' : Hid (Sts w B (i + 1) _ L' OB' wc) := hst'
    clear HST HVL HGL HOL hb6 hst' z1 z2 z3 z4 hvm
    go_wp2_with (go_at_call 14; refine hstl.mono ?_; rintro e w5 ⟨rfl,hb5⟩)
    go_roundw
    case rel => exact ⟨i + 1,L',OB',by go_num,by omega,HST'.out.below hb5⟩
    case measure => simp [intOf]; omega
  ·have hlt' : decide ((i : Int) < (ls : Int)) = false := by simp; omega
   have hlt2 : decide (i < ls) = false := by simp; omega
   have HBL : Hid (Below w.heap.size w wr) := hst.bl
   clear hst
   go_wp2
   go_ret
   exact ⟨rfl,HBL.out⟩
end
end Go.Proofs.YtdgbgmffpcooeaaGreat
