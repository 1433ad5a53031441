/- Kq2 Kq3 No2 -/
import Derived.Test.YtdgbgmffpcooeaaGreatV50
namespace Go.Proofs.YtdgbgmffpcooeaaGreat
open Go.RowKit Go.Lib
section
def NF (W : World) (F : Nat → Prop) (k : Nat) : Prop := k < W.heap.size ∧ ¬ F k
def Fown (W : World) (F : Nat → Prop) : Prop := (∀ k,F k → k < W.heap.size) ∧ ∀ k cs ty g,F k → W.heap[k]? = some (.cells cs ty g) → own5 ty
def LiveS (W : World) (F : Nat → Prop) (p X n : Nat) (σ : PS) (tb : List (Int × Box)) : Prop := LiveX W (NF W F) p X n σ tb ∧ Fown W F
def DiskS (W : World) (F : Nat → Prop) (p n : Nat) (tb : List (Int × Box)) : Prop := DiskX W (NF W F) p n tb ∧ Fown W F
section
variable {w w' : World} {N F F1 F2 : Nat → Prop} {p X n : Nat} {σ : PS} {tb : List (Int × Box)}
theorem CalmW.offs (h : CalmW (NF w F) w w') : Off F w w' := ⟨h.os,h.tape,h.output,h.size,fun k hk hf => h.low k ⟨hk,hf⟩ hk⟩
theorem LiveX.own (h : LiveX w N p X n σ tb) : ∃ F,LiveS w F p X n σ tb ∧ ∀ k,F k → ¬ N k := by
 obtain ⟨A,x,t,f,fr,root,es,us,h1,h2,h3,h4,h5,h6,h7,h8,h9,h10⟩ := h
 refine ⟨fun k => A.F k ∨ k = t ∨ k = x,⟨⟨A,x,t,f,fr,root,es,us,h1,h2,h3,h4,h5,h6,fun k hk hn => hn.2 (.inl hk),fun hn => hn.2 (.inr (.inl rfl)),fun hn => hn.2 (.inr (.inr rfl)),fun k hk => hk.1⟩,fun k hk => ?_,h4.tags⟩,fun k hk => ?_⟩
 ·rcases hk with hk | rfl | rfl
  ·exact (h4.pd.lt k hk).2
  ·exact h4.tr.lt
  ·exact h4.ix.lt
 ·rcases hk with hk | rfl | rfl
  ·exact h7 k hk
  ·exact h8
  ·exact h9
theorem DiskX.own (h : DiskX w N p n tb) : ∃ F,DiskS w F p n tb ∧ ∀ k,F k → ¬ N k := by
 obtain ⟨A, σ,root,es,us,h1,h2,h3,h4,h5,h6,h7,h8⟩ := h
 exact ⟨A.F,⟨⟨A, σ,root,es,us,h1,h2,h3,h4,h5,h6,fun k hk hn => hn.2 hk,fun k hk => hk.1⟩,fun k hk => (h3.lt k hk).2,h3.tags⟩,h7⟩
theorem old_new {k : Nat} (h : ¬ NF w F k) : F k ∨ w.heap.size ≤ k := Classical.byContradiction fun g => h ⟨by omega,fun e => g (.inl e)⟩
theorem LiveX.then (h : LiveX w' (NF w F) p X n σ tb) : ∃ F',LiveS w' F' p X n σ tb ∧ ∀ k,F' k → F k ∨ w.heap.size ≤ k := by
 obtain ⟨F',h1,h2⟩ := h.own
 exact ⟨F',h1,fun k hk => old_new (h2 k hk)⟩
theorem DiskX.then (h : DiskX w' (NF w F) p n tb) : ∃ F',DiskS w' F' p n tb ∧ ∀ k,F' k → F k ∨ w.heap.size ≤ k := by
 obtain ⟨F',h1,h2⟩ := h.own
 exact ⟨F',h1,fun k hk => old_new (h2 k hk)⟩
theorem Fown.keep (h : Fown w F1) (ho : Off F2 w w') (hd : ∀ k,F1 k → ¬ F2 k) : Fown w' F1 :=
 ⟨fun k hk => Nat.lt_of_lt_of_le (h.1 k hk) ho.size,fun k cs ty g hk e => h.2 k cs ty g hk ((ho.block k (h.1 k hk) (hd k hk)).symm.trans e)⟩
theorem LiveS.keep (h : LiveS w F1 p X n σ tb) (h2 : Fown w F2) (ho : Off F2 w w') (hd : ∀ k,F1 k → ¬ F2 k) : LiveS w' F1 p X n σ tb := by
 obtain ⟨⟨A,x,t,f,fr,root,es,us,a1,a2,a3,a4,a5,a6,a7,a8,a9,a10⟩,hf⟩ := h
 have nA : ∀ k,A.F k → F1 k := fun k hk => Classical.byContradiction fun g => a7 k hk ⟨(a4.pd.lt k hk).2,g⟩
 have nt : F1 t := Classical.byContradiction fun g => a8 ⟨a4.tr.lt,g⟩
 have nx : F1 x := Classical.byContradiction fun g => a9 ⟨a4.ix.lt,g⟩
 refine ⟨⟨A,x,t,f,fr,root,es,us,a1,a2,a3.off ho (fun hk => by have := h2.2 X _ _ _ hk a3; revert this; unfold own5; omega),⟨a4.pd.off ho (fun k hk => hd k (nA k hk)),a4.tr.off ho (hd t nt),own_offv a4.row ho (fun g hg hk => ?_),a4.ix.off ho (hd x nx)⟩,a5,a6,fun k hk hn => hn.2 (nA k hk),fun hn => hn.2 nt,fun hn => hn.2 nx,fun k hk => hk.1⟩,hf.keep ho hd⟩
 obtain ⟨_,cs,hc⟩ := own_tagged a4.row hg
 have := h2.2 g _ _ _ hk hc
 revert this; unfold own5; omega
theorem DiskS.keep (h : DiskS w F1 p n tb) (ho : Off F2 w w') (hd : ∀ k,F1 k → ¬ F2 k) : DiskS w' F1 p n tb := by
 obtain ⟨⟨A, σ,root,es,us,a1,a2,a3,a4,a5,a6,a7,a8⟩,hf⟩ := h
 have nA : ∀ k,A.F k → F1 k := fun k hk => Classical.byContradiction fun g => a7 k hk ⟨(a3.lt k hk).2,g⟩
 exact ⟨⟨A, σ,root,es,us,a1,a2,a3.off ho (fun k hk => hd k (nA k hk)),a4,a5,a6,fun k hk hn => hn.2 (nA k hk),fun k hk => hk.1⟩,hf.keep ho hd⟩
theorem LiveS.below (h : LiveS w F p X n σ tb) (hb : Below w.heap.size w w') : LiveS w' F p X n σ tb := by
 refine ⟨?_,h.2.keep (F2 := fun _ => False) (Off.of_below hb) (fun _ _ h => h)⟩
 obtain ⟨A,x,t,f,fr,root,es,us,a1,a2,a3,a4,a5,a6,a7,a8,a9,a10⟩ := h.1
 have nA : ∀ k,A.F k → F k := fun k hk => Classical.byContradiction fun g => a7 k hk ⟨(a4.pd.lt k hk).2,g⟩
 have nt : F t := Classical.byContradiction fun g => a8 ⟨a4.tr.lt,g⟩
 have nx : F x := Classical.byContradiction fun g => a9 ⟨a4.ix.lt,g⟩
 exact ⟨A,x,t,f,fr,root,es,us,a1,a2,(hb.block X a3.lt).trans a3,a4.below hb,a5,a6,fun k hk hn => hn.2 (nA k hk),fun hn => hn.2 nt,fun hn => hn.2 nx,fun k hk => hk.1⟩
theorem DiskS.below (h : DiskS w F p n tb) (hb : Below w.heap.size w w') : DiskS w' F p n tb := h.keep (F2 := fun _ => False) (Off.of_below hb) (fun _ _ h => h)
theorem s_open (h : DiskS w F p n tb) :
  Calls Tryz.prog 21 #[.pointer (some ⟨p, 0,none⟩)] w fun e w' => ∃ X' σ' F',e = .returned (.tuple #[.pointer (some ⟨X', 0,none⟩), .int .i64 0]) ∧ Off F w w' ∧ LiveS w' F' p X' n σ' tb ∧ (∀ k,F' k → F k ∨ w.heap.size ≤ k) := by
 refine (disk_open h.1).mono ?_
 rintro e w' ⟨X',rfl,hC, σ',hL⟩
 obtain ⟨F',h1,h2⟩ := hL.then
 exact ⟨X', σ',F',rfl,hC.offs,h1,h2⟩
theorem s_put (h : LiveS w F p X n σ tb) {id : Int} (hid : 0 ≤ id ∧ id ≤ 4611686018427387904) {v : Box} (hv : v.ok) (hr1 : tb.length ≤ (n - 200) / 4) (hr2 : (tput id v tb).length ≤ (n - 200) / 4) :
  Calls Tryz.prog 10 #[.pointer (some ⟨X, 0,none⟩), .int .i64 id, .agg (boxC v)] w fun e w' => e = .returned (.int .i64 0) ∧ Off F w w' := by
 refine (live_put h.1 hid hv hr1 hr2).mono ?_
 rintro e w' ⟨rfl,hC,_⟩
 exact ⟨rfl,hC.offs⟩
theorem s_alike (h : LiveS w F p X n σ tb) {G : Nat} {sv : Value} {room : Int} (hG : Blk w G 62 (gameC p X sv room)) (mv : Value) (hm : TabV w 0 mv tb) :
  Calls Tryz.prog 17 #[.pointer (some ⟨G, 0,none⟩), .agg #[mv]] w fun e w' => e = .returned (.bool true) ∧ Off F w w' ∧ ∃ σ' F',LiveS w' F' p X n σ' tb ∧ (∀ k,F' k → F k ∨ w.heap.size ≤ k) := by
 refine (alike_gen w (NF w F) G p X n σ sv room tb hG h.1 mv tb hm).mono ?_
 rintro e w' ⟨⟨r,rfl,hr⟩,hC, σ',hL⟩
 obtain ⟨F',h1,h2⟩ := hL.then
 exact ⟨by rw [hr.2 rfl],hC.offs, σ',F',h1,h2⟩
theorem s_load {img : ByteArray} (h : ImgOf img n tb) (w : World) :
  Calls Tryz.prog 19 #[.string img] w fun e w' => ∃ p F,e = .returned (.tuple #[.pointer (some ⟨p, 0,none⟩), .int .i64 0]) ∧ DiskS w' F p n tb ∧ (∀ k,F k → w.heap.size ≤ k) ∧ Below w.heap.size w w' := by
 refine (img_load h w).mono ?_
 rintro e w' ⟨p,rfl,hD,hb⟩
 obtain ⟨F,h1,h2⟩ := hD.own
 exact ⟨p,F,rfl,h1,fun k hk => Nat.not_lt.1 (h2 k hk),hb⟩
end
end
section
set_option maxRecDepth 100000 in
set_option maxHeartbeats 4000000 in
theorem copies_any (w : World) (N : Nat → Prop) (G p X n : Nat) (σ : PS) (sv : Value) (tb : List (Int × Box)) (hGw : Blk w G 62 (gameC p X sv (((n - 200) / 4 : Nat) : Int))) (hLw : LiveX w N p X n σ tb) (mv : Value) (hm : TabV w 0 mv tb) (hrm : tb.length ≤ (n - 200) / 4) :
  Calls Tryz.prog 22 #[.pointer (some ⟨G, 0,none⟩), .agg #[mv]] w fun e w' => e = .returned (.bool true) ∧ Below w.heap.size w w' := by
 obtain ⟨ma,mc,rfl,_,_,_⟩ := own_shape hm
 obtain ⟨W0,hW0⟩ : ∃ W0,w.alloc (.cells #[.slice ma tb.length mc] 60) = W0 := ⟨_,rfl⟩
 have hb0 : Below w.heap.size w W0 := by rw [← hW0]; exact (Below.refl _ w).alloc (Nat.le_refl _) _
 have B0 : Blk W0 w.heap.size 60 #[.slice ma tb.length mc] := by rw [← hW0]; exact Blk.new w 60 _
 have HW0 : Hid (w.alloc (.cells #[.slice ma tb.length mc] 60) = W0) := hW0
 have hG : Blk W0 G 62 (gameC p X sv (((n - 200) / 4 : Nat) : Int)) := (hb0.block G hGw.lt).trans hGw
 have hL := hLw.below hb0
 have hup := hL.up
 have hn1 := hup.2.1
 have HU : Hid (Ups tb) := hup.1
 have hM0 := own_below hm hb0
 have him := live_image hL
 have cD : W0.cell? ⟨G, 0,none⟩ = some (.pointer (some ⟨p, 0,none⟩)) := hG.cell 0
 have HG0 : Hid (Blk W0 G 62 (gameC p X sv (((n - 200) / 4 : Nat) : Int))) := hG
 have HS0 : Hid (Blk W0 w.heap.size 60 #[.slice ma tb.length mc]) := B0
 have HM0 : Hid (TabV W0 0 (.slice ma tb.length mc) tb) := hM0
 have HBW0 : Hid (Below w.heap.size w W0) := hb0
 clear hW0 hb0 hGw hLw hG hL hm hM0 B0 hup
 go_enter Tryz.func22,Tryz.ntmps22
 go_upto_region 1 with fail
 rw [HW0.out]
 go_upto_region 2 with (go_at_call 18; refine him.mono ?_; rintro e w1 ⟨img,rfl,hb1,hI⟩)
 have HG : Hid (Blk w1 G 62 (gameC p X sv (((n - 200) / 4 : Nat) : Int))) := HG0.out.below hb1 HG0.out.lt
 have HS : Hid (Blk w1 w.heap.size 60 #[.slice ma tb.length mc]) := HS0.out.below hb1 HS0.out.lt
 have HM : Hid (TabV w1 0 (.slice ma tb.length mc) tb) := own_below HM0.out hb1
 have HW : Hid (Below w.heap.size w w1) := HBW0.out.trans (hb1.mono HBW0.out.size)
 have hl1 := s_load hI w1
 clear him cD HG0 HS0 HM0 HBW0 hb1 HW0
 go_upto_region 3 with (go_at_call 19; refine hl1.mono ?_; rintro e w2 ⟨pa,Fa,rfl,hDa,hFa,hb2⟩)
 have hl2 := s_load hI w2
 clear hl1
 go_upto_region 6 with (go_at_call 19; refine hl2.mono ?_; rintro e w3 ⟨pb,Fb,rfl,hDb,hFb2,hb3⟩)
 have hs2 := hb2.size
 have hs3 := hb3.size
 have hFa2 := hDa.2.1
 have hFb3 := hDb.2.1
 have hFb : ∀ k,Fb k → w1.heap.size ≤ k := fun k hk => by have := hFb2 k hk; omega
 have hop := s_open (hDa.below hb3)
 have HDb3 : Hid (DiskS w3 Fb pb n tb) := hDb
 have HB3 : Hid (Below w1.heap.size w1 w3) := hb2.trans (hb3.mono hs2)
 clear hl2 hDa hDb hb2 hb3 hI
 go_upto_region 9 with (go_at_call 21; refine hop.mono ?_; rintro e w4 ⟨Xa, σa,Fa',rfl,o4,hL4,hF4⟩)
 have HB4 : Hid (Below w1.heap.size w1 w4) := HB3.out.trans (o4.below (by omega) (fun k hk => hFa k hk))
 have HDb4 : Hid (DiskS w4 Fb pb n tb) := HDb3.out.keep o4 (fun k h1 h2 => by have := hFb2 k h1; have := hFa2 k h2; omega)
 have HL4 : Hid (LiveS w4 Fa' pa Xa n σa tb) := hL4
 have g4 := HG.out.below HB4.out HG.out.lt
 have s4 := HS.out.below HB4.out HS.out.lt
 obtain ⟨rm,hrme⟩ : ∃ rm,(n - 200) / 4 = rm := ⟨_,rfl⟩
 have HRM : Hid ((n - 200) / 4 = rm) := hrme
 have HGr : Hid (Blk w1 G 62 (gameC p X sv (rm : Int))) := by show Blk _ _ _ _; rw [← hrme]; exact HG.out
 rw [hrme] at g4 hrm
 clear HG
 have HG : Hid (Blk w1 G 62 (gameC p X sv (rm : Int))) := HGr.out
 have r4 : w4.cell? ⟨G, 3,none⟩ = some (.int .i64 (rm : Int)) := g4.cell 3
 have m4 : w4.cell? ⟨w.heap.size, 0,none⟩ = some (.slice ma tb.length mc) := s4.cell 0
 clear hrme HGr hop o4 hL4 g4 s4 HDb3 HB3
 by_cases hfull : tb.length < rm
 ·have hf1 : (tb.length : Int) < (rm : Int) := by omega
  go_quiet (fail)
  obtain ⟨W5,hW5⟩ : ∃ W5,w4.drewN nq = W5 := ⟨_,rfl⟩
  have hb5 : Below w4.heap.size w4 W5 := by rw [← hW5]; exact below_drewN w4 nq _
  rw [hW5]
  have hl2 : (tput 500000 ⟨7, 7, 7, 7⟩ tb).length ≤ (n - 200) / 4 := by
   rw [HRM.out]
   cases hg : tget (500000 : Int) tb with
   | none => rw [tput_len_new hg]; omega
   | some v0 => rw [tput_len HU.out hg]; omega
  have hpt := s_put (HL4.out.below hb5) (id := 500000) (by omega) (v := ⟨7, 7, 7, 7⟩) ⟨by simp,by simp,by simp,by simp⟩ (by rw [HRM.out]; exact hrm) hl2
  simp only [boxC] at hpt
  have HB5 : Hid (Below w1.heap.size w1 W5) := HB4.out.trans (hb5.mono HB4.out.size)
  have HDb5 : Hid (DiskS W5 Fb pb n tb) := HDb4.out.below hb5
  have hs5 := HB5.out.size
  clear hW5 hb5 r4 m4 hl2
  go_upto_region 13 with (go_at_call 10; refine hpt.mono ?_; rintro e w6 ⟨rfl,o6⟩)
  have HB : Hid (Below w1.heap.size w1 w6) := HB5.out.trans (o6.below hs5 (fun k hk => by have := hF4 k hk; rcases this with h | h; exact hFa k h; omega))
  have HDb : Hid (DiskS w6 Fb pb n tb) := HDb5.out.keep o6 (fun k h1 h2 => by have h8 := hFb2 k h1; have h9 := hFb3 k h1; have := hF4 k h2; rcases this with h | h; have := hFa2 k h; omega; omega)
  clear hpt HB5 HDb5 o6
  ·skip
   have hop2 := s_open HDb.out
   go_upto_region 16 with (go_at_call 21; refine hop2.mono ?_; rintro e w7 ⟨X7, σ7,Fb',rfl,o7,hL7,hF7⟩)
   have hB7 : Below w1.heap.size w1 w7 := HB.out.trans (o7.below (by have := HB.out.size; omega) (fun k hk => by have := hFb k hk; omega))
   have g7 := HG.out.below hB7 HG.out.lt
   have s7 := HS.out.below hB7 HS.out.lt
   have cR : w7.cell? ⟨G, 3,none⟩ = some (.int .i64 (rm : Int)) := g7.cell 3
   obtain ⟨W8,hW8⟩ : ∃ W8,w7.alloc (.cells #[.pointer (some ⟨pb, 0,none⟩), .pointer (some ⟨X7, 0,none⟩), .slice none 0 0, .int .i64 (rm : Int)] 62) = W8 := ⟨_,rfl⟩
   have hb8 : Below w7.heap.size w7 W8 := by rw [← hW8]; exact (Below.refl _ w7).alloc (Nat.le_refl _) _
   have G8 : Blk W8 w7.heap.size 62 (gameC pb X7 (.slice none 0 0) (rm : Int)) := by rw [← hW8]; exact Blk.new w7 62 _
   have HW8 : Hid (w7.alloc (.cells #[.pointer (some ⟨pb, 0,none⟩), .pointer (some ⟨X7, 0,none⟩), .slice none 0 0, .int .i64 (rm : Int)] 62) = W8) := hW8
   have hs7 := hB7.size
   have HB8 : Hid (Below w1.heap.size w1 W8) := hB7.trans (hb8.mono (by omega))
   have hal := s_alike (hL7.below hb8) G8 (.slice ma tb.length mc) (own_below HM.out HB8.out)
   have s8 := HS.out.below HB8.out HS.out.lt
   have cM : W8.cell? ⟨w.heap.size, 0,none⟩ = some (.slice ma tb.length mc) := s8.cell 0
   clear hop2 hW8 hb8 G8 o7 hL7 g7 s7 s8 hB7
   go_upto_region 17 with fail
   rw [HW8.out]
   go_wp2_with (go_at_call 17; refine hal.mono ?_; rintro e w9 ⟨rfl,o9,_⟩)
   go_ret
   have hB9 : Below w1.heap.size w1 w9 := HB8.out.trans (o9.below (by have := HB8.out.size; omega) (fun k hk => by have := hF7 k hk; have := HB.out.size; rcases hF7 k hk with h | h; exact hFb k h; omega))
   exact ⟨rfl,HW.out.trans (hB9.mono (by have := HW.out.size; omega))⟩
 ·have hf1 : ¬ (tb.length : Int) < (rm : Int) := by omega
  go_quiet (fail)
  obtain ⟨W5,hW5⟩ : ∃ W5,w4.drewN nq = W5 := ⟨_,rfl⟩
  have hb5 : Below w4.heap.size w4 W5 := by rw [← hW5]; exact below_drewN w4 nq _
  rw [hW5]
  have HB : Hid (Below w1.heap.size w1 W5) := HB4.out.trans (hb5.mono HB4.out.size)
  have HDb : Hid (DiskS W5 Fb pb n tb) := HDb4.out.below hb5
  clear hW5 hb5 r4 m4
  ·skip
   have hop2 := s_open HDb.out
   go_upto_region 16 with (go_at_call 21; refine hop2.mono ?_; rintro e w7 ⟨X7, σ7,Fb',rfl,o7,hL7,hF7⟩)
   have hB7 : Below w1.heap.size w1 w7 := HB.out.trans (o7.below (by have := HB.out.size; omega) (fun k hk => by have := hFb k hk; omega))
   have g7 := HG.out.below hB7 HG.out.lt
   have s7 := HS.out.below hB7 HS.out.lt
   have cR : w7.cell? ⟨G, 3,none⟩ = some (.int .i64 (rm : Int)) := g7.cell 3
   obtain ⟨W8,hW8⟩ : ∃ W8,w7.alloc (.cells #[.pointer (some ⟨pb, 0,none⟩), .pointer (some ⟨X7, 0,none⟩), .slice none 0 0, .int .i64 (rm : Int)] 62) = W8 := ⟨_,rfl⟩
   have hb8 : Below w7.heap.size w7 W8 := by rw [← hW8]; exact (Below.refl _ w7).alloc (Nat.le_refl _) _
   have G8 : Blk W8 w7.heap.size 62 (gameC pb X7 (.slice none 0 0) (rm : Int)) := by rw [← hW8]; exact Blk.new w7 62 _
   have HW8 : Hid (w7.alloc (.cells #[.pointer (some ⟨pb, 0,none⟩), .pointer (some ⟨X7, 0,none⟩), .slice none 0 0, .int .i64 (rm : Int)] 62) = W8) := hW8
   have hs7 := hB7.size
   have HB8 : Hid (Below w1.heap.size w1 W8) := hB7.trans (hb8.mono (by omega))
   have hal := s_alike (hL7.below hb8) G8 (.slice ma tb.length mc) (own_below HM.out HB8.out)
   have s8 := HS.out.below HB8.out HS.out.lt
   have cM : W8.cell? ⟨w.heap.size, 0,none⟩ = some (.slice ma tb.length mc) := s8.cell 0
   clear hop2 hW8 hb8 G8 o7 hL7 g7 s7 s8 hB7
   go_upto_region 17 with fail
   rw [HW8.out]
   go_wp2_with (go_at_call 17; refine hal.mono ?_; rintro e w9 ⟨rfl,o9,_⟩)
   go_ret
   have hB9 : Below w1.heap.size w1 w9 := HB8.out.trans (o9.below (by have := HB8.out.size; omega) (fun k hk => by have := hF7 k hk; have := HB.out.size; rcases hF7 k hk with h | h; exact hFb k h; omega))
   exact ⟨rfl,HW.out.trans (hB9.mono (by have := HW.out.size; omega))⟩
end
section
structure MvR where
 k : Int
 a : Int
 b : Int
structure MAt (w : World) (so : Option Addr) (ls : Nat) (O : Nat → MvR) : Prop where
 at_ : ∀ i,i < ls → ∃ a,so = some a ∧ a.block < w.heap.size ∧ w.cell? (a.add (i * 3)) = some (.int .i64 (O i).k) ∧ w.cell? ⟨(a.add (i * 3)).block,(a.add (i * 3)).off + 1,none⟩ = some (.int .i64 (O i).a) ∧ w.cell? ⟨(a.add (i * 3)).block,(a.add (i * 3)).off + 2,none⟩ = some (.int .i64 (O i).b)
 wf : ∀ i,i < ls → (Lit.int .i64 (O i).k).wf = true ∧ (Lit.int .i64 (O i).a).wf = true ∧ (Lit.int .i64 (O i).b).wf = true
end
end Go.Proofs.YtdgbgmffpcooeaaGreat
