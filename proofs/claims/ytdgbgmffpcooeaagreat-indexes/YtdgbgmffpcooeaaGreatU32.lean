/- Cm4 Cm5 Pt1 Pt2 Ix3 -/
import Derived.Test.YtdgbgmffpcooeaaGreatU29
namespace Go.Proofs.YtdgbgmffpcooeaaGreat
open Go.RowKit Go.Lib Go.Maps
section
theorem src_secs {W : World} {base : Nat} {v : Value} {l : List Nat} (h : W.ownsRow base 3 1 v l.length (secsV l)) : Src W 1 v l.length (secsV l) := by
 refine ⟨by simp [secsV],fun u hu => ?_, ?_⟩
 ·obtain ⟨i,_,rfl⟩ := List.mem_map.1 hu; rfl
 ·obtain ⟨_,⟨h1,h2⟩ | ⟨g,cap,cur,h1,_,h3,h4,h5,h6,h7⟩⟩ := h
  ·exact .inl ⟨h1,h2⟩
  ·refine .inr ⟨⟨g, 0,none⟩,cap,h1,fun j u hu => ⟨(Array.getElem?_eq_some_iff.1 h3).1, ?_⟩⟩
   have hj := (List.getElem?_eq_some_iff.1 hu).1
   rw [Addr.add_mid]
   simp only [World.cell?,h3,Nat.zero_add]
   rw [← Array.getElem?_toList]
   have := h7
   rw [← this,List.getElem?_take_of_lt (by simpa [secsV] using hj)] at hu
   exact hu
theorem wrAll_left : ∀ (l : List (Nat × Node Box)) {s : PS},(-1 ≤ s.left ∧ s.left ≤ 9223372036854775807) → -1 ≤ (wrAll l s).2.left ∧ (wrAll l s).2.left ≤ 9223372036854775807
 | [],s,h => h
 | x :: l,s,h => by
  unfold wrAll
  split
  ·exact wrAll_left l (wr_left h)
  ·exact wr_left h
theorem nodes_left {s : PS} {made : Nat → Option (Node Box)} (h : -1 ≤ s.left ∧ s.left ≤ 9223372036854775807) : -1 ≤ (s.nodes made).2.left ∧ (s.nodes made).2.left ≤ 9223372036854775807 := by
 unfold PS.nodes
 split
 ·exact flush_left (wrAll_left _ h)
 ·exact wrAll_left _ h
def CommitP (w : World) (base : Nat) (A : PA) (s0 : PS) (t : Nat) (f : Value) (s : CS Box) (spare : Nat) (R : Int × PS) (e : Ending) (w' : World) : Prop :=
 (s.free.length + s.left.length < spare ∧ e = .returned (.int .i64 10) ∧ PD w' base A (s0.at_ s.reads) ∧ TreeB w' t A f ∧ Off A.F w w') ∨
 (spare ≤ s.free.length + s.left.length ∧ e = .returned (.int .i64 R.1) ∧ ∃ m',PD w' base { A with m := m' } R.2 ∧ (m' = A.m ∨ w.heap.size ≤ m') ∧ Off (fun k => A.F k ∨ k = t) w w' ∧
  ((R.1 = 0 ∧ ∃ f',TreeB w' t A f' ∧ w'.ownsRow w.heap.size 3 1 f' (s.free ++ s.left).length (secsV (s.free ++ s.left))) ∨ (R.1 ≠ 0 ∧ TreeB w' t A f)))
set_option maxRecDepth 100000 in
set_option maxHeartbeats 8000000 in
theorem commit_any (w : World) (base : Nat) (A : PA) (s0 : PS) (t : Nat) (f : Value) (cb c mb root : Nat) (s : CS Box) (fv lv : Value) (h : Cg w base A s0 t f cb c mb root s fv lv) (hlf : -1 ≤ s0.left ∧ s0.left ≤ 9223372036854775807) (hst : ∀ i nd,s.made i = some nd → Stands nd) (spare : Nat) :
  Calls Tryz.prog 85 #[.pointer (some ⟨c, 0,none⟩), .int .i64 (spare : Int)] w (CommitP w base A s0 t f s spare ((s0.at_ s.reads).commit s.made root)) := by
 have hct := h.ct
 have hch := h.ch
 have c3 : w.cell? ⟨c, 3,none⟩ = some fv := hch.blk.cell 3
 have c4 : w.cell? ⟨c, 4,none⟩ = some lv := hch.blk.cell 4
 have hsf : Src w 1 fv s.free.length (secsV s.free) := src_secs hch.free
 have hsl : Src w 1 lv s.left.length (secsV s.left) := src_secs hch.left
 have hfew := hch.few
 obtain ⟨fa,fc,rfl,_,_,_⟩ := own_shape hch.free
 obtain ⟨la,lc,rfl,_,_,_⟩ := own_shape hch.left
 have hb1 : Below w.heap.size w ((w.alloc (.cells #[.slice fa s.free.length fc, .slice la s.left.length lc] 35)).drew) := ((Below.refl _ w).alloc (Nat.le_refl _) _).drew
 have hcat := concatI_any ((w.alloc (.cells #[.slice fa s.free.length fc, .slice la s.left.length lc] 35)).drew) w.heap.size [⟨.slice fa s.free.length fc,s.free.length,secsV s.free⟩,⟨.slice la s.left.length lc,s.left.length,secsV s.left⟩] 2 rfl (fun i x hx => by
  have hB : Blk ((w.alloc (.cells #[.slice fa s.free.length fc, .slice la s.left.length lc] 35)).drew) w.heap.size 35 #[.slice fa s.free.length fc, .slice la s.left.length lc] := Blk.new w 35 _
  refine ⟨hB.lt, ?_⟩
  match i,hx with
  | 0,hx => cases hx; exact hB.cell 0
  | 1,hx => cases hx; exact hB.cell 1) (fun x hx => by
  simp only [List.mem_cons,List.not_mem_nil,or_false] at hx
  rcases hx with rfl | rfl
  ·exact hsf.below hb1
  ·exact hsl.below hb1) (by simp [lenS]; omega) (by omega)
 have hcat2 : Calls Tryz.prog 115 #[.slice (some ⟨w.heap.size, 0,none⟩) 2 2] ((w.alloc (.cells #[.slice fa s.free.length fc, .slice la s.left.length lc] 35)).drew) fun e w' => ∃ va vc,e = .returned (.slice va (s.free ++ s.left).length vc) ∧ w'.ownsRow w.heap.size 3 1 (.slice va (s.free ++ s.left).length vc) (s.free ++ s.left).length (secsV (s.free ++ s.left)) ∧ Below w.heap.size w w' := by
  refine hcat.mono ?_
  rintro e w' ⟨v,rfl,hown,hb⟩
  have e1 : lenS [⟨.slice fa s.free.length fc,s.free.length,secsV s.free⟩,⟨.slice la s.left.length lc,s.left.length,secsV s.left⟩] = (s.free ++ s.left).length := by simp [lenS]
  have e2 : allS [⟨.slice fa s.free.length fc,s.free.length,secsV s.free⟩,⟨.slice la s.left.length lc,s.left.length,secsV s.left⟩] = secsV (s.free ++ s.left) := by simp [allS,secsV]
  rw [e1,e2] at hown
  obtain ⟨va,vc,rfl,_,_,_⟩ := own_shape hown
  exact ⟨va,vc,rfl,own_mono hown hb1.size,hb1.trans (hb.mono hb1.size)⟩
 have HCT : Hid (Ct w A t f cb c mb root s (.slice fa s.free.length fc) (.slice la s.left.length lc)) := hct
 have HPD : Hid (PD w base A (s0.at_ s.reads)) := h.pd
 have HST : Hid _ := hst
 obtain ⟨L,hL⟩ : ∃ L,(s.free ++ s.left).length = L := ⟨_,rfl⟩
 have hL2 : s.free.length + s.left.length = L := by rw [← hL]; simp
 rw [hL] at hcat2
 have HL : Hid ((s.free ++ s.left).length = L) := hL
 have HL2 : Hid (s.free.length + s.left.length = L) := hL2
 have hLb : L ≤ 100000 := by omega
 have hcl := hct.cl
 have hcm : (s0.at_ s.reads).commit s.made root = if ((s0.at_ s.reads).nodes s.made).1 = 0 then ((s0.at_ s.reads).nodes s.made).2.headW root else (s0.at_ s.reads).nodes s.made := rfl
 generalize (s0.at_ s.reads).commit s.made root = R at hcm ⊢
 have HCM : Hid (R = if ((s0.at_ s.reads).nodes s.made).1 = 0 then ((s0.at_ s.reads).nodes s.made).2.headW root else (s0.at_ s.reads).nodes s.made) := hcm
 clear hcm
 clear h hct hch hst hcat hsf hsl hb1 hL hL2 hfew
 go_enter Tryz.func85,Tryz.ntmps85
 go_upto_region 1 with fail
 go_region_held3 (fun W' => W'.cell? ⟨c, 3,none⟩ = some (.slice fa s.free.length fc) ∧ W'.cell? ⟨c, 4,none⟩ = some (.slice la s.left.length lc))
  (first
   | exact ⟨(hbw.cell (p := ⟨c, 3,none⟩) hcl.1).trans c3,(hbw.cell (p := ⟨c, 4,none⟩) hcl.1).trans c4⟩
   | exact ⟨c3,c4⟩
   | go_keep)
  (first
   | (go_at_call 115; refine hcat2.mono ?_; rintro e w1 ⟨va,vc,rfl,hown,hbw⟩))
 have hp1 := HPD.out.below hbw
 have hc1 := HCT.out.below hbw
 by_cases hsp : L < spare
 ·have hsp' : (L : Int) < (spare : Int) := by omega
  have HP1 : Hid _ := hp1
  have HC1 : Hid _ := hc1
  clear hp1 hc1 hcat2
  go_wp2
  go_ret
  exact Or.inl ⟨by rw [HL2.out]; exact hsp,rfl,HP1.out,HC1.out.tr,Off.of_below hbw⟩
 ·have hsp' : ¬ ((L : Int) < (spare : Int)) := by omega
  have hwn := writeNodes_any w1 base A (s0.at_ s.reads) t f cb c mb root s _ _ hp1 hc1 hlf HST.out
  have hleft : -1 ≤ ((s0.at_ s.reads).nodes s.made).2.left ∧ ((s0.at_ s.reads).nodes s.made).2.left ≤ 9223372036854775807 := nodes_left hlf
  have hcm := HCM.out
  clear HCM
  generalize (s0.at_ s.reads).nodes s.made = N at hwn hleft hcm
  obtain ⟨ne,ns⟩ := N
  simp only at hwn hleft hcm
  have HOWN : Hid (w1.ownsRow w.heap.size 3 1 (.slice va L vc) L (secsV (s.free ++ s.left))) := hown
  have HBW : Hid (Below w.heap.size w w1) := hbw
  have HPD1 : Hid (PD w1 base A (s0.at_ s.reads)) := hp1
  have hbs := hbw.size
  have htl := HCT.out.tr.lt
  clear hp1 hc1 hcat2 hown hbw c3 c4
  by_cases hne : ne = 0
  ·subst hne
   rw [if_pos rfl] at hcm
   have hR := hcm.symm
   have HH : Hid (∀ w2 m2,PD w2 base { A with m := m2 } ns → Ct w2 A t f cb c mb root s (.slice fa s.free.length fc) (.slice la s.left.length lc) → Calls Tryz.prog 117 #[.pointer (some ⟨c, 0,none⟩)] w2 fun e w' => ∃ m',e = .returned (.int .i64 R.1) ∧ PD w' base { A with m := m' } R.2 ∧ Off ({ A with m := m2 } : PA).F w2 w' ∧ (m' = m2 ∨ w2.heap.size ≤ m')) := fun w2 m2 hp hc => by
    rw [← hR]; exact writeHead_any w2 base { A with m := m2 } ns t c mb root f _ _ hp hc.tr hc.ch.blk hleft
   clear hR hcm
   obtain ⟨re,rs⟩ := R
   simp only at HH
   by_cases hre : re = 0
   ·subst hre
    go_upto_region 7 with (go_at_call 116; refine hwn.mono ?_; rintro e w2 ⟨m2,rfl,hP2,hC2,o2,hm2⟩)
    have hwh := HH.out w2 m2 hP2 hC2
    go_upto_region 10 with (go_at_call 117; refine hwh.mono ?_; rintro e w3 ⟨m3,rfl,hP3,o3,hm3⟩)
    have hs2 := o2.size
    have ht2 : TreeB w2 t A f := hC2.tr
    have htA : ¬ ({ A with m := m2 } : PA).F t := hP2.nott ht2
    have hcA : ¬ ({ A with m := m2 } : PA).F c := fun hf => hP2.notTag hf hC2.ch.blk (by decide) (by decide) (by decide)
    have bt3 : TreeB w3 t A f := (o3.block t ht2.lt htA).trans ht2
    have bc3 := (o3.block c hC2.ch.blk.lt hcA).trans hC2.ch.blk
    have d0 : w3.cell? ⟨c, 0,none⟩ = some (.pointer (some ⟨t, 0,none⟩)) := (show Blk w3 c 185 _ from bc3).cell 0
    have d1 : w3.cell? ⟨t, 1,none⟩ = some f := bt3.cell 1
    have g1 : w3.frozen? ⟨t, 1,none⟩ = false := bt3.frozen 1
    have HC2 : Hid _ := hC2
    have HP3 : Hid _ := hP3
    have HP2 : Hid (PD w2 base { A with m := m2 } ns) := hP2
    clear hwh hwn hC2 hP3 hP2
    go_wp2
    go_ret
    have o4 : Off (fun k => k = t) w3 (w3.setCell ⟨t, 1,none⟩ (.slice va L vc)) := Off.one w3 _
    have htA3 : ¬ ({ A with m := m3 } : PA).F t := HP3.out.nott bt3
    have oW : Off (fun k => A.F k ∨ k = t) w w3 := ((Off.of_below (F := fun k => A.F k ∨ k = t) HBW.out).step o2 (fun k _ h => .inl h)).step o3 (fun k hk h => by
     rcases h with h | h | h | h
     ·exact .inl (.inl h)
     ·exact .inl (.inr (.inl h))
     ·exact .inl (.inr (.inr (.inl h)))
     ·have h' : k = m2 := h
      rcases hm2 with e | e
      ·exact .inl (.inr (.inr (.inr (h'.trans e))))
      ·omega)
    refine Or.inr ⟨by rw [HL2.out]; omega,rfl,m3,HP3.out.off o4 (fun k hk e => htA3 (e ▸ hk)), ?_,oW.step o4 (fun k _ h => .inr h), .inl ⟨rfl,_,bt3.set 1 _, ?_⟩⟩
    ·rcases hm3 with rfl | e
     ·rcases hm2 with rfl | e
      ·exact .inl rfl
      ·exact .inr (by omega)
     ·exact .inr (by omega)
    ·rw [HL.out]
     have n1 : ∀ g,(Value.slice va L vc).ownBlock = some g → ¬ A.F g := fun g hg hf => HPD1.out.notInt hf (own_tagged HOWN.out hg).2
     have k1 := own_offv HOWN.out o2 n1
     have n2 : ∀ g,(Value.slice va L vc).ownBlock = some g → ¬ ({ A with m := m2 } : PA).F g := fun g hg hf => HP2.out.notInt hf (own_tagged k1 hg).2
     have k2 := own_offv k1 o3 n2
     refine own_offv k2 o4 (fun g hg e => ?_)
     have e' : g = t := e
     have := (own_tagged HOWN.out hg).1
     omega
   ·have hre' : (re != 0) = true := by simpa using hre
    go_upto_region 7 with (go_at_call 116; refine hwn.mono ?_; rintro e w2 ⟨m2,rfl,hP2,hC2,o2,hm2⟩)
    have hwh := HH.out w2 m2 hP2 hC2
    have HC2 : Hid (Ct w2 A t f cb c mb root s (.slice fa s.free.length fc) (.slice la s.left.length lc)) := hC2
    have HP2 : Hid (PD w2 base { A with m := m2 } ns) := hP2
    clear hC2 hP2 hwn
    go_wp2_with (go_at_call 117; refine hwh.mono ?_; rintro e w3 ⟨m3,rfl,hP3,o3,hm3⟩)
    go_ret
    have hs2 := o2.size
    have ht2 : TreeB w2 t A f := HC2.out.tr
    have htA : ¬ ({ A with m := m2 } : PA).F t := HP2.out.nott ht2
    have bt3 : TreeB w3 t A f := (o3.block t ht2.lt htA).trans ht2
    have oW : Off (fun k => A.F k ∨ k = t) w w3 := ((Off.of_below (F := fun k => A.F k ∨ k = t) HBW.out).step o2 (fun k _ h => .inl h)).step o3 (fun k hk h => by
     rcases h with h | h | h | h
     ·exact .inl (.inl h)
     ·exact .inl (.inr (.inl h))
     ·exact .inl (.inr (.inr (.inl h)))
     ·have h' : k = m2 := h
      rcases hm2 with e | e
      ·exact .inl (.inr (.inr (.inr (h'.trans e))))
      ·omega)
    refine Or.inr ⟨by rw [HL2.out]; omega,rfl,m3,hP3, ?_,oW, .inr ⟨hre,bt3⟩⟩
    rcases hm3 with rfl | e
    ·rcases hm2 with rfl | e
     ·exact .inl rfl
     ·exact .inr (by omega)
    ·exact .inr (by omega)
  ·rw [if_neg hne] at hcm
   subst hcm
   have hne' : (ne != 0) = true := by simpa using hne
   go_wp2_with (go_at_call 116; refine hwn.mono ?_; rintro e w2 ⟨m2,rfl,hP2,hC2,o2,hm2⟩)
   go_ret
   refine Or.inr ⟨by rw [HL2.out]; omega,rfl,m2,hP2,hm2.imp (fun h => h) (fun h => by omega),(Off.of_below (F := fun k => A.F k ∨ k = t) HBW.out).step o2 (fun k _ h => .inl h), .inr ⟨hne,hC2.tr⟩⟩
end
section
theorem cloneI_any (w : World) (base : Nat) (v : Value) (l : List Nat) (h : w.ownsRow base 3 1 v l.length (secsV l)) (hl : l.length ≤ 100000) :
  Calls Tryz.prog 109 #[v] w fun e w' => ∃ a c,e = .returned (.slice a l.length c) ∧ w'.ownsRow w.heap.size 3 1 (.slice a l.length c) l.length (secsV l) ∧ Below w.heap.size w w' := by
 obtain ⟨_,⟨h1,h2⟩ | ⟨g,cap,cur,h1,_,h3,h4,h5,h6,h7⟩⟩ := h
 ·subst h1
  have e : l = [] := List.eq_nil_of_length_eq_zero h2
  subst e
  refine (Any.slices_Clone_int_nil Tryz.cloneI 0 0 w).mono ?_
  rintro e w' ⟨rfl,rfl⟩
  exact ⟨none, 0,rfl,World.ownsRow_nil ..,Below.refl _ _⟩
 ·subst h1
  by_cases hn : l = []
  ·subst hn
   refine (Any.slices_Clone_int_zero Tryz.cloneI ⟨g, 0,none⟩ cap w).mono ?_
   rintro e w' ⟨v',rfl,ho,_,hb⟩
   have ho' : w'.ownsRow w.heap.size 3 1 v' 0 [] := ho
   obtain ⟨a,c,rfl,_⟩ := own_shape ho'
   exact ⟨a,c,rfl,ho',hb⟩
  ·refine (Any.slices_Clone_int Tryz.cloneI g 0 l.length cap (l.map fun i : Nat => (i : Int)) w (by simp) (by omega) (fun j hj => ?_)).mono ?_
   ·simp only [List.length_map] at hj
    simp only [World.cell?,h3,Nat.zero_add]
    rw [← Array.getElem?_toList]
    have hu : (secsV l)[j]? = some (.int .i64 ((l.map fun i : Nat => (i : Int)).getD j 0)) := by simp [secsV,List.getD,List.getElem?_eq_getElem hj]
    rw [← h7,List.getElem?_take_of_lt (by omega)] at hu
    exact hu
   ·rintro e w' ⟨v',rfl,ho,_,hb⟩
    have ho' : w'.ownsRow w.heap.size 3 1 v' l.length (secsV l) := by
     have e : ((l.map fun i : Nat => (i : Int)).take l.length).map (Value.int .i64) = secsV l := by rw [List.take_of_length_le (by simp)]; simp [secsV]
     rw [e] at ho; exact ho
    obtain ⟨a,c,rfl,_⟩ := own_shape ho'
    exact ⟨a,c,rfl,ho',hb⟩
theorem PS.adv_at0 (s : PS) : s.adv.at_ 0 = s.adv := by
 unfold PS.adv PS.at_ wrap64
 simp only [PS.mk.injEq,true_and]
 omega
set_option maxRecDepth 100000 in
set_option maxHeartbeats 4000000 in
theorem change_live (w : World) (base : Nat) (A : PA) (s : PS) (t tb : Nat) (f : Value) (fr : List Nat) (root : Nat) (hp : PD w base A s) (ht : TreeB w t A f) (hf : w.ownsRow tb 3 1 f fr.length (secsV fr)) (hfl : fr.length ≤ 4096) (hs : s.brk = false) (hh : headOf (s.now 0).data.toList = some root) :
  Calls Tryz.prog 81 #[.pointer (some ⟨t, 0,none⟩)] w fun e w' => ∃ c mb fv lv,e = .returned (.tuple #[.pointer (some ⟨c, 0,none⟩), .int .i64 0]) ∧ Cg w' base A s.adv t f w.heap.size c mb root ⟨fr, [],fun _ => none, 0, 0⟩ fv lv ∧ Off A.F w w' := by
 have hroot := root_live w base A s hp t f ht hs
 rw [hh] at hroot
 simp only at hroot
 have htA : ¬ A.F t := hp.nott ht
 have hFw : ∀ k,A.F k → k < w.heap.size := fun k hk => (hp.lt k hk).2
 have htl := ht.lt
 have HC : Hid (∀ w1,Off A.F w w1 → TreeB w1 t A f ∧ Calls Tryz.prog 109 #[f] (w1.alloc (.map #[] 0)) fun e w' => ∃ a c,e = .returned (.slice a fr.length c) ∧ w'.ownsRow (w1.alloc (.map #[] 0)).heap.size 3 1 (.slice a fr.length c) fr.length (secsV fr) ∧ Below (w1.alloc (.map #[] 0)).heap.size (w1.alloc (.map #[] 0)) w') := fun w1 o1 => by
  refine ⟨(o1.block t htl htA).trans ht, ?_⟩
  have h1 := own_offv hf o1 (fun g hg hk => hp.notInt hk (own_tagged hf hg).2)
  exact cloneI_any _ tb f fr (own_below h1 ((Below.refl _ w1).alloc (Nat.le_refl _) _)) (by omega)
 have hmm := @run_makeMap Tryz.prog
 have HS : Hid _ := hs
 clear hp ht hf hs hh
 go_enter Tryz.func81,Tryz.ntmps81
 go_upto_region 4 with (go_at_call 100; refine hroot.mono ?_; rintro e w1 ⟨rfl,hP1,o1⟩)
 obtain ⟨bt,hcl⟩ := HC.out w1 o1
 have ct : (w1.alloc (.map #[] 0)).cell? ⟨t, 1,none⟩ = some f := (bt.alloc (.map #[] 0)).cell 1
 have hs1 := o1.size
 clear hroot HC
 go_wp2_with (go_at_call 109; refine hcl.mono ?_; rintro e w2 ⟨fa,fc,rfl,hown,hb2⟩)
 go_ret2
 have hs2 := hb2.size
 simp only [World.size_alloc] at hs2
 have hbW : Below w1.heap.size w1 w2 := ((Below.refl _ w1).alloc (Nat.le_refl _) _).trans (hb2.mono (by simp))
 have hbW3 := hbW.alloc hbW.size (.cells #[.pointer (some ⟨t, 0,none⟩), .int .i64 (root : Int), .map (some w1.heap.size), .slice fa fr.length fc, .slice none 0 0] 185)
 have hmap : w2.ownsMap Tryz.prog 3 nodR w1.heap.size 0 (.map []) := by
  have h0 := World.ownsMap_made (H := Value) w1 Tryz.prog 3 nodR
  exact nmap_off h0 (Off.of_below (F := fun _ => False) hb2) (fun h => h)
 have hmap3 := nmap_off hmap (Off.of_below (F := fun _ => False) ((Below.refl _ w2).alloc (Nat.le_refl _) (.cells #[.pointer (some ⟨t, 0,none⟩), .int .i64 (root : Int), .map (some w1.heap.size), .slice fa fr.length fc, .slice none 0 0] 185))) (fun h => h)
 refine ⟨w2.heap.size,w1.heap.size, .slice fa fr.length fc, .slice none 0 0,rfl,⟨?_,(bt.below hbW bt.lt).alloc _,⟨Blk.new w2 185 _,⟨by omega,by omega⟩,own_mono (own_below hown ((Below.refl _ w2).alloc (Nat.le_refl _) _)) (by simp; omega),World.ownsRow_nil ..,fun g _ => by simp [Value.ownBlock],⟨0, .map [],hmap3,by omega,⟨fun i _ => by simp [Maps.has],fun i nd h => (by cases h),fun k h => by simp [Maps.has] at h,fun i nd h => (by cases h)⟩⟩,by simp; omega⟩,htl,hFw,⟨by simp,by simp; omega,by simp; omega⟩⟩,o1.trans (Off.of_below hbW3)⟩
 have := (hP1.below hbW).below ((Below.refl _ w2).alloc (Nat.le_refl _) (.cells #[.pointer (some ⟨t, 0,none⟩), .int .i64 (root : Int), .map (some w1.heap.size), .slice fa fr.length fc, .slice none 0 0] 185))
 rw [← PS.adv_at0] at this
 exact this
end
end Go.Proofs.YtdgbgmffpcooeaaGreat
namespace Go.Proofs.YtdgbgmffpcooeaaGreat
open Go.RowKit Go.Lib
section
theorem delAll_snoc (l : List (Key × Box)) (x : Key × Box) (r : List (Key × Box)) : delAll (l ++ [x]) r = del x.1 (delAll l r) := by unfold delAll; rw [List.foldl_append]; rfl
theorem insAll_snoc (l : List (Key × Box)) (x : Key × Box) (r : List (Key × Box)) : insAll (l ++ [x]) r = ins x.1 x.2 (insAll l r) := by unfold insAll; rw [List.foldl_append]; rfl
theorem delAll_len : ∀ (l : List (Key × Box)) {r : List (Key × Box)},Rising r → (delAll l r).length ≤ r.length
 | [],r,_ => Nat.le_refl _
 | x :: l,r,h => by
  have h1 := length_del (k := x.1) h
  have h2 := delAll_len l (rising_del (k := x.1) h)
  have e : delAll (x :: l) r = delAll l (del x.1 r) := rfl
  rw [e]
  split at h1 <;> omega
theorem Way.low {s0 : PS} {us us' : List Nat} {cs : CS Box} {root : Nat} {es : List (Key × Box)} (h : Way s0 us cs root es us') (hn : s0.n ≤ 4096) : Low cs := ⟨h.lowF hn,h.lowM hn⟩
theorem Way.cnt {s0 : PS} {us us' : List Nat} {cs : CS Box} {root : Nat} {es : List (Key × Box)} (h : Way s0 us cs root es us') (h1 : 1 ≤ s0.n) (hn : s0.n ≤ 4096) : cs.cnt ≤ 4096 := by
 have := h.count h1
 show cs.free.length + cs.left.length ≤ 4096
 omega
theorem nodesN_14 {s0 : PS} : ∀ t nd,nodesN s0 t = some nd → nd.size ≤ 14 := fun _ _ h => stands_size (nodesN_stands h)
structure Some_ (w : World) (base : Nat) (A : PA) (s0 : PS) (t : Nat) (f : Value) (cb c mb : Nat) (us : List Nat) (cs0 : CS Box) (g i : Nat) (es : List (Key × Box)) (W : World) : Prop where
 ex : ∃ root cs fv lv us2,Cg W base A s0 t f cb c mb root cs fv lv ∧ Way s0 us cs root es us2 ∧ cs.reads ≤ cs0.reads + i * (2 * (g + 2)) ∧ cs0.free.length ≤ cs.free.length + i * (2 * (g + 1) + 4)
 off : Off (ChF w A cb c mb) w W
structure Full_ (w : World) (base : Nat) (A : PA) (s0 : PS) (t : Nat) (f : Value) (cb c mb : Nat) (cs0 : CS Box) (g i : Nat) (W : World) : Prop where
 ex : ∃ root cs fv lv,Cg W base A s0 t f cb c mb root cs fv lv ∧ cs.reads ≤ cs0.reads + i * (2 * (g + 2))
 full : cs0.free.length < i * (2 * (g + 1) + 4)
 off : Off (ChF w A cb c mb) w W
theorem Some_.del {w : World} {base : Nat} {A : PA} {s0 : PS} {t : Nat} {f : Value} {cb c mb : Nat} {us : List Nat} {cs0 : CS Box} {g i : Nat} {es : List (Key × Box)} {W : World} (h : Some_ w base A s0 t f cb c mb us cs0 g i es W) (hs : s0.brk = false) (h1 : 1 ≤ s0.n) (hn : s0.n ≤ 4096) (hg : g ≤ 100) (hl : es.length < 10 * 7 ^ (g + 1)) (k : Key) :
  Calls Tryz.prog 110 #[.pointer (some ⟨c, 0,none⟩),keyV k] W fun e W' => (e = .returned (.int .i64 0) ∧ Some_ w base A s0 t f cb c mb us cs0 g (i + 1) (del k es) W' ∧ Off (ChF W A cb c mb) W W') ∨ (e = .returned (.int .i64 10) ∧ Full_ w base A s0 t f cb c mb cs0 g (i + 1) W') := by
 obtain ⟨root,cs,fv,lv,us2,hC,hW,hr,hf⟩ := h.ex
 obtain ⟨fu,hfu,hres⟩ := hW.del k hl
 have hcnt := hW.cnt h1 hn
 rcases hres with ⟨e,hsp⟩ | ⟨root',cs',us3,e,hW',hr',hf'⟩
 ·have hcall := cdel_any (fu + 1) W base A s0 t f cb c mb root cs fv lv hC hs (hW.low hn) k nodesN_14 (by omega) (by rw [e]; intro h; cases h)
  rw [e] at hcall
  refine hcall.mono ?_
  rintro e' W' ⟨ho,rfl,s'',fv',lv',hC',hr'⟩
  refine .inr ⟨rfl,⟨root,s'',fv',lv',hC', ?_⟩, ?_,ChF.trans h.off ho⟩
  ·rw [Nat.add_mul i 1,Nat.one_mul]; omega
  ·rw [Nat.add_mul i 1,Nat.one_mul]; omega
 ·have hcall := cdel_any (fu + 1) W base A s0 t f cb c mb root cs fv lv hC hs (hW.low hn) k nodesN_14 (by omega) (by rw [e]; intro h; cases h)
  rw [e] at hcall
  refine hcall.mono ?_
  rintro e' W' ⟨ho,rfl,fv',lv',hC'⟩
  refine .inl ⟨rfl,⟨⟨root',cs',fv',lv',us3,hC',hW', ?_, ?_⟩,ChF.trans h.off ho⟩,ho⟩
  ·rw [Nat.add_mul i 1,Nat.one_mul]; omega
  ·rw [Nat.add_mul i 1,Nat.one_mul]; omega
theorem Some_.put {w : World} {base : Nat} {A : PA} {s0 : PS} {t : Nat} {f : Value} {cb c mb : Nat} {us : List Nat} {cs0 : CS Box} {g i : Nat} {es : List (Key × Box)} {W : World} (h : Some_ w base A s0 t f cb c mb us cs0 g i es W) (hs : s0.brk = false) (h1 : 1 ≤ s0.n) (hn : s0.n ≤ 4096) (hg : g ≤ 100) (hl : es.length < 10 * 7 ^ (g + 1)) (x : Key × Box) (hx : PairOk rectC x) :
  Calls Tryz.prog 84 #[.pointer (some ⟨c, 0,none⟩),entV x] W fun e W' => (e = .returned (.int .i64 0) ∧ Some_ w base A s0 t f cb c mb us cs0 g (i + 1) (ins x.1 x.2 es) W' ∧ Off (ChF W A cb c mb) W W') ∨ (e = .returned (.int .i64 10) ∧ Full_ w base A s0 t f cb c mb cs0 g (i + 1) W') := by
 obtain ⟨root,cs,fv,lv,us2,hC,hW,hr,hf⟩ := h.ex
 obtain ⟨fu,hfu,hres⟩ := hW.put x hx hl
 have hcnt := hW.cnt h1 hn
 rcases hres with ⟨e,hsp⟩ | ⟨root',cs',us3,e,hW',hr',hf'⟩
 ·have hcall := cput_any (fu + 1) W base A s0 t f cb c mb root cs fv lv hC hs (hW.low hn) x nodesN_14 (by omega) (by rw [e]; intro h; cases h)
  rw [e] at hcall
  refine hcall.mono ?_
  rintro e' W' ⟨ho,rfl,s'',fv',lv',hC',hr'⟩
  refine .inr ⟨rfl,⟨root,s'',fv',lv',hC', ?_⟩, ?_,ChF.trans h.off ho⟩
  ·rw [Nat.add_mul i 1,Nat.one_mul]; omega
  ·rw [Nat.add_mul i 1,Nat.one_mul]; omega
 ·have hcall := cput_any (fu + 1) W base A s0 t f cb c mb root cs fv lv hC hs (hW.low hn) x nodesN_14 (by omega) (by rw [e]; intro h; cases h)
  rw [e] at hcall
  refine hcall.mono ?_
  rintro e' W' ⟨ho,rfl,fv',lv',hC'⟩
  refine .inl ⟨rfl,⟨⟨root',cs',fv',lv',us3,hC',hW', ?_, ?_⟩,ChF.trans h.off ho⟩,ho⟩
  ·rw [Nat.add_mul i 1,Nat.one_mul]; omega
  ·rw [Nat.add_mul i 1,Nat.one_mul]; omega
end
section
section
variable {w : World} {base : Nat} {A : PA} {s0 : PS} {t : Nat} {f : Value} {cb c mb : Nat} {us : List Nat} {cs0 : CS Box} {g i : Nat} {es : List (Key × Box)} {W W' : World}
theorem Some_.below (h : Some_ w base A s0 t f cb c mb us cs0 g i es W) (hb : Below W.heap.size W W') : Some_ w base A s0 t f cb c mb us cs0 g i es W' := by
 obtain ⟨root,cs,fv,lv,us2,hC,hW⟩ := h.ex
 exact ⟨⟨root,cs,fv,lv,us2,hC.below hb,hW⟩,h.off.trans (Off.of_below hb)⟩
theorem Full_.mono {j : Nat} (h : Full_ w base A s0 t f cb c mb cs0 g i W) (hij : i ≤ j) : Full_ w base A s0 t f cb c mb cs0 g j W := by
 obtain ⟨root,cs,fv,lv,hC,hr⟩ := h.ex
 have h1 := Nat.mul_le_mul_right (2 * (g + 2)) hij
 have h2 := Nat.mul_le_mul_right (2 * (g + 1) + 4) hij
 exact ⟨⟨root,cs,fv,lv,hC,by omega⟩,by have := h.full; omega,h.off⟩
theorem Some_.norow (h : Some_ w base A s0 t f cb c mb us cs0 g i es W) : ∀ k,ChF W A cb c mb k → ¬ RowTag W k := by
 obtain ⟨root,cs,fv,lv,us2,hC,hW⟩ := h.ex
 exact hC.norow
end
set_option maxRecDepth 100000 in
set_option maxHeartbeats 4000000 in
theorem takeOut_any (w0 : World) (base : Nat) (A : PA) (s0 : PS) (t : Nat) (f : Value) (cb c mb : Nat) (us : List Nat) (cs0 : CS Box) (g i : Nat) (es : List (Key × Box)) (w : World) (h : Some_ w0 base A s0 t f cb c mb us cs0 g i es w) (hs : s0.brk = false) (h1 : 1 ≤ s0.n) (hn : s0.n ≤ 4096) (hg : g ≤ 100) (hup : Rising es) (hl : es.length < 10 * 7 ^ (g + 1)) (id : Int) (v : Box) (hv : v.ok) :
  Calls Tryz.prog 82 #[.pointer (some ⟨c, 0,none⟩), .int .i64 id, .agg #[.int .i64 (v.a : Int), .int .i64 (v.b : Int), .int .i64 (v.c : Int), .int .i64 (v.d : Int)]] w fun e w' => (e = .returned (.int .i64 0) ∧ Some_ w0 base A s0 t f cb c mb us cs0 g (i + (ents plc id v).length) (delAll (ents plc id v) es) w') ∨ (e = .returned (.int .i64 10) ∧ Full_ w0 base A s0 t f cb c mb cs0 g (i + (ents plc id v).length) w') := by
 have hb0 : Below w.heap.size w (w.alloc (.cells #[.int .i64 (v.a : Int), .int .i64 (v.b : Int), .int .i64 (v.c : Int), .int .i64 (v.d : Int)] 34)) := (Below.refl _ w).alloc (Nat.le_refl _) _
 have hen := entries_any (w.alloc (.cells #[.int .i64 (v.a : Int), .int .i64 (v.b : Int), .int .i64 (v.c : Int), .int .i64 (v.d : Int)] 34)) id v hv
 have hlen : (ents plc id v).length ≤ 5 := by have := (plc_ok hv).few; unfold ents; simp; exact this
 generalize ents plc id v = L at hen hlen
 have HS0 : Hid (Some_ w0 base A s0 t f cb c mb us cs0 g i es (w.alloc (.cells #[.int .i64 (v.a : Int), .int .i64 (v.b : Int), .int .i64 (v.c : Int), .int .i64 (v.d : Int)] 34))) := h.below hb0
 have HDL : Hid (∀ j,(delAll (L.take j) es).length < 10 * 7 ^ (g + 1)) := fun j => by have := delAll_len (L.take j) hup; omega
 clear h hb0 hv
 go_enter Tryz.func82,Tryz.ntmps82
 go_wp2_with (go_at_call 83; refine hen.mono ?_; rintro e w1 ⟨ra,rc,rfl,hown,hb1⟩)
 have hS1 := HS0.out.below hb1
 have HS1 : Hid (Some_ w0 base A s0 t f cb c mb us cs0 g i es w1) := hS1
 have hrow : RowR w1 (.slice ra L.length rc) L := Row.of_own pkR hown
 have HROW : Hid (RowR w1 (.slice ra L.length rc) L) := hrow
 clear hen hS1 hown hb1 HS0 hrow
 go_loopw [14] (fun x wr => ∃ j : Nat,x = .int .i64 (j : Int) ∧ j ≤ L.length ∧ Some_ w0 base A s0 t f cb c mb us cs0 g (i + j) (delAll (L.take j) es) wr ∧ RowR wr (.slice ra L.length rc) L) (fun x _ => L.length - (intOf x).toNat)
 case atStart => exact ⟨0,rfl,Nat.zero_le _,HS1.out,HROW.out⟩
 case round =>
  obtain ⟨j,rfl,hj,hS,hR⟩ := hrel
  by_cases hlt : j < L.length
  ·have hlt' : (j : Int) < (L.length : Int) := by omega
   obtain ⟨b,o,c',e,hlc,_,_,_,_⟩ := Row.form pkR hR (by omega)
   cases e
   obtain ⟨x,hx⟩ : ∃ x,L[j]? = some x := ⟨_,List.getElem?_eq_getElem hlt⟩
   obtain ⟨e0,e1,e2,e3,e4,e5⟩ := RowR.cells6 hR hx
   have hbx : Below wr.heap.size wr (wr.alloc (entO x)) := (Below.refl _ wr).alloc (Nat.le_refl _) _
   have hS4 := hS.below hbx
   have hcall := hS4.del hs h1 hn hg (HDL.out j) x.1
   have HNX : Hid (delAll (L.take (j + 1)) es = del x.1 (delAll (L.take j) es)) := by show _ = _; rw [take_snoc hx,delAll_snoc]
   have HNR : Hid _ := hS4.norow
   have HRX : Hid (RowR (wr.alloc (entO x)) (.slice (some ⟨b,o,none⟩) L.length rc) L) := hR.below pkR hbx
   have HCALL : Hid _ := hcall
   clear hcall hS hS4 hbx hR
   go_wp2_with (go_at_call 110; refine Calls.mono HCALL.out ?_; rintro e w2 (⟨rfl,hS2,ho2⟩ | ⟨rfl,hF2⟩))
   ·have hR2 : RowR w2 (.slice (some ⟨b,o,none⟩) L.length rc) L := HRX.out.off pkR ho2 (fun k hk ht => HNR.out k hk (.inl ht))
    refine ⟨⟨j + 1,by go_num,by omega, ?_,hR2⟩,by simp [intOf]; omega⟩
    rw [HNX.out]; exact hS2
   ·go_ret
    exact .inr ⟨rfl,hF2.mono (by omega)⟩
  ·have hlt' : decide ((j : Int) < (L.length : Int)) = false := decide_eq_false (by omega)
   have hlt2 : decide (j < L.length) = false := decide_eq_false (by omega)
   have hjl : j = L.length := by omega
   rw [hjl,List.take_length] at hS
   have HS : Hid _ := hS
   clear hS hR
   go_wp2
   go_ret
   exact .inl ⟨rfl,HS.out⟩
end
section
theorem Tr.few {s : PS} {root : Nat} {es : List (Key × Box)} {us : List Nat} (h : Tr s root es us) (hn : s.n ≤ 4096) : es.length < 10 * 7 ^ 5 := by
 have a := h.wt.few
 have b : us.length ≤ 4096 := by
  by_cases h0 : s.n = 0
  ·cases us with
   | nil => simp
   | cons x l => have := h.ins x List.mem_cons_self; omega
  ·have hf : Frees s.n us ((List.range s.n).filter fun t => decide (1 ≤ t ∧ t ∉ us)) := ⟨List.Pairwise.filter _ List.nodup_range,fun t => by rw [List.mem_filter,List.mem_range,decide_eq_true_iff]; exact ⟨fun ⟨a,b,c⟩ => ⟨b,a,c⟩,fun ⟨a,b,c⟩ => ⟨b,a,c⟩⟩⟩
   have := hf.length h.ins h.nd (by omega)
   omega
 omega
theorem height_le {M : Nat → Option (Node Box)} {h : Nat} {nd : Node Box} {es : List (Key × Box)} {u : List Nat} (ht : Tre M h nd es u) (hl : es.length < 10 * 7 ^ 5) (h2 : h = 0 ∨ 2 ≤ nd.size) : 2 * h + 2 ≤ 12 := by
 cases h with
 | zero => omega
 | succ h =>
  have := tre_high ht (h2.resolve_left (by omega))
  have := pow7 (Nat.lt_of_le_of_lt this hl)
  omega
section
variable {w : World} {base : Nat} {A : PA} {s : PS} {t : Nat} {f : Value}
theorem EndD.off {X Y : World} {K : Nat} {few : Prop} (h : EndD base A s t f K few X) (hF : ∀ k,A.F k → k < w.heap.size) (ht : t < w.heap.size) (ho : Off (fun k => w.heap.size ≤ k) X Y) : EndD base A s t f K few Y := by
 obtain ⟨r,h1,h2,h3⟩ := h
 exact ⟨r,h1.off ho (fun k hk h => by have := hF k hk; omega),(ho.block t h2.lt (by omega)).trans h2,h3⟩
end
def foundR (o : Option Box) : Box × Int := match o with | some v => (v, 0) | none => (zeroBox, 9)
theorem findR_is {tb : List (Int × Box)} {es : List (Key × Box)} (h : Idx plc tb es) (id : Int) : findR id (oks (frm (NUM,id) es)) = foundR (tget id tb) := by
 rcases h.find id with ⟨e,e1 | ⟨x,l,e1,hx⟩⟩ | ⟨v,l,e,e1⟩
 ·rw [e,e1]; rfl
 ·rw [e,e1]
  simp only [oks,List.map_cons,findR]
  rw [if_neg (by simp),if_neg hx]; rfl
 ·rw [e,e1]
  simp only [oks,List.map_cons,findR]
  rw [if_neg (by simp),if_pos trivial]; rfl
theorem find_live (w : World) (base : Nat) (A : PA) (s : PS) (t x : Nat) (dead : Bool) (f : Value) (root : Nat) (es : List (Key × Box)) (us : List Nat) (tb : List (Int × Box)) (hp : PD w base A s) (ht : TreeB w t A f) (hx : IdxB w x t dead) (hs : s.brk = false) (hT : Tr s root es us) (hI : Idx plc tb es) (id : Int) :
  Calls Tryz.prog 80 #[.pointer (some ⟨x, 0,none⟩), .int .i64 id] w fun e w' => e = .returned (.tuple #[.agg (boxC (foundR (tget id tb)).1), .int .i64 (foundR (tget id tb)).2]) ∧ Off A.F w w' ∧ ∃ r,r ≤ 12 ∧ PD w' base A (s.at_ r) ∧ TreeB w' t A f := by
 have hF : ∀ k,A.F k → k < w.heap.size := fun k hk => (hp.lt k hk).2
 have hl := hT.few hp.n2
 refine (find_any w A t x dead id (oks (frm (NUM,id) es)) (EndD base A s t f 12 (frm (NUM,id) es = [])) (fun i => EndD base A s t f 12 (i = 1)) hF ht.lt hx (fun X Y h ho => h.off hF ht.lt ho) (fun i X Y h ho => h.off hF ht.lt ho) (fun W tb kb M0 hb h1 h2 h3 h4 h5 => from_live 5 base A s t f root es us (NUM,id) 12 M0 W tb kb hs hT (fun h nd u a b c d => height_le a hl d) (by omega) (hp.below hb) ((hb.block t ht.lt).trans ht) h1 h2 h3 h4 h5)).mono ?_
 rintro e w' ⟨rfl,ho,hEd,hEs⟩
 rw [findR_is hI]
 refine ⟨rfl,ho, ?_⟩
 by_cases hf : frm (NUM,id) es = []
 ·obtain ⟨r,h1,h2,h3⟩ := hEd (by rw [hf]; rfl)
  exact ⟨r,h3.1 hf,h1,h2⟩
 ·obtain ⟨r,h1,h2,h3⟩ := hEs (fun h => hf (List.map_eq_nil_iff.1 h))
  exact ⟨r,h3.1 rfl,h1,h2⟩
theorem count_live (w : World) (base : Nat) (A : PA) (s : PS) (t x : Nat) (dead : Bool) (f : Value) (root : Nat) (es : List (Key × Box)) (us : List Nat) (tb : List (Int × Box)) (hp : PD w base A s) (ht : TreeB w t A f) (hx : IdxB w x t dead) (hs : s.brk = false) (hT : Tr s root es us) (hI : Idx plc tb es) :
  Calls Tryz.prog 96 #[.pointer (some ⟨x, 0,none⟩)] w fun e w' => e = .returned (.tuple #[.int .i64 (tb.length : Int), .int .i64 0]) ∧ Off A.F w w' ∧ ∃ r,PD w' base A (s.at_ r) ∧ TreeB w' t A f := by
 have hF : ∀ k,A.F k → k < w.heap.size := fun k hk => (hp.lt k hk).2
 have hl := hT.few hp.n2
 have hfl : (frm (NUM, 0) es).length ≤ es.length := List.length_filter_le ..
 have hcl : (oks (frm (NUM, 0) es)).length = tb.length := by unfold oks; rw [List.length_map,hI.count]; unfold nums; rw [List.length_map]
 have hll : (oks (frm (NUM, 0) es)).length ≤ 1000000 := by unfold oks; rw [List.length_map]; omega
 refine (count_any w A t x dead (oks (frm (NUM, 0) es)) (EndD base A s t f 12 (frm (NUM, 0) es = [])) (fun i => EndD base A s t f 12 (i = 1)) hll hF ht.lt hx (fun X Y h ho => h.off hF ht.lt ho) (fun i X Y h ho => h.off hF ht.lt ho) (fun W tb kb M0 hb h1 h2 h3 h4 h5 => from_live 5 base A s t f root es us (NUM, 0) 12 M0 W tb kb hs hT (fun h nd u a b c d => height_le a hl d) (by omega) (hp.below hb) ((hb.block t ht.lt).trans ht) h1 h2 h3 h4 h5)).mono ?_
 rintro e w' ⟨ho,⟨rfl,_,hEd⟩ | ⟨i,y,hy,hy2,_⟩⟩
 ·rw [hcl]
  obtain ⟨r,h1,h2,_⟩ := hEd
  exact ⟨rfl,ho,r,h1,h2⟩
 ·exfalso
  unfold oks at hy
  rw [List.getElem?_map] at hy
  cases hz : (frm (NUM, 0) es)[i]? with
  | none => rw [hz] at hy; cases hy
  | some z => rw [hz] at hy; cases hy; exact hy2 rfl
end
end Go.Proofs.YtdgbgmffpcooeaaGreat
