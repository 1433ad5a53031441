/- Op2 -/
import Derived.Test.YtdgbgmffpcooeaaGreatU35
namespace Go.Proofs.YtdgbgmffpcooeaaGreat
open Go.RowKit Go.Lib
section
theorem underF_cons {M : SS → Nat → Option (Node Box × Nat × SS)} {c : Key × Nat} {l : List (Key × Nat)} {ho : Option Nat} {ss : SS} {n : Node Box} {h : Nat} {ss' : SS} (e : M ss c.2 = some (n,h,ss')) (h1 : n.poor = false) (h2 : n.fk = c.1) (h3 : ∀ k,ho = some k → h = k) : underF M (c :: l) ho ss = underF M l (some h) ss' := by
 simp only [underF,e,Option.bind_some]
 rw [if_neg]
 rintro (g | g | ⟨k,g1,g2⟩)
 ·rw [h1] at g; cases g
 ·exact g h2
 ·exact g2 (h3 k g1)
theorem underF_bad {M : SS → Nat → Option (Node Box × Nat × SS)} {c : Key × Nat} {l : List (Key × Nat)} {ho : Option Nat} {ss : SS} {n : Node Box} {h : Nat} {ss' : SS} (e : M ss c.2 = some (n,h,ss')) (hb : n.poor = true ∨ n.fk ≠ c.1 ∨ ∃ k,ho = some k ∧ h ≠ k) : underF M (c :: l) ho ss = none := by
 simp only [underF,e,Option.bind_some]
 rw [if_pos hb]
theorem underF_none {M : SS → Nat → Option (Node Box × Nat × SS)} {c : Key × Nat} {l : List (Key × Nat)} {ho : Option Nat} {ss : SS} (e : M ss c.2 = none) : underF M (c :: l) ho ss = none := by
 simp only [underF,e,Option.bind_none]
structure Up_ (w0 : World) where
 val : World
 le : Below w0.heap.size w0 val
instance (w0 : World) : Inhabited (Up_ w0) := ⟨⟨w0,Below.refl _ _⟩⟩
theorem wp_region_up {P : Program} {id : Nat} {Q : Exit → Act → World → Prop} {a : Act} {w : World} {l : List Oper} (hm : P.follows .mixedOrders = true) (hB : Region.lexB .any l.toArray = true)
  (h : wpQuiet P l.toArray (fun w' => ∃ p : Up_ w,w' = p.val) (fun a' => ∀ w',(∃ p : Up_ w,w' = p.val) → Q .normal a' w') l a) : (Code.region id l.toArray true).wp P Q a w :=
 wp_region_quiet (C := fun w' => ∃ p : Up_ w,w' = p.val) hm hB ⟨⟨_,(Below.refl _ w).drew⟩,rfl⟩ (by simpa using h)
theorem calls_up {P : Program} {f : FuncId} {args : Array Value} {w0 : World} {p : Up_ w0} {v : Value} (h : Calls P f args p.val fun e w' => e = .returned v ∧ Below p.val.heap.size p.val w') : Calls P f args p.val fun e w'' => e = .returned v ∧ ∃ q : Up_ w0,w'' = q.val :=
 h.mono fun _ w' ⟨he,hb⟩ => ⟨he,⟨w',p.le.trans (hb.mono p.le.size)⟩,rfl⟩
set_option maxRecDepth 100000 in
set_option maxHeartbeats 4000000 in
theorem under_look (base : Nat) (A : PA) (s : PS) (t : Nat) (f : Value) (sb g : Nat) (fu : Nat)
  (hlook : ∀ (ss : SS) (sec : Nat) (W : World) (r : Nat),unseen s.n ss < fu → Sv W base A s t f sb g ss r → Calls Tryz.prog 101 #[.pointer (some ⟨sb, 0,none⟩), .int .i64 (sec : Int)] W (LookP base A s t f sb g (lookF (nodesN s) s.n fu ss sec) W))
  (w : World) (ss : SS) (r : Nat) (hS : Sv w base A s t f sb g ss r) (hu : unseen s.n ss < fu) (v : Value) (row : List (Key × Nat)) (hrow : RowS w v row) (hl : 1 ≤ row.length ∧ row.length ≤ 14) :
  Calls Tryz.prog 133 #[.pointer (some ⟨sb, 0,none⟩), .agg #[v]] w (UnderP base A s t f sb g (underF (lookF (nodesN s) s.n fu) row none ss) w) := by
 obtain ⟨b,o,c,rfl,hlc,_,_,_,_⟩ := Row.form pkS hrow (by omega)
 have hb0 : Below w.heap.size w (w.alloc (.cells #[.slice (some ⟨b,o,none⟩) row.length c] 214)) := (Below.refl _ w).alloc (Nat.le_refl _) _
 have HS0 : Hid (Sv (w.alloc (.cells #[.slice (some ⟨b,o,none⟩) row.length c] 214)) base A s t f sb g ss r) := hS.below hb0
 have HR0 : Hid (RowS (w.alloc (.cells #[.slice (some ⟨b,o,none⟩) row.length c] 214)) (.slice (some ⟨b,o,none⟩) row.length c) row) := hrow.below pkS hb0
 have HB0 : Hid (Below w.heap.size w (w.alloc (.cells #[.slice (some ⟨b,o,none⟩) row.length c] 214))) := hb0
 obtain ⟨R,hR⟩ : ∃ R,underF (lookF (nodesN s) s.n fu) row none ss = R := ⟨_,rfl⟩
 rw [hR]
 have HR : Hid (underF (lookF (nodesN s) s.n fu) row none ss = R) := hR
 have HLOOK : Hid _ := hlook
 clear hb0 hS hrow hR hlook
 go_enter Tryz.func133,Tryz.ntmps133
 go_wp2
 go_loopw [6, 15] (fun v6 x wr => ∃ (j r' : Nat) (ho : Option Nat) (ss' : SS),x = .int .i64 (j : Int) ∧ v6 = .int .i64 ((ho.getD 0 : Nat) : Int) ∧ j ≤ row.length ∧ Hid ((j = 0 ∧ ho = none) ∨ (1 ≤ j ∧ ∃ h,ho = some h)) ∧ Hid (underF (lookF (nodesN s) s.n fu) (row.drop j) ho ss' = R) ∧ unseen s.n ss' < fu ∧ Sv wr base A s t f sb g ss' r' ∧ RowS wr (.slice (some ⟨b,o,none⟩) row.length c) row ∧ Off (SvF A sb g) w wr) (fun _ x _ => row.length - (intOf x).toNat)
 case atStart => exact ⟨0,r,none,ss,rfl,rfl,Nat.zero_le _, .inl ⟨rfl,rfl⟩,HR.out,hu,HS0.out,HR0.out,Off.of_below HB0.out⟩
 case round =>
  obtain ⟨j,r',ho,ss',rfl,rfl,hj,hho,hun,huj,hSj,hRj,hOj⟩ := hrel
  by_cases hlt : j < row.length
  ·have hlt' : (j : Int) < (row.length : Int) := by omega
   obtain ⟨x,hx⟩ : ∃ x,row[j]? = some x := ⟨_,List.getElem?_eq_getElem hlt⟩
   obtain ⟨e0,e1,e2⟩ := RowS.cells3 hRj hx
   have hdrop : row.drop j = x :: row.drop (j + 1) := by rw [List.drop_eq_getElem_cons hlt,(List.getElem?_eq_some_iff.1 hx).2]
   obtain ⟨W4,hW4⟩ : ∃ W4,wr.alloc (.cells #[.int .i64 x.1.1, .int .i64 x.1.2, .int .i64 (x.2 : Int)] 234) = W4 := ⟨_,rfl⟩
   have hb4 : Below wr.heap.size wr W4 := by rw [← hW4]; exact (Below.refl _ wr).alloc (Nat.le_refl _) _
   have B4 : Blk W4 wr.heap.size 234 #[.int .i64 x.1.1, .int .i64 x.1.2, .int .i64 (x.2 : Int)] := by rw [← hW4]; exact Blk.new wr 234 _
   have hS4 := hSj.below hb4
   have hcall := HLOOK.out ss' x.2 W4 r' huj hS4
   have HW4 : Hid (wr.alloc (.cells #[.int .i64 x.1.1, .int .i64 x.1.2, .int .i64 (x.2 : Int)] 234) = W4) := hW4
   have k2 : W4.cell? ⟨wr.heap.size, 2,none⟩ = some (.int .i64 (x.2 : Int)) := B4.cell 2
   have HS4 : Hid _ := hS4
   have HNR : Hid (∀ k,SvF A sb g k → ¬ RowTag W4 k) := hS4.norow
   have HRJ : Hid (RowS W4 (.slice (some ⟨b,o,none⟩) row.length c) row) := hRj.below pkS hb4
   have HO4 : Hid (Off (SvF A sb g) w W4) := hOj.trans (Off.of_below hb4)
   have HB4 : Hid (Blk W4 wr.heap.size 234 #[.int .i64 x.1.1, .int .i64 x.1.2, .int .i64 (x.2 : Int)]) := B4
   rw [hdrop] at hun
   have hB4l := B4.lt
   clear hS4 hSj hRj hOj hb4 hW4 hdrop
   cases hlk : lookF (nodesN s) s.n fu ss' x.2 with
   | none =>
    rw [hlk] at hcall
    have hRn : R = none := by rw [← hun.out]; exact underF_none hlk
    subst hRn
    clear hun
    go_upto_region 5 with fail
    rw [HW4.out]
    go_wp2_with (go_at_call 101; refine hcall.mono ?_; rintro e w5 ⟨o5,rfl,ss5,r5,hS5⟩)
    go_ret2
    exact ⟨HO4.out.trans o5,rfl,ss5,r5,hS5⟩
   | some y =>
    rw [hlk] at hcall
    obtain ⟨n,h,ss5⟩ := y
    have hus := look_unseen hlk
    have HLK : Hid (lookF (nodesN s) s.n fu ss' x.2 = some (n,h,ss5)) := hlk
    clear hlk
    go_upto_region 5 with fail
    rw [HW4.out]
    go_upto_region 8 with (go_at_call 101; refine hcall.mono ?_; rintro e w5 ⟨o5,v5,r5,rfl,hN5,hst5,hS5⟩)
    have B5 : Blk w5 wr.heap.size 234 #[.int .i64 x.1.1, .int .i64 x.1.2, .int .i64 (x.2 : Int)] := (o5.block _ hB4l (fun hf => HNR.out _ hf (.inr ⟨_,HB4.out⟩))).trans HB4.out
    have hR5 : RowS w5 (.slice (some ⟨b,o,none⟩) row.length c) row := HRJ.out.off pkS o5 (fun k hk ht => HNR.out k hk (.inr ht))
    have hO5 : Off (SvF A sb g) w w5 := HO4.out.trans o5
    have hsz1 : 1 ≤ n.size := by
     cases n with
     | leaf q => exact hst5.1
     | branch q => have := hst5.1; show 1 ≤ q.length; omega
    obtain ⟨T,xv,fp,fj,hv5,NM⟩ := hN5.meth
    subst hv5
    obtain ⟨T',xv',yv,ff,hv5',hmf,hfe,hfc⟩ := nodeV_first hN5 hsz1
    cases hv5'
    have hmp := NM.poor_
    simp [nm] at hmp hmf
    have hpe := NM.pe
    have k0 : w5.cell? ⟨wr.heap.size, 0,none⟩ = some (.int .i64 x.1.1) := B5.cell 0
    have k1 : w5.cell? ⟨wr.heap.size, 1,none⟩ = some (.int .i64 x.1.2) := B5.cell 1
    have hpoA : ∀ X,Below w5.heap.size w5 X → Calls Tryz.prog fp #[xv] X fun e w' => e = .returned (.bool n.poor) ∧ Below X.heap.size X w' := fun X hX => NM.poorC X (hN5.below hX)
    have hfcA : ∀ X,Below w5.heap.size w5 X → Calls Tryz.prog ff #[yv] X fun e w' => e = .returned (.agg #[.int .i64 n.fk.1, .int .i64 n.fk.2]) ∧ Below X.heap.size X w' := fun X hX => hfc X (hN5.below hX)
    have HPOA : Hid (∀ X,Below w5.heap.size w5 X → Calls Tryz.prog fp #[xv] X fun e w' => e = .returned (.bool n.poor) ∧ Below X.heap.size X w') := hpoA
    have HFCA : Hid (∀ X,Below w5.heap.size w5 X → Calls Tryz.prog ff #[yv] X fun e w' => e = .returned (.agg #[.int .i64 n.fk.1, .int .i64 n.fk.2]) ∧ Below X.heap.size X w') := hfcA
    have hB5l := B5.lt
    have hdr : Below w5.heap.size w5 w5.drew := (Below.refl _ w5).drew
    have HHO : Hid ((j = 0 ∧ ho = none) ∨ (1 ≤ j ∧ ∃ h,ho = some h)) := hho
    have HUN : Hid (underF (lookF (nodesN s) s.n fu) (x :: row.drop (j + 1)) ho ss' = R) := hun
    have HN5 : Hid (NodeV w5 (.iface T xv) n) := hN5
    have HS5 : Hid (Sv w5 base A s t f sb g ss5 r5) := hS5
    have HR5 : Hid (RowS w5 (.slice (some ⟨b,o,none⟩) row.length c) row) := hR5
    have HO5 : Hid (Off (SvF A sb g) w w5) := hO5
    have KEEP : Hid (∀ X,Below w5.heap.size w5 X → X.cell? ⟨wr.heap.size, 0,none⟩ = some (.int .i64 x.1.1) ∧ X.cell? ⟨wr.heap.size, 1,none⟩ = some (.int .i64 x.1.2)) := fun X hX => ⟨(hX.cell (p := ⟨wr.heap.size, 0,none⟩) hB5l).trans k0,(hX.cell (p := ⟨wr.heap.size, 1,none⟩) hB5l).trans k1⟩
    clear hpoA hfcA hfc NM hN5 hS5 hR5 hO5 hho hun B5 hcall HB4 HNR HS4 HRJ HO4 hst5 hsz1 k2 e0 e1 e2
    go_cut [48] (fun s48 wx => s48 = .bool (n.poor || decide (n.fk ≠ x.1) || (decide (1 ≤ j) && decide (h ≠ ho.getD 0))) ∧ Below w5.heap.size w5 wx)
    case first =>
     have hmx : Tryz.prog.follows .mixedOrders = true := by kernel_rfl
     have kp0 : ∀ p : Up_ w5,p.val.cell? ⟨wr.heap.size, 0,none⟩ = some (.int .i64 x.1.1) := fun p => (KEEP.out p.val p.le).1
     have kp1 : ∀ p : Up_ w5,p.val.cell? ⟨wr.heap.size, 1,none⟩ = some (.int .i64 x.1.2) := fun p => (KEEP.out p.val p.le).2
     cases hpr : n.poor with
     | true =>
      rw [hpr] at HPOA
      refine wp_region_up hmx (by kernel_rfl) ?_
      repeat (quiet_step (first | (go_at_fn fp; exact calls_up (HPOA.out _ (Up_.le _)))))
      refine wpQuiet_nil ?_
      rintro _ ⟨p,rfl⟩
      go_wp2
      go_meet
      exact ⟨by rw [hpr]; rfl,p.le⟩
     | false =>
      rw [hpr] at HPOA
      by_cases hk : n.fk = x.1
      ·have heq : ∀ w,(Op.equalIn 10000 154 (.agg #[.int .i64 n.fk.1, .int .i64 n.fk.2]) (.agg #[.int .i64 x.1.1, .int .i64 x.1.2])).run Tryz.prog w = .ok true w := fun w => by rw [eq154]; rw [decide_eq_true (by rw [hk])]
       have HK : Hid (n.fk = x.1) := hk
       clear hk
       rcases HHO.out with ⟨hj0,hho0⟩ | ⟨hj1,h0,hho1⟩
       ·subst hho0
        have hj0' : decide ((0 : Int) < (j : Int)) = false := decide_eq_false (by omega)
        have hj0n : decide (0 < j) = false := decide_eq_false (by omega)
        have HJ0 : Hid (j = 0) := hj0
        clear hj0
        refine wp_region_up hmx (by kernel_rfl) ?_
        repeat (quiet_step (first | (go_at_fn fp; exact calls_up (HPOA.out _ (Up_.le _))) | (go_at_fn ff; exact calls_up (HFCA.out _ (Up_.le _)))))
        refine wpQuiet_nil ?_
        rintro _ ⟨p,rfl⟩
        go_wp2
        go_meet
        exact ⟨by rw [hpr,HK.out,HJ0.out]; simp,p.le⟩
       ·subst hho1
        have hj1' : decide ((0 : Int) < (j : Int)) = true := decide_eq_true (by omega)
        have hj1n : decide (0 < j) = true := decide_eq_true (by omega)
        have HJ1 : Hid (1 ≤ j) := hj1
        clear hj1
        by_cases hh : h = h0
        ·subst hh
         refine wp_region_up hmx (by kernel_rfl) ?_
         repeat (quiet_step (first | (go_at_fn fp; exact calls_up (HPOA.out _ (Up_.le _))) | (go_at_fn ff; exact calls_up (HFCA.out _ (Up_.le _)))))
         refine wpQuiet_nil ?_
         rintro _ ⟨p,rfl⟩
         go_wp2
         go_meet
         exact ⟨by rw [hpr,HK.out]; simp,p.le⟩
        ·have hh' : ((h : Int) != (h0 : Int)) = true := by simp; omega
         have hhn : (h != h0) = true := by simpa using hh
         refine wp_region_up hmx (by kernel_rfl) ?_
         repeat (quiet_step (first | (go_at_fn fp; exact calls_up (HPOA.out _ (Up_.le _))) | (go_at_fn ff; exact calls_up (HFCA.out _ (Up_.le _)))))
         refine wpQuiet_nil ?_
         rintro _ ⟨p,rfl⟩
         go_wp2
         go_meet
         exact ⟨by rw [hpr,HK.out]; simp [hh]; exact HJ1.out,p.le⟩
      ·have heq : ∀ w,(Op.equalIn 10000 154 (.agg #[.int .i64 n.fk.1, .int .i64 n.fk.2]) (.agg #[.int .i64 x.1.1, .int .i64 x.1.2])).run Tryz.prog w = .ok false w := fun w => by rw [eq154]; rw [decide_eq_false (fun e => hk e)]
       have HK : Hid (n.fk ≠ x.1) := hk
       clear hk
       refine wp_region_up hmx (by kernel_rfl) ?_
       repeat (quiet_step (first | (go_at_fn fp; exact calls_up (HPOA.out _ (Up_.le _))) | (go_at_fn ff; exact calls_up (HFCA.out _ (Up_.le _)))))
       refine wpQuiet_nil ?_
       rintro _ ⟨p,rfl⟩
       go_wp2
       go_meet
       exact ⟨by rw [hpr]; simp [HK.out],p.le⟩
    case rest =>
     obtain ⟨rfl,hbc⟩ := hcut
     have hS6 := HS5.out.below hbc
     have hR6 := HR5.out.below pkS hbc
     have hO6 : Off (SvF A sb g) w wc := HO5.out.trans (Off.of_below hbc)
     cases hB : (n.poor || decide (n.fk ≠ x.1) || (decide (1 ≤ j) && decide (h ≠ ho.getD 0))) with
     | true =>
      have hRn : R = none := by
       rw [← HUN.out]
       refine underF_bad HLK.out ?_
       simp only [Bool.or_eq_true,Bool.and_eq_true,decide_eq_true_eq] at hB
       rcases hB with (hB | hB) | ⟨hB1,hB2⟩
       ·exact .inl hB
       ·exact .inr (.inl hB)
       ·rcases HHO.out with ⟨hj0,_⟩ | ⟨_,h0,e⟩
        ·omega
        ·exact .inr (.inr ⟨h0,e,by rw [e] at hB2; exact hB2⟩)
      subst hRn
      clear hB HUN HR0
      go_wp2
      go_ret2
      exact ⟨hO6,rfl,ss5,r5,hS6⟩
     | false =>
      simp only [Bool.or_eq_false_iff,Bool.and_eq_false_iff,decide_eq_false_iff_not,Classical.not_not] at hB
      obtain ⟨⟨b1,b2⟩,b3⟩ := hB
      have HNEXT : Hid (underF (lookF (nodesN s) s.n fu) (row.drop (j + 1)) (some h) ss5 = R) := by
       show _ = _
       rw [← HUN.out]
       refine (underF_cons HLK.out b1 b2 (fun k e => ?_)).symm
       rcases b3 with b3 | b3
       ·rcases HHO.out with ⟨_,e'⟩ | ⟨hj1,_⟩
        ·rw [e'] at e; cases e
        ·omega
       ·rw [e] at b3; exact b3
      have HREL : Hid (Sv wc base A s t f sb g ss5 r5 ∧ RowS wc (.slice (some ⟨b,o,none⟩) row.length c) row ∧ Off (SvF A sb g) w wc) := ⟨hS6,hR6,hO6⟩
      clear b1 b2 b3 hS6 hR6 hO6
      go_wp2
      refine ⟨⟨j + 1,r5,some h,ss5,by go_num,rfl,by omega, .inr ⟨by omega,h,rfl⟩,HNEXT.out,by omega,HREL.out.1,HREL.out.2.1,HREL.out.2.2⟩,by simp [intOf]; omega⟩
  ·have hlt' : decide ((j : Int) < (row.length : Int)) = false := decide_eq_false (by omega)
   have hlt2 : decide (j < row.length) = false := decide_eq_false (by omega)
   have hjl : j = row.length := by omega
   have hRs : R = some (ho.getD 0,ss') := by
    rw [← hun.out,hjl,List.drop_length]; rfl
   subst hRs
   have HSJ : Hid _ := hSj
   have HOJ : Hid _ := hOj
   clear hSj hRj hOj hun
   go_wp2
   go_ret2
   exact ⟨HOJ.out,r',rfl,HSJ.out⟩
end
end Go.Proofs.YtdgbgmffpcooeaaGreat
