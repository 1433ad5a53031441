/- Op3 Op4 -/
import Derived.Test.YtdgbgmffpcooeaaGreatU36
namespace Go.Proofs.YtdgbgmffpcooeaaGreat
open Go.RowKit Go.Lib
section
theorem lookF_succ (M : Nat → Option (Node Box)) (N f : Nat) (ss : SS) (sec : Nat) : lookF M N (f + 1) ss sec = if N ≤ sec ∨ ss.seen sec = true then none else
  match M sec with
  | none => none
  | some (.leaf r) => if klt ss.last (Node.leaf (V := Box) r).fk then some (.leaf r, 1,⟨upd2 ss.seen sec true,lastK r⟩) else none
  | some (.branch r) => (underF (lookF M N f) r none ⟨upd2 ss.seen sec true,ss.last⟩).bind fun x => some (.branch r,x.1 + 1,x.2) := by
 conv => lhs; unfold lookF
 by_cases h : N ≤ sec ∨ ss.seen sec = true
 ·rw [if_pos h,if_pos h]
 ·rw [if_neg h,if_neg h]
  cases M sec with
  | none => rfl
  | some n => cases n <;> rfl
theorem under_h {gg : SS → Nat → Option (Node Box × Nat × SS)} {f : Nat} (hg : ∀ s sec n h s',gg s sec = some (n,h,s') → h ≤ f) : ∀ (r : List (Key × Nat)) (ho : Option Nat) (ss : SS) (h : Nat) (ss' : SS),(∀ k,ho = some k → k ≤ f) → underF gg r ho ss = some (h,ss') → h ≤ f
 | [],ho,ss,h,ss',hk,e => by
  simp only [underF,Option.some.injEq,Prod.mk.injEq] at e
  obtain ⟨rfl,_⟩ := e
  cases ho with
  | none => simp
  | some k => exact hk k rfl
 | c :: r,ho,ss,h,ss',hk,e => by
  simp only [underF] at e
  cases hx : gg ss c.2 with
  | none => rw [hx] at e; cases e
  | some x =>
   rw [hx,Option.bind_some] at e
   split at e
   ·cases e
   ·exact under_h hg r (some x.2.1) x.2.2 h ss' (fun k ek => by cases ek; exact hg ss c.2 x.1 x.2.1 x.2.2 hx) e
theorem look_h {M : Nat → Option (Node Box)} {N : Nat} : ∀ (f : Nat) (s : SS) (sec : Nat) (n : Node Box) (h : Nat) (s' : SS),lookF M N f s sec = some (n,h,s') → h ≤ f
 | 0,_,_,_,_,_,e => by cases e
 | f + 1,s,sec,n,h,s',e => by
  rw [lookF_succ] at e
  split at e
  ·cases e
  ·split at e
   ·cases e
   ·split at e
    ·simp only [Option.some.injEq,Prod.mk.injEq] at e
     obtain ⟨_,rfl,_⟩ := e
     omega
    ·cases e
   ·rename_i r _
    cases hu : underF (lookF M N f) r none ⟨upd2 s.seen sec true,s.last⟩ with
    | none => rw [hu] at e; cases e
    | some x =>
     rw [hu,Option.bind_some] at e
     simp only [Option.some.injEq,Prod.mk.injEq] at e
     obtain ⟨_,rfl,_⟩ := e
     have := under_h (fun s sec n h s' => look_h f s sec n h s') r none _ x.1 x.2 (fun k e => by cases e) hu
     omega
set_option maxRecDepth 100000 in
set_option maxHeartbeats 4000000 in
theorem look_any (base : Nat) (A : PA) (s : PS) (t : Nat) (f : Value) (sb g : Nat) (hs : s.brk = false) : ∀ (fu : Nat) (ss : SS) (sec : Nat) (W : World) (r : Nat),unseen s.n ss < fu → fu ≤ 5000 → Sv W base A s t f sb g ss r → Calls Tryz.prog 101 #[.pointer (some ⟨sb, 0,none⟩), .int .i64 (sec : Int)] W (LookP base A s t f sb g (lookF (nodesN s) s.n fu ss sec) W)
 | 0,ss,sec,W,r,hu,_,_ => by omega
 | fu + 1,ss,sec,W,r,hu,hfu,hS => by
  have ih := look_any base A s t f sb g hs fu
  have s0 : W.cell? ⟨sb, 0,none⟩ = some (.pointer (some ⟨t, 0,none⟩)) := hS.blk.cell 0
  have s1 : W.cell? ⟨sb, 1,none⟩ = some (.slice (some ⟨g, 0,none⟩) s.n s.n) := hS.blk.cell 1
  have hn2 : s.n ≤ 4096 := hS.pd.n2
  obtain ⟨R,hR⟩ : ∃ R,lookF (nodesN s) s.n (fu + 1) ss sec = R := ⟨_,rfl⟩
  rw [hR]
  rw [lookF_succ] at hR
  by_cases hN : s.n ≤ sec
  ·rw [if_pos (.inl hN)] at hR
   subst hR
   have hN' : (s.n : Int) ≤ (sec : Int) := by omega
   have HS : Hid _ := hS
   clear hS ih
   go_enter Tryz.func101,Tryz.ntmps101
   go_wp2
   refine bodyPost_ret (v := .tuple #[.nilIface, .int .i64 0, .int .i64 7]) (by simp [results,Tryz.results101,go_sem]) rfl ?_
   exact ⟨Off.refl _ _,rfl,ss,r,HS.out⟩
  ·have hN' : ¬ ((s.n : Int) ≤ (sec : Int)) := by omega
   have hNl : sec < s.n := by omega
   obtain ⟨sc,sf⟩ := hS.seen.cell hNl
   cases hse : ss.seen sec with
   | true =>
    rw [hse] at sc
    rw [if_pos (.inr hse)] at hR
    subst hR
    have HS : Hid _ := hS
    clear hS ih
    go_enter Tryz.func101,Tryz.ntmps101
    go_wp2
    refine bodyPost_ret (v := .tuple #[.nilIface, .int .i64 0, .int .i64 7]) (by simp [results,Tryz.results101,go_sem]) rfl ?_
    exact ⟨Off.refl _ _,rfl,ss,r,HS.out⟩
   | false =>
    rw [hse] at sc
    rw [if_neg (by rintro (h | h); exact hN h; rw [hse] at h; cases h)] at hR
    obtain ⟨W1,hW1⟩ : ∃ W1,W.setCell ⟨g,sec,none⟩ (.bool true) = W1 := ⟨_,rfl⟩
    have oW1 : Off (fun k => k = g) W W1 := by rw [← hW1]; exact Off.one W _
    have hgA : ¬ A.F g := fun hf => by
     obtain ⟨cur,hb,_⟩ := hS.seen
     exact hS.pd.notTag hf (show Blk W g 4 cur from hb) (by decide) (by decide) (by decide)
    have hgt : t ≠ g := fun e => by
     obtain ⟨cur,hb,_⟩ := hS.seen
     have h' : W.heap[t]? = _ := hS.tr
     rw [e,hb] at h'; simp at h'
    have hgs : sb ≠ g := fun e => by
     obtain ⟨cur,hb,_⟩ := hS.seen
     have h' : W.heap[sb]? = _ := hS.blk
     rw [e,hb] at h'; simp at h'
    have hsbA : ¬ A.F sb := fun hf => hS.pd.notTag hf hS.blk (by decide) (by decide) (by decide)
    have hS1 : Sv W1 base A s t f sb g ⟨upd2 ss.seen sec true,ss.last⟩ r := ⟨hS.pd.off oW1 (fun k hk e => hgA (e ▸ hk)),(oW1.block t hS.tr.lt hgt).trans hS.tr,(oW1.block sb hS.blk.lt hgs).trans hS.blk,by rw [← hW1]; exact hS.seen.set hNl⟩
    have hu1 : unseen s.n ⟨upd2 ss.seen sec true,ss.last⟩ < fu := by have := unseen_upd (a := ss) (l := ss.last) hNl hse; omega
    have oS1 : Off (SvF A sb g) W W1 := oW1.mono (fun k _ h => .inr (.inr h))
    have hread := tread_live W1 base A (s.at_ r) hS1.pd t f hS1.tr hs sec hNl
    have HW1 : Hid (W.setCell ⟨g,sec,none⟩ (.bool true) = W1) := hW1
    have t0 : W1.cell? ⟨sb, 0,none⟩ = some (.pointer (some ⟨t, 0,none⟩)) := hS1.blk.cell 0
    have HSV : Hid (∀ W2,Off A.F W1 W2 → PD W2 base A (s.at_ (r + 1)) → Sv W2 base A s t f sb g ⟨upd2 ss.seen sec true,ss.last⟩ (r + 1)) := fun W2 o2 p2 => ⟨p2,(o2.block t hS1.tr.lt (hS1.pd.nott' hS1.tr)).trans hS1.tr,(o2.block sb hS1.blk.lt hsbA).trans hS1.blk,hS1.seen.off o2 hgA⟩
    have HOS : Hid (∀ W2,Off A.F W1 W2 → Off (SvF A sb g) W W2) := fun W2 o2 => oS1.trans (o2.mono (fun k _ h => .inl h))
    have hnd : nodesN s sec = nodesOf s sec := by unfold nodesN; rw [if_pos hNl]
    rw [hnd] at hR
    have hnn : nodesOf (s.at_ r) sec = nodesOf s sec := rfl
    clear hS hS1 oW1 oS1 hW1 hgA hgt hgs
    cases hno : nodesOf s sec with
    | none =>
     rw [hno] at hR
     simp only at hR
     subst hR
     have hread2 : Calls Tryz.prog 130 #[.pointer (some ⟨t, 0,none⟩), .int .i64 (sec : Int)] W1 fun e w' => e = .returned (.tuple #[.nilIface, .int .i64 7]) ∧ PD w' base A (s.at_ (r + 1)) ∧ Off A.F W1 w' := by
      refine hread.mono ?_
      rintro e w' ⟨hrd,hp,ho⟩
      rw [PS.at_adv] at hp
      rcases hrd with ⟨v,nd,g1,_⟩ | ⟨_,g2⟩
      ·rw [hnn,hno] at g1; cases g1
      ·exact ⟨g2,hp,ho⟩
     clear hread ih
     go_enter Tryz.func101,Tryz.ntmps101
     go_upto_region 4 with fail
     rw [HW1.out]
     go_wp2_with (go_at_call 130; refine hread2.mono ?_; rintro e w2 ⟨rfl,p2,o2⟩)
     refine bodyPost_ret (v := .tuple #[.nilIface, .int .i64 0, .int .i64 7]) (by simp [results,Tryz.results101,go_sem]) rfl ?_
     exact ⟨HOS.out w2 o2,rfl,_,_,HSV.out w2 o2 p2⟩
    | some nd =>
     have hst : Stands nd := (nodeOf_some hno).1
     have hread2 : Calls Tryz.prog 130 #[.pointer (some ⟨t, 0,none⟩), .int .i64 (sec : Int)] W1 fun e w' => ∃ v,e = .returned (.tuple #[v, .int .i64 0]) ∧ NodeV w' v nd ∧ PD w' base A (s.at_ (r + 1)) ∧ Off A.F W1 w' := by
      refine hread.mono ?_
      rintro e w' ⟨hrd,hp,ho⟩
      rw [PS.at_adv] at hp
      rcases hrd with ⟨v,nd',g1,g2,g3,_⟩ | ⟨g1,_⟩
      ·rw [hnn,hno] at g1; cases g1; exact ⟨v,g2,g3,hp,ho⟩
      ·rw [hnn,hno] at g1; cases g1
     rw [hno] at hR
     clear hread hnn hnd
     cases nd with
     | leaf q =>
      simp only at hR
      have hl1 : 1 ≤ q.length := hst.1
      have hl2 : q.length ≤ 10 := hst.2.1
      have hta := ta_ll
      obtain ⟨x0,q',hq⟩ : ∃ x0 q',q = x0 :: q' := by
       cases q with
       | nil => simp at hl1
       | cons x0 q' => exact ⟨x0,q',rfl⟩
      obtain ⟨xl,hxl⟩ : ∃ xl,q[q.length - 1]? = some xl := ⟨_,List.getElem?_eq_getElem (by omega)⟩
      have hlk : lastK q = xl.1 := by
       unfold lastK
       rw [List.getLast?_eq_getElem?,hxl]; rfl
      have hfk : (Node.leaf (V := Box) q).fk = x0.1 := by rw [hq]; rfl
      rw [hlk,hfk] at hR
      have HST : Hid (Stands (.leaf q)) := hst
      have HQ : Hid (q = x0 :: q') := hq
      have HXL : Hid (q[q.length - 1]? = some xl) := hxl
      clear ih hlk hfk hst hq hxl
      go_enter Tryz.func101,Tryz.ntmps101
      go_upto_region 4 with fail
      rw [HW1.out]
      go_upto_region 9 with (go_at_call 130; refine hread2.mono ?_; rintro e w2 ⟨v2,rfl,nv2,p2,o2⟩)
      obtain ⟨sl,rfl,hrow⟩ := nv2
      obtain ⟨b,o,c,rfl,hlc,_,_,_,_⟩ := Row.form pkR hrow (by omega)
      go_upto_region 11 with fail
      obtain ⟨W3,hW3⟩ : ∃ W3,w2.alloc (.cells #[.slice (some ⟨b,o,none⟩) q.length c] 191) = W3 := ⟨_,rfl⟩
      have hb3 : Below w2.heap.size w2 W3 := by rw [← hW3]; exact (Below.refl _ w2).alloc (Nat.le_refl _) _
      have B3 : Blk W3 w2.heap.size 191 #[.slice (some ⟨b,o,none⟩) q.length c] := by rw [← hW3]; exact Blk.new w2 191 _
      have hS3 := (HSV.out w2 o2 p2).below hb3
      have hO3 : Off (SvF A sb g) W W3 := (HOS.out w2 o2).trans (Off.of_below hb3)
      have hrow3 : RowR W3 (.slice (some ⟨b,o,none⟩) q.length c) q := hrow.below pkR hb3
      rw [hW3]
      have l0 : W3.cell? ⟨w2.heap.size, 0,none⟩ = some (.slice (some ⟨b,o,none⟩) q.length c) := B3.cell 0
      have u2 : W3.cell? ⟨sb, 2,none⟩ = some (.int .i64 ss.last.1) := hS3.blk.cell 2
      have u3 : W3.cell? ⟨sb, 3,none⟩ = some (.int .i64 ss.last.2) := hS3.blk.cell 3
      have hsbl := hS3.blk.lt
      have hB3l := B3.lt
      have KEEP : Hid (∀ X,Below W3.heap.size W3 X → X.cell? ⟨w2.heap.size, 0,none⟩ = some (.slice (some ⟨b,o,none⟩) q.length c) ∧ X.cell? ⟨sb, 2,none⟩ = some (.int .i64 ss.last.1) ∧ X.cell? ⟨sb, 3,none⟩ = some (.int .i64 ss.last.2)) := fun X hX => ⟨(hX.cell (p := ⟨w2.heap.size, 0,none⟩) hB3l).trans l0,(hX.cell (p := ⟨sb, 2,none⟩) hsbl).trans u2,(hX.cell (p := ⟨sb, 3,none⟩) hsbl).trans u3⟩
      have HFI : Hid (∀ X,Below W3.heap.size W3 X → Calls Tryz.prog 131 #[.slice (some ⟨b,o,none⟩) q.length c] X fun e w' => e = .returned (keyV x0.1) ∧ Below X.heap.size X w') := fun X hX => firstR_any X _ q (hrow3.below pkR hX) x0 q' HQ.out
      have HLA : Hid (∀ X,Below W3.heap.size W3 X → Calls Tryz.prog 132 #[.slice (some ⟨b,o,none⟩) q.length c] X fun e w' => e = .returned (keyV xl.1) ∧ Below X.heap.size X w') := fun X hX => lastR_any X _ q (hrow3.below pkR hX) (q.length - 1) (by omega) xl HXL.out
      have hdr : Below W3.heap.size W3 W3.drew := (Below.refl _ W3).drew
      have hfi := HFI.out _ hdr
      have HS3 : Hid (Sv W3 base A s t f sb g ⟨upd2 ss.seen sec true,ss.last⟩ (r + 1)) := hS3
      have HO3 : Hid (Off (SvF A sb g) W W3) := hO3
      have HRW3 : Hid (RowR W3 (.slice (some ⟨b,o,none⟩) q.length c) q) := hrow3
      clear hW3 hS3 hO3 hrow3 hb3 B3 hrow p2 o2 hread2 HSV HOS HW1 t0 s0 s1 sc sf HFI
      go_region_held3 (fun W' => W'.cell? ⟨w2.heap.size, 0,none⟩ = some (.slice (some ⟨b,o,none⟩) q.length c) ∧ W'.cell? ⟨sb, 2,none⟩ = some (.int .i64 ss.last.1) ∧ W'.cell? ⟨sb, 3,none⟩ = some (.int .i64 ss.last.2))
       (first
        | exact ⟨l0,u2,u3⟩
        | exact KEEP.out _ hb6
        | exact KEEP.out _ hb5
        | go_keep)
       (first
        | (go_at_call 131; refine hfi.mono ?_; rintro e w5 ⟨rfl,hb5'⟩; have hb5 := hdr.trans hb5'; have hcm := kcmp_any x0.1 ss.last w5)
        | (go_at_call 104; refine hcm.mono ?_; rintro e w6 ⟨rfl,hb6'⟩; have hb6 := hb5.trans (hb6'.mono hb5.size)))
      obtain ⟨y0,y1,y2⟩ := KEEP.out w6 hb6
      have hS6 := HS3.out.below hb6
      have hO6 : Off (SvF A sb g) W w6 := HO3.out.trans (Off.of_below hb6)
      have hrow6 := HRW3.out.below pkR hb6
      by_cases hkl : klt ss.last x0.1
      ·have hcp : ¬ (cmpK x0.1 ss.last ≤ 0) := fun hle => by
        by_cases h0 : cmpK x0.1 ss.last = 0
        ·rw [cmpK_zero] at h0; rw [h0] at hkl; exact klt_irrefl _ hkl
        ·exact klt_asymm hkl ((cmpK_neg _ _).1 (by omega))
       rw [if_pos hkl] at hR
       subst hR
       have hla := HLA.out w6 hb6
       have HS6 : Hid (Sv w6 base A s t f sb g ⟨upd2 ss.seen sec true,ss.last⟩ (r + 1)) := hS6
       have HO6 : Hid (Off (SvF A sb g) W w6) := hO6
       have HR6 : Hid (RowR w6 (.slice (some ⟨b,o,none⟩) q.length c) q) := hrow6
       have hsb6 := hS6.blk.lt
       clear hS6 hO6 hrow6 HLA KEEP l0 u2 u3 hfi hcm
       go_upto_region 17 with (go_at_call 132; refine hla.mono ?_; rintro e w7 ⟨rfl,hb7⟩; have B7 : Blk w7 sb 173 _ := (hb7.block sb hsb6).trans HS6.out.blk; have z2 : w7.cell? ⟨sb, 2,none⟩ = some (.int .i64 ss.last.1) := B7.cell 2; have z3 : w7.cell? ⟨sb, 3,none⟩ = some (.int .i64 ss.last.2) := B7.cell 3; have f2 : w7.frozen? ⟨sb, 2,none⟩ = false := B7.frozen 2; have f3 : w7.frozen? ⟨sb, 3,none⟩ = false := B7.frozen 3)
       obtain ⟨W8,hW8⟩ : ∃ W8,(w7.setCell ⟨sb, 2,none⟩ (.int .i64 xl.1.1)).setCell ⟨sb, 3,none⟩ (.int .i64 xl.1.2) = W8 := ⟨_,rfl⟩
       have o8 : Off (fun k => k = sb) w7 W8 := by rw [← hW8]; exact ((Off.refl (fun k => k = sb) w7).setCell _ (.inl rfl)).setCell _ (.inl rfl)
       have hS7 := HS6.out.below hb7
       have B8 : Blk W8 sb 173 #[.pointer (some ⟨t, 0,none⟩), .slice (some ⟨g, 0,none⟩) s.n s.n, .int .i64 xl.1.1, .int .i64 xl.1.2] := by rw [← hW8]; exact (hS7.blk.set 2 _).set 3 _
       have hgs : g ≠ sb := fun e => by
        obtain ⟨cur,hb,_⟩ := hS7.seen
        have h' : w7.heap[sb]? = _ := hS7.blk
        rw [← e,hb] at h'; simp at h'
       have hts : t ≠ sb := fun e => by
        have h1 : w7.heap[t]? = _ := hS7.tr
        have h' : w7.heap[sb]? = _ := hS7.blk
        rw [← e,h1] at h'; simp at h'
       have hS8 : Sv W8 base A s t f sb g ⟨upd2 ss.seen sec true,xl.1⟩ (r + 1) := ⟨hS7.pd.off o8 (fun k hk e => hsbA (e ▸ hk)),(o8.block t hS7.tr.lt hts).trans hS7.tr,B8,hS7.seen.off o8 hgs⟩
       have hO8 : Off (SvF A sb g) W W8 := (HO6.out.trans (Off.of_below hb7)).trans (o8.mono (fun k _ h => .inr (.inl h)))
       have hrow8 : RowR W8 (.slice (some ⟨b,o,none⟩) q.length c) q := (HR6.out.below pkR hb7).off pkR o8 (fun k hk ht => by
        have hk' : k = sb := hk
        subst hk'
        obtain ⟨cs,ht⟩ := ht
        have h' : w7.heap[k]? = _ := hS7.blk
        rw [h'] at ht; simp [pkR] at ht)
       rw [hW8]
       clear hW8 hla B7 z2 z3 f2 f3
       go_wp2
       refine bodyPost_ret (v := .tuple #[.iface 191 (.agg #[.slice (some ⟨b,o,none⟩) q.length c]), .int .i64 1, .int .i64 0]) (by simp [results,Tryz.results101,go_sem]) rfl ?_
       exact ⟨hO8,_,r + 1,rfl,⟨_,rfl,hrow8⟩,HST.out,hS8⟩
      ·have hcp : cmpK x0.1 ss.last ≤ 0 := by
        by_cases h0 : x0.1 = ss.last
        ·rw [(cmpK_zero _ _).2 h0]; omega
        ·have := (cmpK_neg x0.1 ss.last).2 (klt_of_not hkl (Ne.symm h0))
         omega
       rw [if_neg hkl] at hR
       subst hR
       have HS6 : Hid (Sv w6 base A s t f sb g ⟨upd2 ss.seen sec true,ss.last⟩ (r + 1)) := hS6
       have HO6 : Hid (Off (SvF A sb g) W w6) := hO6
       clear hS6 hO6 hrow6 HLA KEEP l0 u2 u3 hfi hcm
       go_wp2
       refine bodyPost_ret (v := .tuple #[.nilIface, .int .i64 0, .int .i64 7]) (by simp [results,Tryz.results101,go_sem]) rfl ?_
       exact ⟨HO6.out,rfl,_,_,HS6.out⟩
     | branch q =>
      simp only at hR
      have hl1 : 2 ≤ q.length := hst.1
      have hl2 : q.length ≤ 14 := hst.2.1
      have hta := ta_lb
      have htb := ta_bb
      have HST : Hid (Stands (.branch q)) := hst
      have HUN : Hid (∀ X,Sv X base A s t f sb g ⟨upd2 ss.seen sec true,ss.last⟩ (r + 1) → ∀ v,RowS X v q → Calls Tryz.prog 133 #[.pointer (some ⟨sb, 0,none⟩), .agg #[v]] X (UnderP base A s t f sb g (underF (lookF (nodesN s) s.n fu) q none ⟨upd2 ss.seen sec true,ss.last⟩) X)) := fun X hX v hv => under_look base A s t f sb g fu (fun ss' sec' W' r' h1 h2 => ih ss' sec' W' r' h1 (by omega) h2) X _ (r + 1) hX hu1 v q hv ⟨by omega,hl2⟩
      have hh : ∀ h ss',underF (lookF (nodesN s) s.n fu) q none ⟨upd2 ss.seen sec true,ss.last⟩ = some (h,ss') → h ≤ fu := fun h ss' e => under_h (fun s' sec' n' h' s'' => look_h fu s' sec' n' h' s'') q none _ h ss' (fun k e => by cases e) e
      clear ih hst
      go_enter Tryz.func101,Tryz.ntmps101
      go_upto_region 4 with fail
      rw [HW1.out]
      go_upto_region 9 with (go_at_call 130; refine hread2.mono ?_; rintro e w2 ⟨v2,rfl,nv2,p2,o2⟩)
      obtain ⟨sl,rfl,hrow⟩ := nv2
      obtain ⟨b,o,c,rfl,hlc,_,_,_,_⟩ := Row.form pkS hrow (by omega)
      go_upto_region 16 with fail
      obtain ⟨W3,hW3⟩ : ∃ W3,w2.alloc (.cells #[.slice (some ⟨b,o,none⟩) q.length c] 214) = W3 := ⟨_,rfl⟩
      have hb3 : Below w2.heap.size w2 W3 := by rw [← hW3]; exact (Below.refl _ w2).alloc (Nat.le_refl _) _
      have B3 : Blk W3 w2.heap.size 214 #[.slice (some ⟨b,o,none⟩) q.length c] := by rw [← hW3]; exact Blk.new w2 214 _
      have hS3 := (HSV.out w2 o2 p2).below hb3
      have hO3 : Off (SvF A sb g) W W3 := (HOS.out w2 o2).trans (Off.of_below hb3)
      have hrow3 : RowS W3 (.slice (some ⟨b,o,none⟩) q.length c) q := hrow.below pkS hb3
      rw [hW3]
      have l0 : W3.cell? ⟨w2.heap.size, 0,none⟩ = some (.slice (some ⟨b,o,none⟩) q.length c) := B3.cell 0
      have hcall := HUN.out W3 hS3 _ hrow3
      have HNR : Hid _ := hS3.norow
      have HO3 : Hid (Off (SvF A sb g) W W3) := hO3
      have HRW3 : Hid (RowS W3 (.slice (some ⟨b,o,none⟩) q.length c) q) := hrow3
      clear hW3 hS3 hO3 hrow3 hb3 B3 hrow p2 o2 hread2 HSV HOS HW1 t0 s0 s1 sc sf HUN
      cases hun : underF (lookF (nodesN s) s.n fu) q none ⟨upd2 ss.seen sec true,ss.last⟩ with
      | none =>
       rw [hun] at hcall hR
       simp only [Option.bind_none] at hR
       subst hR
       clear hh hun
       go_wp2_with (go_at_call 133; refine hcall.mono ?_; rintro e w4 ⟨o4,rfl,ss4,r4,hS4⟩)
       refine bodyPost_ret (v := .tuple #[.nilIface, .int .i64 0, .int .i64 7]) (by simp [results,Tryz.results101,go_sem]) rfl ?_
       exact ⟨HO3.out.trans o4,rfl,ss4,r4,hS4⟩
      | some y =>
       have hhy := hh y.1 y.2 hun
       rw [hun] at hcall hR
       simp only [Option.bind_some] at hR
       subst hR
       obtain ⟨h,ss4⟩ := y
       simp only at hhy
       clear hh hun
       go_wp2_with (go_at_call 133; refine hcall.mono ?_; rintro e w4 ⟨o4,r4,rfl,hS4⟩)
       refine bodyPost_ret (v := .tuple #[.iface 214 (.agg #[.slice (some ⟨b,o,none⟩) q.length c]), .int .i64 ((h : Int) + 1), .int .i64 0]) (by simp [results,Tryz.results101,go_sem]) rfl ?_
       exact ⟨HO3.out.trans o4,_,r4,rfl,⟨_,rfl,HRW3.out.off pkS o4 (fun k hk ht => HNR.out k hk (.inr ht))⟩,HST.out,hS4⟩
end
section
def ss0 : SS := ⟨fun t => decide (t = 0),(0, -1)⟩
def FromK (es : List (Key × Box)) : Prop := ∀ x ∈ es,klt (0, -1) x.1
theorem open_sound {s : PS} {root fu h : Nat} {n : Node Box} {ss' : SS} (hr : root ≠ 0) (hh : headOf (s.now 0).data.toList = some root) (e : lookF (nodesN s) s.n fu ss0 root = some (n,h,ss')) : ∃ es us,Tr s root es us ∧ FromK es ∧ ∀ t,ss'.seen t = (decide (t = 0) || decide (t ∈ us)) := by
 obtain ⟨k,es,u,_,hS⟩ := look_sound (stoutN s) fu ss0 root n h ss' e
 have hsz := (stoutN s).size hS.at_
 refine ⟨es,root :: u,⟨hh, .inr ⟨hr,k,n,u,hS.at_,hS.tre,rfl,hsz.1,hsz.2, ?_⟩,hS.nd,fun t ht => ?_,hS.up.rise⟩,hS.up.from_,fun t => hS.seen t⟩
 ·cases k with
  | zero => exact .inl rfl
  | succ k =>
   right
   obtain ⟨ks,e1,_⟩ := hS.tre
   have := hS.at_
   rw [e1] at this
   rw [e1]
   exact ((stoutN s).branch root _ this).1
 ·obtain ⟨h1,h2⟩ := hS.new t ht
  have : t ≠ 0 := by simpa [ss0] using h1
  exact ⟨by omega,h2⟩
theorem open_full {s : PS} {root : Nat} {es : List (Key × Box)} {us : List Nat} (hT : Tr s root es us) (hk : FromK es) (hr : root ≠ 0) (hn : s.n ≤ 4096) : ∃ n h ss',lookF (nodesN s) s.n 5000 ss0 root = some (n,h,ss') := by
 have hl := hT.few hn
 rcases hT.wt with ⟨h0,_⟩ | ⟨_,h,nd,u,h1,h2,rfl,h3,h4,h5⟩
 ·exact absurd h0 hr
 ·have hhd := tre_head h2 (by omega)
  have hne : es ≠ [] := fun e => by rw [e] at hhd; cases hhd
  have hup : Up (V := Box) ss0.last es (lastK es) := by
   refine lastK_up hT.up hne ?_
   cases es with
   | nil => exact absurd rfl hne
   | cons x t => exact hk x List.mem_cons_self
  obtain ⟨s',e,_⟩ := look_full h 5000 ss0 root nd es u (lastK es) (by have := height_le h2 hl h5; omega) h1 h2 hT.nd (fun t ht => ⟨by have := (hT.ins t ht).1; simp [ss0]; omega,(hT.ins t ht).2⟩) hup hne
  exact ⟨nd,h + 1,s',e⟩
def freeL (seen : Nat → Bool) (n m : Nat) : List Nat := ((List.range n).filter fun t => decide (m ≤ t) && !seen t).reverse
theorem freeL_end (seen : Nat → Bool) (n : Nat) : freeL seen n n = [] := by
 unfold freeL
 rw [List.filter_eq_nil_iff.2,List.reverse_nil]
 intro t ht
 have := List.mem_range.1 ht
 simp; omega
theorem freeL_step (seen : Nat → Bool) {n m : Nat} (hm : m < n) : freeL seen n m = freeL seen n (m + 1) ++ (if seen m = true then [] else [m]) := by
 unfold freeL
 have key : ∀ n,m < n → (List.range n).filter (fun t => decide (m ≤ t) && !seen t) = (if seen m = true then [] else [m]) ++ (List.range n).filter (fun t => decide (m + 1 ≤ t) && !seen t) := by
  intro n
  induction n with
  | zero => intro h; omega
  | succ n ih =>
   intro h
   rw [List.range_succ,List.filter_append,List.filter_append]
   by_cases e : m = n
   ·subst e
    have e1 : (List.range m).filter (fun t => decide (m ≤ t) && !seen t) = [] := List.filter_eq_nil_iff.2 fun t ht => by have := List.mem_range.1 ht; simp; omega
    have e2 : (List.range m).filter (fun t => decide (m + 1 ≤ t) && !seen t) = [] := List.filter_eq_nil_iff.2 fun t ht => by have := List.mem_range.1 ht; simp; omega
    rw [e1,e2]
    cases hs : seen m <;> simp [hs]
   ·have e3 : [n].filter (fun t => decide (m ≤ t) && !seen t) = [n].filter (fun t => decide (m + 1 ≤ t) && !seen t) := by simp only [List.filter_cons,List.filter_nil]; rw [decide_eq_true (show m ≤ n by omega),decide_eq_true (show m + 1 ≤ n by omega)]
    rw [ih (by omega),List.append_assoc,e3]
 rw [key n hm,List.reverse_append]
 cases seen m <;> simp
theorem freeL_frees {seen : Nat → Bool} {n : Nat} {us : List Nat} (h : ∀ t,seen t = (decide (t = 0) || decide (t ∈ us))) : Frees n us (freeL seen n 0) := by
 refine ⟨?_,fun t => ?_⟩
 ·unfold freeL
  exact List.pairwise_reverse.2 ((List.Pairwise.filter _ List.nodup_range).imp fun h => Ne.symm h)
 ·unfold freeL
  rw [List.mem_reverse,List.mem_filter,List.mem_range,h t]
  simp
  constructor
  ·rintro ⟨a,b,c⟩; exact ⟨by omega,a,c⟩
  ·rintro ⟨a,b,c⟩; exact ⟨b,by omega,c⟩
theorem freeL_len (seen : Nat → Bool) (n m : Nat) : (freeL seen n m).length ≤ n := by
 unfold freeL
 rw [List.length_reverse]
 exact Nat.le_trans (List.length_filter_le ..) (by simp)
end
end Go.Proofs.YtdgbgmffpcooeaaGreat
