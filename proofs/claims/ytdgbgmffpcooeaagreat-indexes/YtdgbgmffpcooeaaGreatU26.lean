/- Cm2 Cm3 -/
import Derived.Test.YtdgbgmffpcooeaaGreatU25
namespace Go.Proofs.YtdgbgmffpcooeaaGreat
open Go.RowKit Go.Lib Go.Maps
section
theorem ent255 : Enters Tryz.prog 255 := fun args w => by simp
theorem ent269 : Enters Tryz.prog 269 := fun args w => by simp
theorem NodeV.bytes {W : World} {v : Value} {nd : Node Box} (h : NodeV W v nd) (hs : Stands nd) : ∃ T x fb, v = .iface T x ∧ (∀ w, (method 447 T x (nm "bytes")).run Tryz.prog w = .ok (fb, x) w) ∧ (∀ (args : Array Value) (w : World), (callFunc fb args).run Tryz.prog w = .ok (.enter fb args) w) ∧ ∀ W', NodeV W' v nd → Calls Tryz.prog fb #[x] W' fun e w' => e = .returned (.string ⟨(nodeB nd).toArray⟩) ∧ Below W'.heap.size W' w' := by
 cases nd with
 | leaf r =>
  obtain ⟨s,rfl,_⟩ := h
  refine ⟨191,_, 255,rfl,m_lbytes _,ent255,fun W' ⟨s',e,h'⟩ => ?_⟩
  cases e
  exact lbytes_any W' _ r h' (by have := hs.2.1; omega)
 | branch r =>
  obtain ⟨s,rfl,_⟩ := h
  refine ⟨214,_, 269,rfl,m_bbytes _,ent269,fun W' ⟨s',e,h'⟩ => ?_⟩
  cases e
  exact bbytes_any W' _ r h' (by have := hs.2.1; omega)
theorem PD.notInt {W : World} {base : Nat} {A : PA} {ps : PS} (hp : PD W base A ps) {k : Nat} (hk : A.F k) : ¬ TagAt W 3 k := fun ⟨cs,hc⟩ => by
 obtain ⟨_,_,⟨es,cc,m1,_⟩,_⟩ := hp.map
 obtain ⟨cur,b1,_⟩ := hp.sec.blk
 have p1 : W.heap[A.p]? = _ := hp.blkP
 have q1 : W.heap[A.q]? = _ := hp.blkQ
 rcases hk with e | e | e | e
 ·rw [e,p1] at hc; simp at hc
 ·rw [e,q1] at hc; simp at hc
 ·rw [e,b1] at hc; simp at hc
 ·rw [e,m1] at hc; simp at hc
theorem newOf_get {made : Nat → Option (Node Box)} {i sec : Nat} (h : (rowOf (madeOf made) 4096)[i]? = some sec) : ∃ nd,made sec = some nd ∧ (newOf made)[i]? = some (sec,nd) := by
 obtain ⟨_,h2,_⟩ := rank_of_get _ h
 obtain ⟨nd,hnd⟩ := Option.isSome_iff_exists.1 h2
 refine ⟨nd,hnd, ?_⟩
 unfold newOf
 rw [List.getElem?_map,h]
 simp [hnd]
set_option maxRecDepth 100000 in
set_option maxHeartbeats 8000000 in
theorem writeNodes_any (w : World) (base : Nat) (A : PA) (ps : PS) (t : Nat) (f : Value) (cb c mb root : Nat) (s : CS Box) (fv lv : Value) (hp : PD w base A ps) (hc : Ct w A t f cb c mb root s fv lv) (hlf : -1 ≤ ps.left ∧ ps.left ≤ 9223372036854775807) (hst : ∀ i nd,s.made i = some nd → Stands nd) :
  Calls Tryz.prog 116 #[.pointer (some ⟨c, 0,none⟩)] w fun e w' => ∃ m',e = .returned (.int .i64 (ps.nodes s.made).1) ∧ PD w' base { A with m := m' } (ps.nodes s.made).2 ∧ Ct w' A t f cb c mb root s fv lv ∧ Off A.F w w' ∧ (m' = A.m ∨ w.heap.size ≤ m') := by
 obtain ⟨km,D,hm1,hm2,hm3⟩ := hc.ch.made
 have hkmb : km ≤ 1073741824 := by omega
 have hsz := nmap_size hm1
 have hsc := sortedN_call mb km D nodR w hm1 (by unfold maxLen; omega) (by omega)
 have c2 : w.cell? ⟨c, 2,none⟩ = some (.map (some mb)) := hc.ch.blk.cell 2
 go_enter Tryz.func116,Tryz.ntmps116
 go_wp2_with (first
  | (go_at_call 148; refine (keysN_call _ _).mono ?_; rintro e w1 ⟨rfl,rfl⟩)
  | (go_at_call 71; refine hsc.mono ?_; rintro e w2 ⟨v,ss,rfl,hperm,hrow,hnil,hb2⟩; obtain ⟨va,vc,rfl,_,_,_⟩ := own_shape hrow))
 obtain ⟨hs1,hs2⟩ := keysN_sorted hm1 hm3 hperm
 rw [hs1] at hrow
 rw [hs2] at hrow ⊢
 have hB2 : Below w.heap.size w w2 := ((Below.refl _ w).alloc (Nat.le_refl _) _).trans (hb2.mono (by simp))
 have hrow2 := own_mono hrow (show w.heap.size ≤ _ by simp)
 clear hsc hperm hnil hb2 hs1 hs2 hrow c2
 obtain ⟨dl,hdl⟩ : ∃ dl,rowOf (madeOf s.made) 4096 = dl := ⟨_,rfl⟩
 rw [hdl] at hrow2 ⊢
 have HDL : Hid (rowOf (madeOf s.made) 4096 = dl) := hdl
 have hnl : (newOf s.made).length = dl.length := by unfold newOf; rw [hdl,List.length_map]
 have HNL : Hid _ := hnl
 have hp2 := hp.below hB2
 have hc2 := hc.below hB2
 have HST : Hid _ := hst
 have HC2 : Hid _ := hc2
 have HROW : Hid (w2.ownsRow w.heap.size 3 1 (.slice va dl.length vc) dl.length ((dl.map fun i : Nat => (i : Int)).map encZ)) := hrow2
 have HB2 : Hid _ := hB2
 have hw2 := hB2.size
 have hmap2 := nmap_off hm1 (Off.of_below (F := fun _ => False) hB2) (fun h => h)
 have hmd2 := hm3.off (F := fun _ => False) (Off.of_below hB2) (fun _ h => h.elim)
 have hdll : dl.length ≤ 4096 := by rw [← hdl,length_rowOf]; exact rank_le _ _
 clear hdl hnl hst hc hc2 hrow2 hm1 hm3 hsz hp
 go_loopw [13] (fun x wr => ∃ (i : Nat) (pi : PS),x = .int .i64 (i : Int) ∧ i ≤ dl.length ∧ PD wr base A pi ∧ Off A.F w2 wr ∧ wrAll ((newOf s.made).take i) ps = (0,pi) ∧ (-1 ≤ pi.left ∧ pi.left ≤ 9223372036854775807)) (fun x _ => dl.length - (intOf x).toNat)
 case atStart => exact ⟨0,ps,rfl,Nat.zero_le _,hp2,Off.refl _ _,rfl,hlf⟩
 case round =>
  obtain ⟨i,pi,rfl,hi,hP,hO,hW,hL⟩ := hrel
  have hcr := HC2.out.off hp2 hO
  have c0 : wr.cell? ⟨c, 0,none⟩ = some (.pointer (some ⟨t, 0,none⟩)) := hcr.ch.blk.cell 0
  have ct : wr.cell? ⟨t, 0,none⟩ = some (.pointer (some ⟨A.q, 0,none⟩)) := hcr.tr.cell 0
  have c2 : wr.cell? ⟨c, 2,none⟩ = some (.map (some mb)) := hcr.ch.blk.cell 2
  by_cases hlt : i < dl.length
  ·have hlt' : (i : Int) < (dl.length : Int) := by omega
   obtain ⟨sec,hsec⟩ : ∃ sec,dl[i]? = some sec := ⟨_,List.getElem?_eq_getElem hlt⟩
   obtain ⟨nd,hnd,hnl⟩ := newOf_get (made := s.made) (by rw [HDL.out]; exact hsec)
   have hsl : sec < 4096 := (rank_of_get _ (by rw [HDL.out]; exact hsec)).1
   have hkey := key_of sec (by omega)
   obtain ⟨gv,cv,ev,_,hgv⟩ := HROW.out.form (by omega)
   cases ev
   have hrw := own_offv HROW.out hO (fun g hg hf => hp2.notInt hf (own_tagged HROW.out hg).2)
   have cr := (own_cell hrw i (by omega)).1
   rw [List.getElem?_map,List.getElem?_map,hsec] at cr
   have cr' : wr.cell? ⟨gv,i,none⟩ = some (.int .i64 (sec : Int)) := cr
   obtain ⟨v',nv',hat⟩ := hmd2.val sec nd hnd
   have nvr : NodeV wr.drew v' nd := (nv'.off hO (fun b hb => hp2.norow b hb)).below ((Below.refl _ wr).drew)
   have hmbA : ¬ A.F mb := fun hf => by have := HC2.out.al mb hf; have := HC2.out.ch.le.2; omega
   obtain ⟨vl,pl,hlk,hvl⟩ := (nmap_off hmap2 hO hmbA).drew.lookup keyed3 Tryz.underlying183 (zero175 _) (zd := .held .nilIface) (zp := []) rfl hkey
   obtain rfl : vl = v' := by
    rw [hat] at hvl
    have : vl = v' ∧ pl = [] := by simpa [nodR] using hvl
    exact this.1
   obtain ⟨T,xv,fb,rfl,hmb,hen,hbC⟩ := nvr.bytes (HST.out sec nd hnd)
   simp [nm] at hmb
   have hby := hbC wr.drew nvr
   have KEEPS : Hid (∀ W',Off A.F wr.drew W' → W'.cell? ⟨c, 0,none⟩ = some (.pointer (some ⟨t, 0,none⟩)) ∧ W'.cell? ⟨t, 0,none⟩ = some (.pointer (some ⟨A.q, 0,none⟩)) ∧ W'.cell? ⟨c, 2,none⟩ = some (.map (some mb))) := fun W' ho => by
    have h1 : Off A.F wr W' := (Off.drew (Off.refl A.F wr)).trans ho
    have h2 := hcr.off hP h1
    exact ⟨h2.ch.blk.cell 0,h2.tr.cell 0,h2.ch.blk.cell 2⟩
   have hdr : Below wr.heap.size wr wr.drew := (Below.refl _ wr).drew
   have HWR : Hid (∀ w3,Below wr.drew.heap.size wr.drew w3 → Calls Tryz.prog 149 #[.pointer (some ⟨A.q, 0,none⟩), .int .i64 (sec : Int), .string ⟨(nodeB nd).toArray⟩] w3 fun e w' => e = .returned (.int .i64 (pi.wr (sec,nd)).1) ∧ PD w' base A (pi.wr (sec,nd)).2 ∧ Off A.F w3 w') := fun w3 hb => pwrite_any w3 base A pi ((hP.below hdr).below hb) (sec : Int) _ hL
   have HL2 : Hid _ := wr_left (x := (sec,nd)) hL
   have hlw := hO.size
   have hgw := (own_lt hrw).2
   have HCR : Hid _ := hcr
   have HP1 : Hid _ := hP
   by_cases hz : (pi.wr (sec,nd)).1 = 0
   ·have HS : Hid (wrAll ((newOf s.made).take (i + 1)) ps = (0,(pi.wr (sec,nd)).2)) := by
     show _ = _
     rw [take_snoc hnl,wrAll_snoc _ _ _ _ hW]
     exact Prod.ext hz rfl
    rw [hz] at HWR
    generalize (pi.wr (sec,nd)).2 = pj at HWR HS HL2
    clear hnl hW hnd hsec cr hrw nv' nvr hat hvl hz hbC hcr hP hL hmd2 hmap2 hmbA hdr
    go_upto_region 4 with fail
    go_region_held3 (fun W' => W'.cell? ⟨c, 0,none⟩ = some (.pointer (some ⟨t, 0,none⟩)) ∧ W'.cell? ⟨t, 0,none⟩ = some (.pointer (some ⟨A.q, 0,none⟩)) ∧ W'.cell? ⟨c, 2,none⟩ = some (.map (some mb)))
     (first
      | exact ⟨c0,ct,c2⟩
      | exact KEEPS.out _ (o3.trans o4)
      | exact KEEPS.out _ o3
      | go_keep)
     (first
      | (go_at_fn fb; refine hby.mono ?_; rintro e w3 ⟨rfl,hb3⟩; have o3 : Off A.F wr.drew w3 := Off.of_below hb3; have hw3 := HWR.out w3 hb3)
      | (go_at_call 149; refine hw3.mono ?_; rintro e w4 ⟨rfl,hP4,o4⟩))
    go_wp2
    refine ⟨⟨i + 1,pj,by go_num,by omega,hP4,(hO.drew.trans o3).trans o4,HS.out,HL2.out⟩,by simp [intOf]; omega⟩
   ·have HS : Hid (ps.nodes s.made = pi.wr (sec,nd)) := by
     show _ = _
     have hsp : (newOf s.made).take i ++ (sec,nd) :: (newOf s.made).drop (i + 1) = newOf s.made := by
      have := List.take_append_drop i (newOf s.made)
      rw [List.drop_eq_getElem?_toList_append,hnl] at this
      simpa using this
     have hst := wrAll_stop _ (sec,nd) ((newOf s.made).drop (i + 1)) _ _ hW hz
     rw [hsp] at hst
     unfold PS.nodes
     rw [hst,if_neg hz]
    have hz1 : ((pi.wr (sec,nd)).1 != 0) = true := by simpa using hz
    generalize (pi.wr (sec,nd)) = pw at HWR HS HL2 hz1
    obtain ⟨pe,pj⟩ := pw
    simp only at HWR hz1
    clear hnl hW hnd hsec cr hrw nv' nvr hat hvl hz hbC hcr hP hL hmd2 hmap2 hmbA hdr
    go_upto_region 4 with fail
    go_region_held3 (fun W' => W'.cell? ⟨c, 0,none⟩ = some (.pointer (some ⟨t, 0,none⟩)) ∧ W'.cell? ⟨t, 0,none⟩ = some (.pointer (some ⟨A.q, 0,none⟩)) ∧ W'.cell? ⟨c, 2,none⟩ = some (.map (some mb)))
     (first
      | exact ⟨c0,ct,c2⟩
      | exact KEEPS.out _ (o3.trans o4)
      | exact KEEPS.out _ o3
      | go_keep)
     (first
      | (go_at_fn fb; refine hby.mono ?_; rintro e w3 ⟨rfl,hb3⟩; have o3 : Off A.F wr.drew w3 := Off.of_below hb3; have hw3 := HWR.out w3 hb3)
      | (go_at_call 149; refine hw3.mono ?_; rintro e w4 ⟨rfl,hP4,o4⟩))
    go_wp2
    go_ret
    rw [HS.out]
    exact ⟨A.m,rfl,hP4,HCR.out.off HP1.out ((Off.drew (Off.refl A.F wr)).trans (o3.trans o4)),((Off.of_below HB2.out).trans hO).trans ((Off.drew (Off.refl A.F wr)).trans (o3.trans o4)), .inl rfl⟩
  ·have hlt' : decide ((i : Int) < (dl.length : Int)) = false := decide_eq_false (by omega)
   have hlt2 : decide (i < dl.length) = false := decide_eq_false (by omega)
   have HS : Hid (ps.nodes s.made = pi.flush) := by
    show _ = _
    rw [List.take_of_length_le (by rw [HNL.out]; omega)] at hW
    unfold PS.nodes
    rw [hW,if_pos rfl]
   have hfl := pflush2_any wr base A pi hP hL
   have HCR : Hid _ := hcr
   have HP1 : Hid _ := hP
   clear hW hcr hmd2 hmap2
   go_wp2_with (go_at_call 76; refine hfl.mono ?_; rintro e w4 ⟨m4,rfl,hP4,o4,hm4⟩)
   go_ret
   rw [HS.out]
   refine ⟨m4,rfl,hP4,HCR.out.off HP1.out o4,((Off.of_below HB2.out).trans hO).trans o4,hm4.imp id fun h => ?_⟩
   have := hO.size
   omega
end
section
def PS.headW (s : PS) (root : Nat) : Int × PS := if (s.write 0 ⟨(headB root).toArray⟩).1 = 0 then (s.write 0 ⟨(headB root).toArray⟩).2.flush else s.write 0 ⟨(headB root).toArray⟩
theorem PD.notTag {W : World} {base : Nat} {A : PA} {ps : PS} (hp : PD W base A ps) {k : Nat} (hk : A.F k) {tg : Nat} {vs : Array Value} (hb : Blk W k tg vs) (h1 : tg ≠ 109) (h2 : tg ≠ 133) (h3 : tg ≠ 135) : False := by
 obtain ⟨_,_,⟨es,cc,m1,_⟩,_⟩ := hp.map
 obtain ⟨cur,b1,_⟩ := hp.sec.blk
 have p1 : W.heap[A.p]? = _ := hp.blkP
 have q1 : W.heap[A.q]? = _ := hp.blkQ
 have hq : W.heap[k]? = _ := hb
 rcases hk with e | e | e | e
 ·rw [e,p1] at hq; simp at hq; exact h1 hq.2.symm
 ·rw [e,q1] at hq; simp at hq; exact h2 hq.2.symm
 ·rw [e,b1] at hq; simp at hq; exact h3 hq.2.symm
 ·rw [e,m1] at hq; simp at hq
set_option maxRecDepth 100000 in
set_option maxHeartbeats 8000000 in
theorem writeHead_any (w : World) (base : Nat) (A : PA) (ps : PS) (t c mb root : Nat) (f fv lv : Value) (hp : PD w base A ps) (ht : TreeB w t A f) (hc : Blk w c 185 #[.pointer (some ⟨t, 0,none⟩), .int .i64 (root : Int), .map (some mb),fv,lv]) (hlf : -1 ≤ ps.left ∧ ps.left ≤ 9223372036854775807) :
  Calls Tryz.prog 117 #[.pointer (some ⟨c, 0,none⟩)] w fun e w' => ∃ m',e = .returned (.int .i64 (ps.headW root).1) ∧ PD w' base { A with m := m' } (ps.headW root).2 ∧ Off A.F w w' ∧ (m' = A.m ∨ w.heap.size ≤ m') := by
 have hcA : ¬ A.F c := fun h => hp.notTag h hc (by decide) (by decide) (by decide)
 have htA : ¬ A.F t := hp.nott ht
 have c0 : w.cell? ⟨c, 0,none⟩ = some (.pointer (some ⟨t, 0,none⟩)) := hc.cell 0
 have ct : w.cell? ⟨t, 0,none⟩ = some (.pointer (some ⟨A.q, 0,none⟩)) := ht.cell 0
 have c1 : w.cell? ⟨c, 1,none⟩ = some (.int .i64 (root : Int)) := hc.cell 1
 have KEEPS : Hid (∀ W',Off A.F w.drew W' → W'.cell? ⟨c, 0,none⟩ = some (.pointer (some ⟨t, 0,none⟩)) ∧ W'.cell? ⟨t, 0,none⟩ = some (.pointer (some ⟨A.q, 0,none⟩)) ∧ W'.cell? ⟨c, 1,none⟩ = some (.int .i64 (root : Int))) := fun W' ho => by
  have h1 : Off A.F w W' := (Off.drew (Off.refl A.F w)).trans ho
  have h2 : Blk W' c 185 _ := (h1.block c hc.lt hcA).trans hc
  have h3 : Blk W' t 169 _ := (h1.block t ht.lt htA).trans ht
  exact ⟨h2.cell 0,h3.cell 0,h2.cell 1⟩
 have hdr : Below w.heap.size w w.drew := (Below.refl _ w).drew
 have hhb := headB_any w.drew root
 obtain ⟨R,hR⟩ : ∃ R,ps.write 0 ⟨(headB root).toArray⟩ = R := ⟨_,rfl⟩
 have HWR : Hid (∀ w3,Below w.drew.heap.size w.drew w3 → Calls Tryz.prog 149 #[.pointer (some ⟨A.q, 0,none⟩), .int .i64 0, .string ⟨(headB root).toArray⟩] w3 fun e w' => e = .returned (.int .i64 R.1) ∧ PD w' base A R.2 ∧ Off A.F w3 w') := fun w3 hb => by
  rw [← hR]; exact pwrite_any w3 base A ps ((hp.below hdr).below hb) 0 _ hlf
 have hL : -1 ≤ R.2.left ∧ R.2.left ≤ 9223372036854775807 := by rw [← hR]; exact write_left hlf
 have HW : Hid (ps.headW root = if R.1 = 0 then R.2.flush else R) := by show _ = _; unfold PS.headW; rw [hR]
 obtain ⟨re,rs⟩ := R
 simp only at HWR HW hL
 clear hR hp ht hc hlf
 by_cases hz : re = 0
 ·subst hz
  have HS : Hid (ps.headW root = rs.flush) := by show _ = _; rw [HW.out,if_pos rfl]
  have hfl : ∀ w4,PD w4 base A rs → _ := fun w4 h4 => pflush2_any w4 base A rs h4 hL
  have HFL : Hid _ := hfl
  clear hfl HW
  go_enter Tryz.func117,Tryz.ntmps117
  go_upto_region 1 with fail
  go_region_held3 (fun W' => W'.cell? ⟨c, 0,none⟩ = some (.pointer (some ⟨t, 0,none⟩)) ∧ W'.cell? ⟨t, 0,none⟩ = some (.pointer (some ⟨A.q, 0,none⟩)) ∧ W'.cell? ⟨c, 1,none⟩ = some (.int .i64 (root : Int)))
   (first
    | exact ⟨c0,ct,c1⟩
    | exact KEEPS.out _ (o3.trans o4)
    | exact KEEPS.out _ o3
    | go_keep)
   (first
    | (go_at_call 150; refine hhb.mono ?_; rintro e w3 ⟨rfl,hb3⟩; have o3 : Off A.F w.drew w3 := Off.of_below hb3; have hw3 := HWR.out w3 hb3)
    | (go_at_call 149; refine hw3.mono ?_; rintro e w4 ⟨rfl,hP4,o4⟩))
  obtain ⟨k0,k1,_⟩ := KEEPS.out _ (o3.trans o4)
  have hw4 := HFL.out w4 hP4
  go_wp2_with (go_at_call 76; refine hw4.mono ?_; rintro e w5 ⟨m5,rfl,hP5,o5,hm5⟩)
  go_ret
  rw [HS.out]
  have o6 : Off A.F w w4 := (Off.drew (Off.refl A.F w)).trans (o3.trans o4)
  refine ⟨m5,rfl,hP5,o6.trans o5,hm5.imp id fun h => ?_⟩
  have := o6.size
  omega
 ·have HS : Hid (ps.headW root = (re,rs)) := by show _ = _; rw [HW.out,if_neg hz]
  have hz1 : (re != 0) = true := by simpa using hz
  clear HW hz
  go_enter Tryz.func117,Tryz.ntmps117
  go_upto_region 1 with fail
  go_region_held3 (fun W' => W'.cell? ⟨c, 0,none⟩ = some (.pointer (some ⟨t, 0,none⟩)) ∧ W'.cell? ⟨t, 0,none⟩ = some (.pointer (some ⟨A.q, 0,none⟩)) ∧ W'.cell? ⟨c, 1,none⟩ = some (.int .i64 (root : Int)))
   (first
    | exact ⟨c0,ct,c1⟩
    | exact KEEPS.out _ (o3.trans o4)
    | exact KEEPS.out _ o3
    | go_keep)
   (first
    | (go_at_call 150; refine hhb.mono ?_; rintro e w3 ⟨rfl,hb3⟩; have o3 : Off A.F w.drew w3 := Off.of_below hb3; have hw3 := HWR.out w3 hb3)
    | (go_at_call 149; refine hw3.mono ?_; rintro e w4 ⟨rfl,hP4,o4⟩))
  go_wp2
  go_ret
  rw [HS.out]
  exact ⟨A.m,rfl,hP4,(Off.drew (Off.refl A.F w)).trans (o3.trans o4), .inl rfl⟩
end
end Go.Proofs.YtdgbgmffpcooeaaGreat
