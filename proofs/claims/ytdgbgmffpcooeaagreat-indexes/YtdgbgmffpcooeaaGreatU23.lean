/- Ch8 -/
import Derived.Test.YtdgbgmffpcooeaaGreatU22
namespace Go.Proofs.YtdgbgmffpcooeaaGreat
open Go.RowKit Go.Lib Go.Maps
section
theorem Row.sl {V : Type} (K : PK V) {W : World} {v : Value} {r : List (Key × V)} (h : Row K W v r) : ∃ a n c,v = .slice a n c := by
 obtain ⟨a,c,e,_⟩ := h.len K
 exact ⟨a,_,c,e⟩
structure UW (W : World) (P : World → Prop) (B5 B6 : Nat) (rv : Value) (k : Key) (r : List (Key × Nat)) : Prop where
 p : P W
 b5 : Blk W B5 214 #[rv]
 b6 : Blk W B6 154 #[.int .i64 k.1, .int .i64 k.2]
 row : RowS W rv r
def Stays (P : World → Prop) (base : Nat) (A : PA) (s0 : PS) (t : Nat) (f : Value) (cb c mb root : Nat) : Prop := ∀ (W W' : World) (s : CS Box) (fv lv : Value),Cg W base A s0 t f cb c mb root s fv lv → P W → Off (ChF W A cb c mb) W W' → P W'
section
variable {W W' : World} {base : Nat} {A : PA} {s0 : PS} {t : Nat} {f : Value} {cb c mb root : Nat} {s : CS Box} {fv lv : Value} {P : World → Prop} {B5 B6 : Nat} {rv : Value} {k : Key} {r : List (Key × Nat)}
theorem UW.off' (hP : Stays P base A s0 t f cb c mb root) (h : UW W P B5 B6 rv k r) (hc : Cg W base A s0 t f cb c mb root s fv lv) (ho : Off (ChF W A cb c mb) W W') : UW W' P B5 B6 rv k r :=
 ⟨hP W W' s fv lv hc h.p ho,h.b5.off ho (fun hf => hc.not175 (tg := 214) (by decide) (by decide) (by decide) (by decide) (by decide) _ hf ⟨_,h.b5⟩),h.b6.off ho (fun hf => hc.not175 (tg := 154) (by decide) (by decide) (by decide) (by decide) (by decide) _ hf ⟨_,h.b6⟩),h.row.off pkS ho (fun b hb ht => hc.norow b hb (.inr ht))⟩
end
set_option maxRecDepth 100000 in
set_option maxHeartbeats 16000000 in
theorem editUnder_any (fu : Nat) (w : World) (base : Nat) (A : PA) (s0 : PS) (t : Nat) (f : Value) (cb c mb root : Nat) (s : CS Box) (fv lv : Value) (h : Cg w base A s0 t f cb c mb root s fv lv) (hs : s0.brk = false) (hlow : Low s) (fn : Nat) (cap : Value) (P : World → Prop) (hP : Stays P base A s0 t f cb c mb root) (hPw : P w) (k : Key) (op : List (Key × Box) → List (Key × Box)) (hop : OpOk k op) (hD : ∀ t nd,nodesN s0 t = some nd → nd.size ≤ 14) (hcnt : s.cnt + 2 * fu + 1 ≤ 100000)
  (r : List (Key × Nat)) (rv : Value) (hrow : RowS w rv r) (hrr : Rising r) (hr14 : r.length ≤ 14) (x : Key × Nat) (hx : r[undr k r]? = some x) (hne : (editF (nodesN s0) k op fu s x.2).bind (editV (nodesN s0) r (undr k r)) ≠ .bad)
  (hIH : ∀ (w : World) (s : CS Box) (fv lv : Value) (sec : Nat),Cg w base A s0 t f cb c mb root s fv lv → Low s → P w → s.cnt + 2 * fu ≤ 100000 → editF (nodesN s0) k op fu s sec ≠ .bad → Calls Tryz.prog 143 #[.pointer (some ⟨c, 0,none⟩), .int .i64 (sec : Int),keyV k, .func (.func fn) #[] #[cap]] w (EditP (2 * fu) w base A s0 t f cb c mb root s (editF (nodesN s0) k op fu s sec))) :
  Calls Tryz.prog 179 #[.pointer (some ⟨c, 0,none⟩), .agg #[rv],keyV k, .func (.func fn) #[] #[cap]] w (EditP (2 * fu + 1) w base A s0 t f cb c mb root s ((editF (nodesN s0) k op fu s x.2).bind (editV (nodesN s0) r (undr k r)))) := by
 obtain ⟨R,hR⟩ : ∃ R,(editF (nodesN s0) k op fu s x.2).bind (editV (nodesN s0) r (undr k r)) = R := ⟨_,rfl⟩
 have hil := (List.getElem?_eq_some_iff.1 hx).1
 obtain ⟨b,o,cc,rfl,g2,g3,hb,_,_⟩ := hrow.form pkS (by omega)
 have hb1 : Below w.heap.size w (w.alloc (.cells #[.slice (some ⟨b,o,none⟩) r.length cc] 214)) := (Below.refl _ w).alloc (Nat.le_refl _) _
 have hb0 : Below w.heap.size w ((w.alloc (.cells #[.slice (some ⟨b,o,none⟩) r.length cc] 214)).alloc (.cells #[.int .i64 k.1, .int .i64 k.2] 154)) := hb1.trans (((Below.refl _ _).alloc (Nat.le_refl _) _).mono hb1.size)
 have hB5 := (Blk.new w 214 #[.slice (some ⟨b,o,none⟩) r.length cc]).alloc (.cells #[.int .i64 k.1, .int .i64 k.2] 154)
 have hB6 := Blk.new (w.alloc (.cells #[.slice (some ⟨b,o,none⟩) r.length cc] 214)) 154 #[.int .i64 k.1, .int .i64 k.2]
 obtain ⟨B6,hB6e⟩ : ∃ B6,(w.alloc (.cells #[.slice (some ⟨b,o,none⟩) r.length cc] 214)).heap.size = B6 := ⟨_,rfl⟩
 have hu0 : UW ((w.alloc (.cells #[.slice (some ⟨b,o,none⟩) r.length cc] 214)).alloc (.cells #[.int .i64 k.1, .int .i64 k.2] 154)) P w.heap.size (w.heap.size + 1) (.slice (some ⟨b,o,none⟩) r.length cc) k r := ⟨hP _ _ _ _ _ h hPw (Off.of_below hb0),hB5,by simpa using hB6,hrow.below pkS hb0⟩
 have h0 := h.below hb0
 have hun := under_any _ _ r hu0.row hrr (by omega) k
 rw [hR] at hne ⊢
 have HNE : Hid (R ≠ .bad) := hne
 have HR : Hid _ := hR
 have HX : Hid _ := hx
 obtain ⟨i,hi⟩ : ∃ i,undr k r = i := ⟨_,rfl⟩
 have HLOW : Hid _ := hlow
 have HP : Hid (Stays P base A s0 t f cb c mb root) := hP
 have HU0 : Hid _ := hu0
 have HC0 : Hid _ := h0
 have HB0 : Hid _ := hb0
 rw [hi] at hil hun HR HX
 clear hR hne hrow hB5 hB6 hB6e B6 hb1 hu0 h0 hb0 h hPw hx hlow hi hP
 go_enter Tryz.func179,Tryz.ntmps179
 go_upto_region 2 with (go_at_call 152; refine hun.mono ?_; rintro e w1 ⟨rfl,hb1⟩)
 have h1 := HC0.out.below hb1
 have u1 := HU0.out.off' HP.out HC0.out (Off.of_below hb1)
 have o1 : Off (ChF w A cb c mb) w w1 := ChF.trans (Off.of_below HB0.out) (Off.of_below (F := ChF _ A cb c mb) hb1)
 have hs1 : w.heap.size + 1 < w1.heap.size := u1.b6.lt
 obtain ⟨W1,hW1⟩ : ∃ W1,w1.drew = W1 := ⟨_,rfl⟩
 have hbd : Below w1.heap.size w1 W1 := by rw [← hW1]; exact (Below.refl _ w1).drew
 have hsd : W1.heap.size = w1.heap.size := by rw [← hW1]; rfl
 have h2 := h1.below hbd
 have u2 := u1.off' HP.out h1 (Off.of_below hbd)
 have o2 : Off (ChF w A cb c mb) w W1 := ChF.trans o1 (Off.of_below (F := ChF w1 A cb c mb) hbd)
 have cells : ∀ W,UW W P w.heap.size (w.heap.size + 1) (.slice (some ⟨b,o,none⟩) r.length cc) k r → W.cell? ⟨w.heap.size, 0,none⟩ = some (.slice (some ⟨b,o,none⟩) r.length cc) ∧ W.cell? ⟨w.heap.size + 1, 0,none⟩ = some (.int .i64 k.1) ∧ W.cell? ⟨w.heap.size + 1, 1,none⟩ = some (.int .i64 k.2) ∧ W.cell? ⟨b,o + i * 3 + 2,none⟩ = some (.int .i64 (x.2 : Int)) := fun W u => ⟨u.b5.cell 0,u.b6.cell 0,u.b6.cell 1,u.row.cellAt HX.out⟩
 obtain ⟨c5,c60,c61,cx⟩ := cells w1 u1
 have KEEPS : Hid (∀ W',Off (ChF W1 A cb c mb) W1 W' → _) := fun W' ho => cells W' (u2.off' HP.out h2 ho)
 have hIH2 := hIH W1 s fv lv x.2 h2 HLOW.out u2.p (by omega)
 have HD : Hid _ := hD
 have HOP : Hid _ := hop
 have HU2 : Hid _ := u2
 have HC2 : Hid _ := h2
 have HO2 : Hid _ := o2
 clear cells hIH u1 h1 o1 hun hb1 HU0 HC0 HB0 hbd hD hop u2 h2 o2 hrr
 rw [← hW1] at hIH2
 cases hE : editF (nodesN s0) k op fu s x.2 with
 | bad => exact absurd (by rw [← HR.out,hE]; rfl) HNE.out
 | space =>
  have hRR : R = .space := by rw [← HR.out,hE]; rfl
  rw [hE] at hIH2
  have hcon := hIH2 (fun e => by cases e)
  clear hIH2 hE HR HNE
  subst hRR
  obtain rfl := hW1
  go_upto_region 3 with fail
  go_region_held3 (fun W' => W'.cell? ⟨w.heap.size, 0,none⟩ = some (.slice (some ⟨b,o,none⟩) r.length cc) ∧ W'.cell? ⟨w.heap.size + 1, 0,none⟩ = some (.int .i64 k.1) ∧ W'.cell? ⟨w.heap.size + 1, 1,none⟩ = some (.int .i64 k.2) ∧ W'.cell? ⟨b,o + i * 3 + 2,none⟩ = some (.int .i64 (x.2 : Int)))
   (first
    | exact ⟨c5,c60,c61,cx⟩
    | exact KEEPS.out _ o2
    | go_keep)
   (first
    | (go_at_call 143; refine hcon.mono ?_; rintro e w2 ⟨o2,rfl,s3,fv3,lv3,g3,r3⟩))
  go_wp2
  go_ret2
  exact ⟨ChF.trans HO2.out o2,rfl,s3,_,_,g3,by omega⟩
 | ok y =>
  have HR2 : Hid (editV (nodesN s0) r i y = R) := by show _ = _; rw [← HR.out,hE]; rfl
  obtain ⟨hl3,hy15,hcn3,hrd3⟩ := editF_low HD.out HOP.out fu s y.2 x.2 y.1 HLOW.out hE
  rw [hE] at hIH2
  have hcon := hIH2 (fun e => by cases e)
  have HL3 : Hid _ := hl3
  clear hIH2 hE HR hl3
  obtain rfl := hW1
  go_upto_region 3 with fail
  go_region_held3 (fun W' => W'.cell? ⟨w.heap.size, 0,none⟩ = some (.slice (some ⟨b,o,none⟩) r.length cc) ∧ W'.cell? ⟨w.heap.size + 1, 0,none⟩ = some (.int .i64 k.1) ∧ W'.cell? ⟨w.heap.size + 1, 1,none⟩ = some (.int .i64 k.2) ∧ W'.cell? ⟨b,o + i * 3 + 2,none⟩ = some (.int .i64 (x.2 : Int)))
   (first
    | exact ⟨c5,c60,c61,cx⟩
    | exact KEEPS.out _ o2
    | go_keep)
   (first
    | (go_at_call 143; refine hcon.mono ?_; rintro e w2 ⟨o2,v2,fv3,lv3,rfl,nv3,g3⟩))
  obtain ⟨T,xv,fp,fj,rfl,M⟩ := nv3.meth
  have hmp := M.poor_
  have hmj := M.join_
  simp [nm] at hmp hmj
  have hpe := M.pe
  have hje := M.je
  have hpo := M.poorC w2 nv3
  have u3 := HU2.out.off' HP.out HC2.out o2
  have HU3 : Hid _ := u3
  have HC3 : Hid _ := g3
  have HV3 : Hid (NodeV w2 (.iface T xv) y.1) := nv3
  have HM : Hid _ := M
  have HO3 : Hid (Off (ChF w A cb c mb) w w2) := ChF.trans HO2.out o2
  clear u3 g3 nv3 M o2 HU2 HC2 HO2
  cases hpr : y.1.poor with
  | false =>
   rw [hpr] at hpo
   have hV : keepIn y.1 y.2 (r.take i) (r.drop (i + 1)) = R := by rw [← HR2.out]; unfold editV; rw [hpr]; rfl
   have HVR : Hid _ := hV
   go_upto_region 18 with (first
    | (go_at_fn fp; refine hpo.mono ?_; rintro e w3 ⟨rfl,hb3⟩; have hpo2 := HM.out.poorC w3 (HV3.out.below hb3); rw [hpr] at hpo2; clear hpo)
    | (go_at_fn fp; refine hpo2.mono ?_; rintro e w4 ⟨rfl,hb4⟩))
   have hb24 : Below w2.heap.size w2 w4 := hb3.trans (hb4.mono hb3.size)
   have h5 := HC3.out.below hb24
   have v5 := HV3.out.below hb24
   have u5 := HU3.out.off' HP.out HC3.out (Off.of_below hb24)
   have o5 : Off (ChF w A cb c mb) w w4 := ChF.trans HO3.out (Off.of_below (F := ChF w2 A cb c mb) hb24)
   have KR : Hid (∀ z,keepIn y.1 y.2 (r.take i) (r.drop (i + 1)) = z → R = z) := fun z hz => HVR.out.symm.trans hz
   clear hpo2 hV hb3 hb4 hb24 HC3 HV3 HU3 HO3 HR2 HVR hmp hmj HM hpe hje
   cases hk : keepL y.1.parts y.2 with
   | bad => exact absurd (KR.out (.bad) (by unfold keepIn; rw [hk]; rfl)) HNE.out
   | space =>
    have hRR : R = .space := KR.out _ (by unfold keepIn; rw [hk]; rfl)
    have hkeep := keep_any w4 base A s0 t f cb c mb root y.2 fv3 lv3 h5 HL3.out _ y.1 v5 (by omega)
    rw [hk] at hkeep
    subst hRR
    clear hk v5 h5
    go_wp2_with (go_at_call 180; refine hkeep.mono ?_; rintro e w6 ⟨o6,rfl,s6,fv6,lv6,g6,r6⟩)
    go_ret2
    exact ⟨ChF.trans o5 o6,rfl,s6,_,_,g6,by omega⟩
   | ok q =>
    have hRR : R = .ok (.branch (r.take i ++ q.1 ++ r.drop (i + 1)),q.2) := KR.out _ (by unfold keepIn; rw [hk]; rfl)
    have hkeep := keep_any w4 base A s0 t f cb c mb root y.2 fv3 lv3 h5 HL3.out _ y.1 v5 (by omega)
    obtain ⟨_,hql,_,_⟩ := keepL_low _ _ _ _ HL3.out (parts_small (n := y.1) (by omega)).1 hk
    have hq2 := (parts_small (n := y.1) (by omega)).2
    have hql2 : q.1.length ≤ 2 := by omega
    rw [hk] at hkeep
    subst hRR
    have HU5 : Hid _ := u5
    have HC5 : Hid _ := h5
    clear hk v5 h5 u5 hql hq2
    go_wp2_with (first
     | (go_at_call 180; refine hkeep.mono ?_; rintro e w6 ⟨o6,v6,fv6,lv6,rfl,hrow6,g6⟩; have u6 := HU5.out.off' HP.out HC5.out o6; have d5 := u6.b5.cell 0; obtain ⟨va,vc,rfl,_,_⟩ := hrow6.len pkS; have hsw := swapS_any w6 _ r u6.row i (i + 1) (by omega) (by omega) _ q.1 (Src.of_row hrow6 prC_one) (by omega) (by omega); clear hrow6)
     | (go_at_call 211; refine hsw.mono ?_; rintro e w7 ⟨v7,rfl,hrow7,hb7⟩; obtain ⟨wa,wn,wc,rfl⟩ := hrow7.sl pkS))
    go_ret2
    exact ⟨ChF.trans (ChF.trans o5 o6) (Off.of_below hb7),_,_,_,rfl,⟨_,rfl,by first | exact hrow7 | (rw [← List.append_assoc]; exact hrow7)⟩,g6.below hb7⟩
  | true =>
   rw [hpr] at hpo
   have hmost := y.1.most_cases
   have hy7 : y.1.size < 7 := by
    have := hpr
    simp only [Node.poor,decide_eq_true_eq] at this
    omega
   by_cases h0 : 0 < i
   ·obtain ⟨j,rfl⟩ : ∃ j,i = j + 1 := ⟨i - 1,by omega⟩
    obtain ⟨a,ha⟩ : ∃ a,r[j]? = some a := ⟨_,List.getElem?_eq_getElem (by omega)⟩
    have hV : ((takeF (nodesN s0) y.2 a.2).bind fun z => if z.1.most = y.1.most then keepIn (z.1.join y.1) z.2 (r.take j) (r.drop (j + 2)) else .bad) = R := by
     rw [← HR2.out]; unfold editV; rw [hpr,if_pos rfl,if_pos h0,show j + 1 - 1 = j from rfl,ha]
    cases ht : takeF (nodesN s0) y.2 a.2 with
    | space => exact absurd ht takeF_space
    | bad => rw [ht] at hV; exact absurd hV.symm HNE.out
    | ok z =>
     rw [ht,Res.ok_bind] at hV
     by_cases hm : z.1.most = y.1.most
     ·rw [if_pos hm] at hV
      obtain ⟨hl4,hz14,hcn4,_,hrd4⟩ := takeF_low HD.out HL3.out ht
      have HL4 : Hid _ := hl4
      have HM4 : Hid (z.1.most = y.1.most) := hm
      have HTK : Hid (∀ W fv lv,Cg W base A s0 t f cb c mb root y.2 fv lv → _) := fun W fv lv g => take_any W base A s0 t f cb c mb root y.2 fv lv g hs a.2 z.1 z.2 ht (by simp only [CS.cnt] at hcn3 hcn4 hcnt; omega)
      have HA : Hid (r[j]? = some a) := ha
      have KR : Hid (∀ u,keepIn (z.1.join y.1) z.2 (r.take j) (r.drop (j + 2)) = u → R = u) := fun u hu => hV.symm.trans hu
      clear hl4 hm ha hV ht HR2
      go_upto_region 18 with (first
       | (go_at_fn fp; refine hpo.mono ?_; rintro e w3 ⟨rfl,hb3⟩; have h3 := HC3.out.below hb3; have u3 := HU3.out.off' HP.out HC3.out (Off.of_below hb3); have d5 := u3.b5.cell 0; have da := u3.row.cellAt HA.out; have htk := HTK.out w3 _ _ h3)
       | (go_at_call 178; refine htk.mono ?_; rintro e w4 ⟨v4,fv4,lv4,rfl,nv4,g4,o4⟩; obtain ⟨T4,x4,fp4,fj4,rfl,M4⟩ := nv4.meth; have hmj4 := M4.join_; simp [nm] at hmj4; have hje4 := M4.je; have hjn := M4.joinC w4 (.iface T xv) y.1 nv4 ((HV3.out.below hb3).off o4 h3.norow) HM4.out (by omega) (by omega))
       | (go_at_fn fj4; refine hjn.mono ?_; rintro e w5 ⟨T5,x5,rfl,v5,hb5⟩))
      have h5 := g4.below hb5
      have u5 := (u3.off' HP.out h3 o4).off' HP.out g4 (Off.of_below hb5)
      have o5 : Off (ChF w A cb c mb) w w5 := ChF.trans (ChF.trans HO3.out (Off.of_below (F := ChF w2 A cb c mb) hb3)) (ChF.trans o4 (Off.of_below (F := ChF w4 A cb c mb) hb5))
      have hj := join_size z.1 y.1
      clear htk hjn hb3 hb5 HC3 HV3 HU3 HO3 hmp hmj HM hpe hje u3 h3 o4 g4 nv4 hmj4 hje4 M4 da d5 hpo HTK
      cases hk : keepL (z.1.join y.1).parts z.2 with
      | bad => exact absurd (KR.out (.bad) (by unfold keepIn; rw [hk]; rfl)) HNE.out
      | space =>
       have hRR : R = .space := KR.out _ (by unfold keepIn; rw [hk]; rfl)
       have hkeep := keep_any w5 base A s0 t f cb c mb root z.2 fv4 lv4 h5 HL4.out _ (z.1.join y.1) v5 (by omega)
       rw [hk] at hkeep
       subst hRR
       clear hk v5 h5
       go_wp2_with (go_at_call 180; refine hkeep.mono ?_; rintro e w6 ⟨o6,rfl,s6,fv6,lv6,g6,r6⟩)
       go_ret2
       exact ⟨ChF.trans o5 o6,rfl,s6,_,_,g6,by omega⟩
      | ok q =>
       have hRR : R = .ok (.branch (r.take j ++ q.1 ++ r.drop (j + 2)),q.2) := KR.out _ (by unfold keepIn; rw [hk]; rfl)
       have hkeep := keep_any w5 base A s0 t f cb c mb root z.2 fv4 lv4 h5 HL4.out _ (z.1.join y.1) v5 (by omega)
       obtain ⟨_,hql,_,_⟩ := keepL_low _ _ _ _ HL4.out (parts_small (n := (z.1.join y.1)) (by omega)).1 hk
       have hq2 := (parts_small (n := (z.1.join y.1)) (by omega)).2
       have hql2 : q.1.length ≤ 2 := by omega
       rw [hk] at hkeep
       subst hRR
       have HU5 : Hid _ := u5
       have HC5 : Hid _ := h5
       clear hk v5 h5 u5 hql hq2
       go_wp2_with (first
        | (go_at_call 180; refine hkeep.mono ?_; rintro e w6 ⟨o6,v6,fv6,lv6,rfl,hrow6,g6⟩; have u6 := HU5.out.off' HP.out HC5.out o6; have d5 := u6.b5.cell 0; obtain ⟨va,vc,rfl,_,_⟩ := hrow6.len pkS; have hsw := swapS_any w6 _ r u6.row j (j + 2) (by omega) (by omega) _ q.1 (Src.of_row hrow6 prC_one) (by omega) (by omega); clear hrow6)
        | (go_at_call 211; refine hsw.mono ?_; rintro e w7 ⟨v7,rfl,hrow7,hb7⟩; obtain ⟨wa,wn,wc,rfl⟩ := hrow7.sl pkS))
       go_ret2
       exact ⟨ChF.trans (ChF.trans o5 o6) (Off.of_below hb7),_,_,_,rfl,⟨_,rfl,by first | exact hrow7 | (rw [← List.append_assoc]; exact hrow7)⟩,g6.below hb7⟩
     ·rw [if_neg hm] at hV; exact absurd hV.symm HNE.out
   ·obtain rfl : i = 0 := by omega
    cases ha : r[1]? with
    | none =>
     exact absurd (by rw [← HR2.out]; unfold editV; rw [hpr,if_pos rfl,if_neg h0,show 0 + 1 = 1 from rfl,ha]) HNE.out
    | some a =>
     have hV : ((takeF (nodesN s0) y.2 a.2).bind fun z => if z.1.most = y.1.most then keepIn (y.1.join z.1) z.2 (r.take 0) (r.drop 2) else .bad) = R := by
      rw [← HR2.out]; unfold editV; rw [hpr,if_pos rfl,if_neg h0,show 0 + 1 = 1 from rfl,ha]
     have hr1 := (List.getElem?_eq_some_iff.1 ha).1
     have hr1' : (1 : Int) < (r.length : Int) := by omega
     cases ht : takeF (nodesN s0) y.2 a.2 with
     | space => exact absurd ht takeF_space
     | bad => rw [ht] at hV; exact absurd hV.symm HNE.out
     | ok z =>
      rw [ht,Res.ok_bind] at hV
      by_cases hm : z.1.most = y.1.most
      ·rw [if_pos hm] at hV
       obtain ⟨hl4,hz14,hcn4,_,hrd4⟩ := takeF_low HD.out HL3.out ht
       have HL4 : Hid _ := hl4
       have HM4 : Hid (z.1.most = y.1.most) := hm
       have HTK : Hid (∀ W fv lv,Cg W base A s0 t f cb c mb root y.2 fv lv → _) := fun W fv lv g => take_any W base A s0 t f cb c mb root y.2 fv lv g hs a.2 z.1 z.2 ht (by simp only [CS.cnt] at hcn3 hcn4 hcnt; omega)
       have HA : Hid (r[1]? = some a) := ha
       have KR : Hid (∀ u,keepIn (y.1.join z.1) z.2 (r.take 0) (r.drop 2) = u → R = u) := fun u hu => hV.symm.trans hu
       clear hl4 hm ha hV ht HR2 h0 hil
       go_upto_region 18 with (first
        | (go_at_fn fp; refine hpo.mono ?_; rintro e w3 ⟨rfl,hb3⟩; have h3 := HC3.out.below hb3; have u3 := HU3.out.off' HP.out HC3.out (Off.of_below hb3); have hpo2 := HM.out.poorC w3 (HV3.out.below hb3); rw [hpr] at hpo2; clear hpo)
        | (go_at_fn fp; refine hpo2.mono ?_; rintro e w33 ⟨rfl,hb33⟩; have h33 := h3.below hb33; have u33 := u3.off' HP.out h3 (Off.of_below hb33); have d5 := u33.b5.cell 0; have da := u33.row.cellAt HA.out; have htk := HTK.out w33 _ _ h33)
        | (go_at_call 178; refine htk.mono ?_; rintro e w4 ⟨v4,fv4,lv4,rfl,nv4,g4,o4⟩; obtain ⟨T4,x4,fp4,fj4,rfl,M4⟩ := nv4.meth; have hjn := HM.out.joinC w4 (.iface T4 x4) z.1 (((HV3.out.below hb3).below hb33).off o4 h33.norow) nv4 HM4.out.symm (by omega) (by omega))
        | (go_at_fn fj; refine hjn.mono ?_; rintro e w5 ⟨T5,x5,rfl,v5,hb5⟩))
       have h5 := g4.below hb5
       have u5 := (u33.off' HP.out h33 o4).off' HP.out g4 (Off.of_below hb5)
       have o5 : Off (ChF w A cb c mb) w w5 := ChF.trans (ChF.trans (ChF.trans HO3.out (Off.of_below (F := ChF w2 A cb c mb) hb3)) (Off.of_below (F := ChF w3 A cb c mb) hb33)) (ChF.trans o4 (Off.of_below (F := ChF w4 A cb c mb) hb5))
       have hj := join_size y.1 z.1
       clear htk hjn hb3 hb5 HC3 HV3 HU3 HO3 hmp hmj HM hpe hje u3 h3 o4 g4 nv4 M4 da d5 HTK hb33 h33 u33 hpo2
       cases hk : keepL (y.1.join z.1).parts z.2 with
       | bad => exact absurd (KR.out (.bad) (by unfold keepIn; rw [hk]; rfl)) HNE.out
       | space =>
        have hRR : R = .space := KR.out _ (by unfold keepIn; rw [hk]; rfl)
        have hkeep := keep_any w5 base A s0 t f cb c mb root z.2 fv4 lv4 h5 HL4.out _ (y.1.join z.1) v5 (by omega)
        rw [hk] at hkeep
        subst hRR
        clear hk v5 h5
        go_wp2_with (go_at_call 180; refine hkeep.mono ?_; rintro e w6 ⟨o6,rfl,s6,fv6,lv6,g6,r6⟩)
        go_ret2
        exact ⟨ChF.trans o5 o6,rfl,s6,_,_,g6,by omega⟩
       | ok q =>
        have hRR : R = .ok (.branch (r.take 0 ++ q.1 ++ r.drop 2),q.2) := KR.out _ (by unfold keepIn; rw [hk]; rfl)
        have hkeep := keep_any w5 base A s0 t f cb c mb root z.2 fv4 lv4 h5 HL4.out _ (y.1.join z.1) v5 (by omega)
        obtain ⟨_,hql,_,_⟩ := keepL_low _ _ _ _ HL4.out (parts_small (n := (y.1.join z.1)) (by omega)).1 hk
        have hq2 := (parts_small (n := (y.1.join z.1)) (by omega)).2
        have hql2 : q.1.length ≤ 2 := by omega
        rw [hk] at hkeep
        subst hRR
        have HU5 : Hid _ := u5
        have HC5 : Hid _ := h5
        clear hk v5 h5 u5 hql hq2
        go_wp2_with (first
         | (go_at_call 180; refine hkeep.mono ?_; rintro e w6 ⟨o6,v6,fv6,lv6,rfl,hrow6,g6⟩; have u6 := HU5.out.off' HP.out HC5.out o6; have d5 := u6.b5.cell 0; obtain ⟨va,vc,rfl,_,_⟩ := hrow6.len pkS; have hsw := swapS_any w6 _ r u6.row 0 2 (by omega) (by omega) _ q.1 (Src.of_row hrow6 prC_one) (by omega) (by omega); clear hrow6)
         | (go_at_call 211; refine hsw.mono ?_; rintro e w7 ⟨v7,rfl,hrow7,hb7⟩; obtain ⟨wa,wn,wc,rfl⟩ := hrow7.sl pkS))
        go_ret2
        exact ⟨ChF.trans (ChF.trans o5 o6) (Off.of_below hb7),_,_,_,rfl,⟨_,rfl,by first | exact hrow7 | (rw [← List.append_assoc]; exact hrow7)⟩,g6.below hb7⟩
      ·rw [if_neg hm] at hV; exact absurd hV.symm HNE.out
end
end Go.Proofs.YtdgbgmffpcooeaaGreat
