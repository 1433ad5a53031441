/- Ch9 Ch10 Ch11 -/
import Derived.Test.YtdgbgmffpcooeaaGreatU23
namespace Go.Proofs.YtdgbgmffpcooeaaGreat
open Go.RowKit Go.Lib Go.Maps
section
set_option maxRecDepth 100000 in
set_option maxHeartbeats 8000000 in
theorem editNode_any (base : Nat) (A : PA) (s0 : PS) (t : Nat) (f : Value) (cb c mb root : Nat) (hs : s0.brk = false) (fn : Nat) (cap : Value) (P : World → Prop) (hP : Stays P base A s0 t f cb c mb root) (k : Key) (op : List (Key × Box) → List (Key × Box)) (hop : OpOk k op) (hD : ∀ t nd,nodesN s0 t = some nd → nd.size ≤ 14)
  (hen : ∀ (args : Array Value) (w : World),(callFunc fn args).run Tryz.prog w = .ok (.enter fn args) w)
  (hfn : ∀ (W : World) (a : Option Addr) (n cc : Nat) (r : List (Key × Box)),P W → RowR W (.slice a n cc) r → Rising r → r.length ≤ 14 → Calls Tryz.prog fn #[.agg #[.slice a n cc],cap] W fun e w' => ∃ a' n' c',e = .returned (.agg #[.slice a' n' c']) ∧ RowR w' (.slice a' n' c') (op r) ∧ Below W.heap.size W w') :
  ∀ (fu : Nat) (w : World) (s : CS Box) (fv lv : Value) (sec : Nat),Cg w base A s0 t f cb c mb root s fv lv → Low s → P w → s.cnt + 2 * fu ≤ 100000 → editF (nodesN s0) k op fu s sec ≠ .bad → Calls Tryz.prog 143 #[.pointer (some ⟨c, 0,none⟩), .int .i64 (sec : Int),keyV k, .func (.func fn) #[] #[cap]] w (EditP (2 * fu) w base A s0 t f cb c mb root s (editF (nodesN s0) k op fu s sec))
 | 0,_,_,_,_,_,_,_,_,_,hne => absurd rfl hne
 | fu + 1,w,s,fv,lv,sec,h,hlow,hPw,hcnt,hne => by
  have hIH := editNode_any base A s0 t f cb c mb root hs fn cap P hP k op hop hD hen hfn fu
  obtain ⟨R,hR⟩ : ∃ R,editF (nodesN s0) k op (fu + 1) s sec = R := ⟨_,rfl⟩
  rw [hR] at hne ⊢
  rw [editF_succ] at hR
  have hb0 : Below w.heap.size w (w.alloc (.cells #[.int .i64 k.1, .int .i64 k.2] 154)) := (Below.refl _ w).alloc (Nat.le_refl _) _
  have h0 := h.below hb0
  have hB6 := Blk.new w 154 #[.int .i64 k.1, .int .i64 k.2]
  have hP0 := hP _ _ _ _ _ h hPw (Off.of_below hb0)
  cases ht : takeF (nodesN s0) s sec with
  | space => exact absurd ht takeF_space
  | bad => rw [ht] at hR; exact absurd hR.symm hne
  | ok x =>
   obtain ⟨nd,s1⟩ := x
   rw [ht,Res.ok_bind] at hR
   obtain ⟨hl1,hz1,hcn1,_,hrd1⟩ := takeF_low hD hlow ht
   have htk := take_any _ base A s0 t f cb c mb root s fv lv h0 hs sec nd s1 ht (by simp only [CS.cnt] at hcn1 hcnt; omega)
   have HB6 : Hid (∀ W',Off (ChF (w.alloc (.cells #[.int .i64 k.1, .int .i64 k.2] 154)) A cb c mb) (w.alloc (.cells #[.int .i64 k.1, .int .i64 k.2] 154)) W' → P W' ∧ Blk W' w.heap.size 154 #[.int .i64 k.1, .int .i64 k.2]) := fun W' ho => ⟨hP _ _ _ _ _ h0 hP0 ho,hB6.off ho (fun hf => h0.not175 (tg := 154) (by decide) (by decide) (by decide) (by decide) (by decide) _ hf ⟨_,hB6⟩)⟩
   have HB0 : Hid _ := hb0
   have HP : Hid (Stays P base A s0 t f cb c mb root) := hP
   clear ht h h0 hB6 hP0 hPw hb0 hlow hP
   cases nd with
   | leaf r =>
    simp only at hR
    by_cases hrr : Rising r
    ·rw [if_pos hrr] at hR
     subst hR
     have hta := ta_ll
     have HF : Hid _ := hfn
     have HRR : Hid _ := hrr
     simp only [Node.size] at hz1
     clear hfn hrr hIH hne
     go_enter Tryz.func143,Tryz.ntmps143
     go_upto_region 7 with (go_at_call 178; refine htk.mono ?_; rintro e w1 ⟨v1,fv1,lv1,rfl,nv1,g1,o1⟩; obtain ⟨u1,rfl,hu1⟩ := nv1; obtain ⟨ua,uc,rfl,_,_⟩ := hu1.len pkR)
     obtain ⟨p1,_⟩ := HB6.out w1 o1
     have hb1 : Below w1.heap.size w1 (w1.alloc (.cells #[.slice ua r.length uc] 191)) := (Below.refl _ w1).alloc (Nat.le_refl _) _
     have p2 := HP.out _ _ _ _ _ g1 p1 (Off.of_below hb1)
     have hcl := HF.out _ _ _ _ r p2 (hu1.below pkR hb1) HRR.out hz1
     have g2 := g1.below hb1
     have o2 := ChF.trans (ChF.trans (Off.of_below (F := ChF w A cb c mb) HB0.out) o1) (Off.of_below (F := ChF w1 A cb c mb) hb1)
     have HG2 : Hid _ := g2
     have HO2 : Hid _ := o2
     clear g2 o2 p2 p1 hb1 hu1 g1 o1 htk
     go_wp2_with (go_at_fn fn; refine hcl.mono ?_; rintro e w2 ⟨xa,xn,xc,rfl,hrow2,hb2⟩)
     go_ret2
     exact ⟨ChF.trans HO2.out (Off.of_below hb2),_,_,_,rfl,⟨_,rfl,hrow2⟩,HG2.out.below hb2⟩
    ·rw [if_neg hrr] at hR; exact absurd hR.symm hne
   | branch r =>
    simp only at hR
    by_cases hrr : Rising r
    ·rw [if_pos hrr] at hR
     cases hx : r[undr k r]? with
     | none => rw [hx] at hR; exact absurd hR.symm hne
     | some x =>
      rw [hx] at hR
      simp only at hR
      have hta := ta_lb
      have hta2 := ta_bb
      simp only [Node.size] at hz1
      have HU : Hid (∀ W fv lv rv,Cg W base A s0 t f cb c mb root s1 fv lv → P W → RowS W rv r → Calls Tryz.prog 179 #[.pointer (some ⟨c, 0,none⟩), .agg #[rv],keyV k, .func (.func fn) #[] #[cap]] W (EditP (2 * fu + 1) W base A s0 t f cb c mb root s1 R)) := fun W fv lv rv g p hrow => by
       have := editUnder_any fu W base A s0 t f cb c mb root s1 fv lv g hs hl1 fn cap P HP.out p k op hop hD (by omega) r rv hrow hrr hz1 x hx (by rw [hR]; exact hne) hIH
       rw [hR] at this
       exact this
      clear hfn hIH hR hx hen hop hrr hD
      cases R with
      | bad => exact absurd rfl hne
      | ok z =>
       go_enter Tryz.func143,Tryz.ntmps143
       go_upto_region 10 with (go_at_call 178; refine htk.mono ?_; rintro e w1 ⟨v1,fv1,lv1,rfl,nv1,g1,o1⟩; obtain ⟨u1,rfl,hu1⟩ := nv1; obtain ⟨ua,uc,rfl,_,_⟩ := hu1.len pkS)
       obtain ⟨p1,b1⟩ := HB6.out w1 o1
       have hb1 : Below w1.heap.size w1 (w1.alloc (.cells #[.slice ua r.length uc] 214)) := (Below.refl _ w1).alloc (Nat.le_refl _) _
       have p2 := HP.out _ _ _ _ _ g1 p1 (Off.of_below hb1)
       have hcl := HU.out _ _ _ _ (g1.below hb1) p2 (hu1.below pkS hb1)
       have b2 := b1.alloc (.cells #[.slice ua r.length uc] 214)
       have c0 := b1.cell 0
       have c1 := b1.cell 1
       have hlt := b1.lt
       have o2 := ChF.trans (ChF.trans (Off.of_below (F := ChF w A cb c mb) HB0.out) o1) (Off.of_below (F := ChF w1 A cb c mb) hb1)
       have HO2 : Hid _ := o2
       clear o2 p2 p1 hb1 hu1 g1 o1 htk b2 b1
       go_wp2_with (go_at_call 179; refine hcl.mono ?_; rintro e w2 ⟨o3,v2,fv2,lv2,rfl,nv2,g2⟩)
       go_ret2
       exact ⟨ChF.trans HO2.out o3,_,_,_,rfl,nv2,g2⟩
      | space =>
       go_enter Tryz.func143,Tryz.ntmps143
       go_upto_region 10 with (go_at_call 178; refine htk.mono ?_; rintro e w1 ⟨v1,fv1,lv1,rfl,nv1,g1,o1⟩; obtain ⟨u1,rfl,hu1⟩ := nv1; obtain ⟨ua,uc,rfl,_,_⟩ := hu1.len pkS)
       obtain ⟨p1,b1⟩ := HB6.out w1 o1
       have hb1 : Below w1.heap.size w1 (w1.alloc (.cells #[.slice ua r.length uc] 214)) := (Below.refl _ w1).alloc (Nat.le_refl _) _
       have p2 := HP.out _ _ _ _ _ g1 p1 (Off.of_below hb1)
       have hcl := HU.out _ _ _ _ (g1.below hb1) p2 (hu1.below pkS hb1)
       have c0 := b1.cell 0
       have c1 := b1.cell 1
       have hlt := b1.lt
       have o2 := ChF.trans (ChF.trans (Off.of_below (F := ChF w A cb c mb) HB0.out) o1) (Off.of_below (F := ChF w1 A cb c mb) hb1)
       have HO2 : Hid _ := o2
       clear o2 p2 p1 hb1 hu1 g1 o1 htk b1
       go_wp2_with (go_at_call 179; refine hcl.mono ?_; rintro e w2 ⟨o3,rfl,s2,fv2,lv2,g2,r2⟩)
       go_ret2
       exact ⟨ChF.trans HO2.out o3,rfl,s2,_,_,g2,by omega⟩
    ·rw [if_neg hrr] at hR; exact absurd hR.symm hne
end
section
def ChangeP (m : Nat) (w : World) (base : Nat) (A : PA) (s0 : PS) (t : Nat) (f : Value) (cb c mb root : Nat) (s : CS Box) (res : Res (Nat × CS Box)) (e : Ending) (w' : World) : Prop :=
 Off (ChF w A cb c mb) w w' ∧ match res with
 | .ok x => e = .returned (.int .i64 0) ∧ ∃ fv' lv',Cg w' base A s0 t f cb c mb x.1 x.2 fv' lv'
 | .space => e = .returned (.int .i64 10) ∧ ∃ s'' fv' lv',Cg w' base A s0 t f cb c mb root s'' fv' lv' ∧ s''.reads ≤ s.reads + m
 | .bad => False
set_option maxRecDepth 100000 in
set_option maxHeartbeats 4000000 in
theorem withC_any (w : World) (eb : Nat) (x : Key × Box) (hE : Blk w eb 156 #[.int .i64 x.1.1, .int .i64 x.1.2, .int .i64 (x.2.a : Int), .int .i64 (x.2.b : Int), .int .i64 (x.2.c : Int), .int .i64 (x.2.d : Int)]) (a : Option Addr) (n cc : Nat) (r : List (Key × Box)) (hr : RowR w (.slice a n cc) r) (hrr : Rising r) (hl : r.length ≤ 14) :
  Calls Tryz.prog 113 #[.agg #[.slice a n cc], .pointer (some ⟨eb, 0,none⟩)] w fun e w' => ∃ a' n' c',e = .returned (.agg #[.slice a' n' c']) ∧ RowR w' (.slice a' n' c') (ins x.1 x.2 r) ∧ Below w.heap.size w w' := by
 have hb1 : Below w.heap.size w (w.alloc (.cells #[.slice a n cc] 191)) := (Below.refl _ w).alloc (Nat.le_refl _) _
 have hb0 : Below w.heap.size w ((w.alloc (.cells #[.slice a n cc] 191)).alloc (.cells #[.slice none 0 0] 191)) := hb1.trans (((Below.refl _ _).alloc (Nat.le_refl _) _).mono hb1.size)
 have hcon := lwith_any _ _ r (hr.below pkR hb0) hrr (by omega) x
 have hB3 : Blk ((w.alloc (.cells #[.slice a n cc] 191)).alloc (.cells #[.slice none 0 0] 191)) (w.heap.size + 1) 191 #[.slice none 0 0] := by simpa using Blk.new (w.alloc (.cells #[.slice a n cc] 191)) 191 #[.slice none 0 0]
 have harm : ∀ w1,Below ((w.alloc (.cells #[.slice a n cc] 191)).alloc (.cells #[.slice none 0 0] 191)).heap.size ((w.alloc (.cells #[.slice a n cc] 191)).alloc (.cells #[.slice none 0 0] 191)) w1 → w1.cell? ⟨w.heap.size + 1, 0,none⟩ = some (.slice none 0 0) ∧ w1.frozen? ⟨w.heap.size + 1, 0,none⟩ = false ∧ ∀ u v,RowR w1 v u → ∀ z,RowR (w1.setCell ⟨w.heap.size + 1, 0,none⟩ z) v u ∧ Below w.heap.size w (w1.setCell ⟨w.heap.size + 1, 0,none⟩ z) := fun w1 hb => by
  have b3 := hB3.below hb hB3.lt
  refine ⟨b3.cell 0,b3.frozen 0,fun u v hv z => ⟨hv.off pkR (Off.one w1 z) (fun b hb ht => ?_), ?_⟩⟩
  ·subst hb
   obtain ⟨cs,ht⟩ := ht
   have hh : w1.heap[w.heap.size + 1]? = _ := b3
   rw [hh] at ht
   simp [pkR] at ht
  ·have h1 : Below w.heap.size w w1 := hb0.trans (hb.mono hb0.size)
   exact h1.trans ((Off.one w1 z).below h1.size (fun k hk => by omega))
 have c0 : w.cell? ⟨eb, 0,none⟩ = some (.int .i64 x.1.1) := hE.cell 0
 have c1 : w.cell? ⟨eb, 1,none⟩ = some (.int .i64 x.1.2) := hE.cell 1
 have c2 : w.cell? ⟨eb, 2,none⟩ = some (.int .i64 (x.2.a : Int)) := hE.cell 2
 have c3 : w.cell? ⟨eb, 3,none⟩ = some (.int .i64 (x.2.b : Int)) := hE.cell 3
 have c4 : w.cell? ⟨eb, 4,none⟩ = some (.int .i64 (x.2.c : Int)) := hE.cell 4
 have c5 : w.cell? ⟨eb, 5,none⟩ = some (.int .i64 (x.2.d : Int)) := hE.cell 5
 have hlt := hE.lt
 have HARM : Hid _ := harm
 clear hr hrr hb0 hb1 hE harm hB3
 go_enter Tryz.func113,Tryz.ntmps113
 go_wp2_with (go_at_call 114; refine hcon.mono ?_; rintro e w1 ⟨v1,rfl,hrow1,hb1⟩; obtain ⟨a1,n1,c1',rfl⟩ := hrow1.sl pkR; obtain ⟨d7,d8,hfin⟩ := HARM.out w1 hb1; have HFIN : Hid _ := hfin _ _ hrow1; clear hfin)
 exact bodyPost_ret (v := .agg #[.slice a1 n1 c1']) (by simp [results,Tryz.results113,go_sem,d7]) rfl ⟨_,_,_,rfl,(HFIN.out _).1,(HFIN.out _).2⟩
set_option maxRecDepth 100000 in
set_option maxHeartbeats 4000000 in
theorem withoutC_any (w : World) (eb : Nat) (k : Key) (hE : Blk w eb 154 #[.int .i64 k.1, .int .i64 k.2]) (a : Option Addr) (n cc : Nat) (r : List (Key × Box)) (hr : RowR w (.slice a n cc) r) (hrr : Rising r) (hl : r.length ≤ 14) :
  Calls Tryz.prog 136 #[.agg #[.slice a n cc], .pointer (some ⟨eb, 0,none⟩)] w fun e w' => ∃ a' n' c',e = .returned (.agg #[.slice a' n' c']) ∧ RowR w' (.slice a' n' c') (del k r) ∧ Below w.heap.size w w' := by
 have hb1 : Below w.heap.size w (w.alloc (.cells #[.slice a n cc] 191)) := (Below.refl _ w).alloc (Nat.le_refl _) _
 have hb0 : Below w.heap.size w ((w.alloc (.cells #[.slice a n cc] 191)).alloc (.cells #[.slice none 0 0] 191)) := hb1.trans (((Below.refl _ _).alloc (Nat.le_refl _) _).mono hb1.size)
 have hcon := lwithout_any _ _ r (hr.below pkR hb0) hrr (by omega) k
 have hB3 : Blk ((w.alloc (.cells #[.slice a n cc] 191)).alloc (.cells #[.slice none 0 0] 191)) (w.heap.size + 1) 191 #[.slice none 0 0] := by simpa using Blk.new (w.alloc (.cells #[.slice a n cc] 191)) 191 #[.slice none 0 0]
 have harm : ∀ w1,Below ((w.alloc (.cells #[.slice a n cc] 191)).alloc (.cells #[.slice none 0 0] 191)).heap.size ((w.alloc (.cells #[.slice a n cc] 191)).alloc (.cells #[.slice none 0 0] 191)) w1 → w1.cell? ⟨w.heap.size + 1, 0,none⟩ = some (.slice none 0 0) ∧ w1.frozen? ⟨w.heap.size + 1, 0,none⟩ = false ∧ ∀ u v,RowR w1 v u → ∀ z,RowR (w1.setCell ⟨w.heap.size + 1, 0,none⟩ z) v u ∧ Below w.heap.size w (w1.setCell ⟨w.heap.size + 1, 0,none⟩ z) := fun w1 hb => by
  have b3 := hB3.below hb hB3.lt
  refine ⟨b3.cell 0,b3.frozen 0,fun u v hv z => ⟨hv.off pkR (Off.one w1 z) (fun b hb ht => ?_), ?_⟩⟩
  ·subst hb
   obtain ⟨cs,ht⟩ := ht
   have hh : w1.heap[w.heap.size + 1]? = _ := b3
   rw [hh] at ht
   simp [pkR] at ht
  ·have h1 : Below w.heap.size w w1 := hb0.trans (hb.mono hb0.size)
   exact h1.trans ((Off.one w1 z).below h1.size (fun k hk => by omega))
 have c0 : w.cell? ⟨eb, 0,none⟩ = some (.int .i64 k.1) := hE.cell 0
 have c1 : w.cell? ⟨eb, 1,none⟩ = some (.int .i64 k.2) := hE.cell 1
 have hlt := hE.lt
 have HARM : Hid _ := harm
 clear hr hrr hb0 hb1 hE harm hB3
 go_enter Tryz.func136,Tryz.ntmps136
 go_wp2_with (go_at_call 137; refine hcon.mono ?_; rintro e w1 ⟨v1,rfl,hrow1,hb1⟩; obtain ⟨a1,n1,c1',rfl⟩ := hrow1.sl pkR; obtain ⟨d7,d8,hfin⟩ := HARM.out w1 hb1; have HFIN : Hid _ := hfin _ _ hrow1; clear hfin)
 exact bodyPost_ret (v := .agg #[.slice a1 n1 c1']) (by simp [results,Tryz.results136,go_sem,d7]) rfl ⟨_,_,_,rfl,(HFIN.out _).1,(HFIN.out _).2⟩
theorem ent113 : Enters Tryz.prog 113 := fun args w => by simp
theorem ent136 : Enters Tryz.prog 136 := fun args w => by simp
set_option maxRecDepth 100000 in
set_option maxHeartbeats 8000000 in
theorem edit_any (fu : Nat) (w : World) (base : Nat) (A : PA) (s0 : PS) (t : Nat) (f : Value) (cb c mb root : Nat) (s : CS Box) (fv lv : Value) (h : Cg w base A s0 t f cb c mb root s fv lv) (hs : s0.brk = false) (hlow : Low s) (fn : Nat) (cap : Value) (P : World → Prop) (hP : Stays P base A s0 t f cb c mb root) (hPw : P w) (k : Key) (op : List (Key × Box) → List (Key × Box)) (hop : OpOk k op) (hD : ∀ t nd,nodesN s0 t = some nd → nd.size ≤ 14) (hcnt : s.cnt + 2 * fu ≤ 100000)
  (hen : ∀ (args : Array Value) (w : World),(callFunc fn args).run Tryz.prog w = .ok (.enter fn args) w)
  (hfn : ∀ (W : World) (a : Option Addr) (n cc : Nat) (r : List (Key × Box)),P W → RowR W (.slice a n cc) r → Rising r → r.length ≤ 14 → Calls Tryz.prog fn #[.agg #[.slice a n cc],cap] W fun e w' => ∃ a' n' c',e = .returned (.agg #[.slice a' n' c']) ∧ RowR w' (.slice a' n' c') (op r) ∧ Below W.heap.size W w')
  (hne : changeF (nodesN s0) k op fu s root ≠ .bad) :
  Calls Tryz.prog 112 #[.pointer (some ⟨c, 0,none⟩),keyV k, .func (.func fn) #[] #[cap]] w (ChangeP (2 * fu) w base A s0 t f cb c mb root s (changeF (nodesN s0) k op fu s root)) := by
 have hb0 : Below w.heap.size w (w.alloc (.cells #[.int .i64 k.1, .int .i64 k.2] 154)).drew := ((Below.refl _ w).alloc (Nat.le_refl _) _).drew
 have h0 := h.below hb0
 have hB6 : Blk (w.alloc (.cells #[.int .i64 k.1, .int .i64 k.2] 154)).drew w.heap.size 154 #[.int .i64 k.1, .int .i64 k.2] := (Blk.new w 154 #[.int .i64 k.1, .int .i64 k.2]).drew
 have hP0 := hP _ _ _ _ _ h hPw (Off.of_below hb0)
 have hcl0 := h.cl
 have cr : w.cell? ⟨c, 1,none⟩ = some (.int .i64 (root : Int)) := h.ch.blk.cell 1
 have KEEPS : Hid (∀ W',Off (ChF (w.alloc (.cells #[.int .i64 k.1, .int .i64 k.2] 154)).drew A cb c mb) (w.alloc (.cells #[.int .i64 k.1, .int .i64 k.2] 154)).drew W' → (∃ rt : Nat, ∃ s fv lv,Cg W' base A s0 t f cb c mb rt s fv lv ∧ rt = root) → W'.cell? ⟨c, 1,none⟩ = some (.int .i64 (root : Int)) ∧ W'.cell? ⟨w.heap.size, 0,none⟩ = some (.int .i64 k.1) ∧ W'.cell? ⟨w.heap.size, 1,none⟩ = some (.int .i64 k.2)) := fun W' ho ⟨rt,s,fv,lv,g,e⟩ => by
  subst e
  have b6 := hB6.off ho (fun hf => h0.not175 (tg := 154) (by decide) (by decide) (by decide) (by decide) (by decide) _ hf ⟨_,hB6⟩)
  exact ⟨g.ch.blk.cell 1,b6.cell 0,b6.cell 1⟩
 unfold changeF at hne ⊢
 have HE : Hid _ := fun hn => editNode_any base A s0 t f cb c mb root hs fn cap P hP k op hop hD hen hfn fu _ s fv lv root h0 hlow hP0 hcnt hn
 have HB0 : Hid _ := hb0
 have hlw := editF_low (k := k) (op := op) hD hop fu s
 clear h0 hB6 hP0 hPw hP hop hD hen hfn hb0 h
 cases hE : editF (nodesN s0) k op fu s root with
 | bad => rw [hE] at hne; exact absurd rfl hne
 | space =>
  have hcon := HE.out (by rw [hE]; intro e; cases e)
  rw [hE] at hcon
  rw [Res.space_bind]
  clear HE hne hE hlw
  go_enter Tryz.func112,Tryz.ntmps112
  go_upto_region 1 with fail
  go_region_held3 (fun W' => W'.cell? ⟨c, 1,none⟩ = some (.int .i64 (root : Int)) ∧ W'.cell? ⟨w.heap.size, 0,none⟩ = some (.int .i64 k.1) ∧ W'.cell? ⟨w.heap.size, 1,none⟩ = some (.int .i64 k.2))
   (first
    | exact KEEPS.out _ o2 ⟨_,_,_,_,g3,rfl⟩
    | go_keep)
   (first
    | (go_at_call 143; refine hcon.mono ?_; rintro e w2 ⟨o2,rfl,s3,fv3,lv3,g3,r3⟩))
  go_wp2
  go_ret
  exact ⟨ChF.trans (Off.of_below HB0.out) o2,rfl,s3,_,_,g3,r3⟩
 | ok y =>
  have hcon := HE.out (by rw [hE]; intro e; cases e)
  rw [hE] at hcon hne
  obtain ⟨l1,l2,l3,l4⟩ := hlw y.2 root y.1 hlow hE
  rw [Res.ok_bind] at hne ⊢
  have HPL : Hid _ := fun W fv lv v (g : Cg W base A s0 t f cb c mb root y.2 fv lv) (hv : NodeV W v y.1) => plant_any 2 W base A s0 t f cb c mb root y.2 fv lv g l1 v y.1 hv (by omega) hne
  clear HE hE hlw
  obtain ⟨R,hR⟩ : ∃ R,plantF 2 y.2 y.1 = R := ⟨_,rfl⟩
  rw [hR] at hne HPL ⊢
  clear hR
  cases R with
  | bad => exact absurd rfl hne
  | ok z =>
   go_enter Tryz.func112,Tryz.ntmps112
   go_upto_region 1 with fail
   go_region_held3 (fun W' => W'.cell? ⟨c, 1,none⟩ = some (.int .i64 (root : Int)) ∧ W'.cell? ⟨w.heap.size, 0,none⟩ = some (.int .i64 k.1) ∧ W'.cell? ⟨w.heap.size, 1,none⟩ = some (.int .i64 k.2))
    (first
     | exact KEEPS.out _ o2 ⟨_,_,_,_,g3,rfl⟩
     | go_keep)
    (first
     | (go_at_call 143; refine hcon.mono ?_; rintro e w2 ⟨o2,v2,fv3,lv3,rfl,nv3,g3⟩))
   have hpl := HPL.out w2 fv3 lv3 v2 g3 nv3
   go_wp2_with (go_at_call 144; refine hpl.mono ?_; rintro e w4 ⟨o4,rfl,g4⟩)
   go_ret
   exact ⟨ChF.trans (ChF.trans (Off.of_below HB0.out) o2) o4,rfl,g4⟩
  | space =>
   go_enter Tryz.func112,Tryz.ntmps112
   go_upto_region 1 with fail
   go_region_held3 (fun W' => W'.cell? ⟨c, 1,none⟩ = some (.int .i64 (root : Int)) ∧ W'.cell? ⟨w.heap.size, 0,none⟩ = some (.int .i64 k.1) ∧ W'.cell? ⟨w.heap.size, 1,none⟩ = some (.int .i64 k.2))
    (first
     | exact KEEPS.out _ o2 ⟨_,_,_,_,g3,rfl⟩
     | go_keep)
    (first
     | (go_at_call 143; refine hcon.mono ?_; rintro e w2 ⟨o2,v2,fv3,lv3,rfl,nv3,g3⟩))
   have hpl := HPL.out w2 fv3 lv3 v2 g3 nv3
   go_wp2_with (go_at_call 144; refine hpl.mono ?_; rintro e w4 ⟨o4,rfl,s4,fv4,lv4,g4,r4⟩)
   go_ret
   exact ⟨ChF.trans (ChF.trans (Off.of_below HB0.out) o2) o4,rfl,s4,_,_,g4,by omega⟩
end
section
theorem stays_blk {base : Nat} {A : PA} {s0 : PS} {t : Nat} {f : Value} {cb c mb root : Nat} (eb tg : Nat) (vs : Array Value) (h3 : tg ≠ 3) (h185 : tg ≠ 185) (h109 : tg ≠ 109) (h133 : tg ≠ 133) (h135 : tg ≠ 135) : Stays (fun W => Blk W eb tg vs) base A s0 t f cb c mb root := fun _ _ _ _ _ hc hb ho => hb.off ho (fun hf => hc.not175 h3 h185 h109 h133 h135 _ hf ⟨_,hb⟩)
set_option maxRecDepth 100000 in
set_option maxHeartbeats 8000000 in
theorem cput_any (fu : Nat) (w : World) (base : Nat) (A : PA) (s0 : PS) (t : Nat) (f : Value) (cb c mb root : Nat) (s : CS Box) (fv lv : Value) (h : Cg w base A s0 t f cb c mb root s fv lv) (hs : s0.brk = false) (hlow : Low s) (x : Key × Box) (hD : ∀ t nd,nodesN s0 t = some nd → nd.size ≤ 14) (hcnt : s.cnt + 2 * fu ≤ 100000) (hne : changeF (nodesN s0) x.1 (ins x.1 x.2) fu s root ≠ .bad) :
  Calls Tryz.prog 84 #[.pointer (some ⟨c, 0,none⟩),entV x] w (ChangeP (2 * fu) w base A s0 t f cb c mb root s (changeF (nodesN s0) x.1 (ins x.1 x.2) fu s root)) := by
 have hb0 : Below w.heap.size w (w.alloc (.cells #[.int .i64 x.1.1, .int .i64 x.1.2, .int .i64 (x.2.a : Int), .int .i64 (x.2.b : Int), .int .i64 (x.2.c : Int), .int .i64 (x.2.d : Int)] 156)) := (Below.refl _ w).alloc (Nat.le_refl _) _
 have hcon := edit_any fu _ base A s0 t f cb c mb root s fv lv (h.below hb0) hs hlow 113 (.pointer (some ⟨w.heap.size, 0,none⟩)) (fun W => Blk W w.heap.size 156 #[.int .i64 x.1.1, .int .i64 x.1.2, .int .i64 (x.2.a : Int), .int .i64 (x.2.b : Int), .int .i64 (x.2.c : Int), .int .i64 (x.2.d : Int)]) (stays_blk _ 156 _ (by decide) (by decide) (by decide) (by decide) (by decide)) (Blk.new w 156 #[.int .i64 x.1.1, .int .i64 x.1.2, .int .i64 (x.2.a : Int), .int .i64 (x.2.b : Int), .int .i64 (x.2.c : Int), .int .i64 (x.2.d : Int)]) x.1 (ins x.1 x.2) (opOk_ins x.1 x.2) hD hcnt ent113 (fun W a n cc r p hr hrr hl => withC_any W _ x p a n cc r hr hrr hl) hne
 have HB0 : Hid _ := hb0
 clear h hlow hD
 obtain ⟨R,hR⟩ : ∃ R,changeF (nodesN s0) x.1 (ins x.1 x.2) fu s root = R := ⟨_,rfl⟩
 rw [hR] at hcon hne ⊢
 clear hR
 cases R with
 | bad => exact absurd rfl hne
 | ok z =>
  go_enter Tryz.func84,Tryz.ntmps84
  go_wp2_with (go_at_call 112; refine hcon.mono ?_; rintro e w2 ⟨o2,rfl,g2⟩)
  go_ret
  exact ⟨ChF.trans (Off.of_below HB0.out) o2,rfl,g2⟩
 | space =>
  go_enter Tryz.func84,Tryz.ntmps84
  go_wp2_with (go_at_call 112; refine hcon.mono ?_; rintro e w2 ⟨o2,rfl,g2⟩)
  go_ret
  exact ⟨ChF.trans (Off.of_below HB0.out) o2,rfl,g2⟩
set_option maxRecDepth 100000 in
set_option maxHeartbeats 8000000 in
theorem cdel_any (fu : Nat) (w : World) (base : Nat) (A : PA) (s0 : PS) (t : Nat) (f : Value) (cb c mb root : Nat) (s : CS Box) (fv lv : Value) (h : Cg w base A s0 t f cb c mb root s fv lv) (hs : s0.brk = false) (hlow : Low s) (k : Key) (hD : ∀ t nd,nodesN s0 t = some nd → nd.size ≤ 14) (hcnt : s.cnt + 2 * fu ≤ 100000) (hne : changeF (nodesN s0) k (del k) fu s root ≠ .bad) :
  Calls Tryz.prog 110 #[.pointer (some ⟨c, 0,none⟩),keyV k] w (ChangeP (2 * fu) w base A s0 t f cb c mb root s (changeF (nodesN s0) k (del k) fu s root)) := by
 have hb0 : Below w.heap.size w (w.alloc (.cells #[.int .i64 k.1, .int .i64 k.2] 154)) := (Below.refl _ w).alloc (Nat.le_refl _) _
 have hcon := edit_any fu _ base A s0 t f cb c mb root s fv lv (h.below hb0) hs hlow 136 (.pointer (some ⟨w.heap.size, 0,none⟩)) (fun W => Blk W w.heap.size 154 #[.int .i64 k.1, .int .i64 k.2]) (stays_blk _ 154 _ (by decide) (by decide) (by decide) (by decide) (by decide)) (Blk.new w 154 #[.int .i64 k.1, .int .i64 k.2]) k (del k) (opOk_del k) hD hcnt ent136 (fun W a n cc r p hr hrr hl => withoutC_any W _ k p a n cc r hr hrr hl) hne
 have HB0 : Hid _ := hb0
 clear h hlow hD
 obtain ⟨R,hR⟩ : ∃ R,changeF (nodesN s0) k (del k) fu s root = R := ⟨_,rfl⟩
 rw [hR] at hcon hne ⊢
 clear hR
 cases R with
 | bad => exact absurd rfl hne
 | ok z =>
  go_enter Tryz.func110,Tryz.ntmps110
  go_wp2_with (go_at_call 112; refine hcon.mono ?_; rintro e w2 ⟨o2,rfl,g2⟩)
  go_ret
  exact ⟨ChF.trans (Off.of_below HB0.out) o2,rfl,g2⟩
 | space =>
  go_enter Tryz.func110,Tryz.ntmps110
  go_wp2_with (go_at_call 112; refine hcon.mono ?_; rintro e w2 ⟨o2,rfl,g2⟩)
  go_ret
  exact ⟨ChF.trans (Off.of_below HB0.out) o2,rfl,g2⟩
end
end Go.Proofs.YtdgbgmffpcooeaaGreat
