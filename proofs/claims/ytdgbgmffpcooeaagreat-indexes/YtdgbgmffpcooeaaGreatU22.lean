/- Ch6 Ch7 -/
import Derived.Test.YtdgbgmffpcooeaaGreatU21
namespace Go.Proofs.YtdgbgmffpcooeaaGreat
open Go.RowKit Go.Lib Go.Maps
section
structure Low (s : CS Box) : Prop where
 fr : ∀ x ∈ s.free,x < 4096
 md : ∀ i nd,s.made i = some nd → i < 4096 ∧ nd.size ≤ 14
abbrev CS.cnt (s : CS Box) : Nat := s.free.length + s.left.length
theorem takeF_low {D : Nat → Option (Node Box)} (hD : ∀ t nd,D t = some nd → nd.size ≤ 14) {s s' : CS Box} {sec : Nat} {nd : Node Box} (h : Low s) (hr : takeF D s sec = .ok (nd,s')) : Low s' ∧ nd.size ≤ 14 ∧ s'.cnt ≤ s.cnt + 1 ∧ s.reads ≤ s'.reads ∧ s'.reads ≤ s.reads + 1 := by
 unfold takeF at hr
 by_cases h0 : sec = 0
 ·rw [if_pos h0] at hr
  simp only [Res.ok.injEq,Prod.mk.injEq] at hr
  obtain ⟨rfl,rfl⟩ := hr
  exact ⟨h,by simp [Node.size],by omega,by omega,by omega⟩
 ·rw [if_neg h0] at hr
  cases hm : s.made sec with
  | some n0 =>
   rw [hm] at hr
   simp only [Res.ok.injEq,Prod.mk.injEq] at hr
   obtain ⟨rfl,rfl⟩ := hr
   refine ⟨⟨fun x hx => ?_,fun i nd hi => ?_⟩,(h.md sec _ hm).2,by simp [CS.cnt]; omega,by simp,by simp⟩
   ·rcases List.mem_append.1 hx with hx | hx
    ·exact h.fr x hx
    ·rw [List.mem_singleton.1 hx]; exact (h.md sec _ hm).1
   ·by_cases e : i = sec
    ·subst e; simp [upd2] at hi
    ·simp only [upd2,e,if_false] at hi; exact h.md i nd hi
  | none =>
   rw [hm] at hr
   simp only at hr
   cases hd : D sec with
   | none => rw [hd] at hr; cases hr
   | some n0 =>
    rw [hd] at hr
    simp only [Res.ok.injEq,Prod.mk.injEq] at hr
    obtain ⟨rfl,rfl⟩ := hr
    exact ⟨⟨h.fr,h.md⟩,hD _ _ hd,by simp [CS.cnt]; omega,by simp,by simp⟩
theorem keepL_low : ∀ (ps : List (Node Box)) (s s' : CS Box) (q : List (Key × Nat)),Low s → (∀ p ∈ ps,p.size ≤ 14) → keepL ps s = .ok (q,s') → Low s' ∧ q.length = ps.length ∧ s'.cnt ≤ s.cnt ∧ s'.reads = s.reads
 | [],s,s',q,h,_,hr => by
  simp only [keepL,Res.ok.injEq,Prod.mk.injEq] at hr
  obtain ⟨rfl,rfl⟩ := hr
  exact ⟨h,rfl,Nat.le_refl _,rfl⟩
 | p :: ps,s,s',q,h,hp,hr => by
  simp only [keepL] at hr
  rcases List.eq_nil_or_concat s.free with hf | ⟨l,sec,hf⟩
  ·rw [keep1_none hf] at hr; cases hr
  ·rw [List.concat_eq_append] at hf
   rw [keep1_some hf,Res.ok_bind] at hr
   simp only at hr
   have h1 : Low { s with free := l,made := upd2 s.made sec (some p),puts := s.puts + 1 } := by
    refine ⟨fun x hx => h.fr x (by rw [hf]; simp [show x ∈ l from hx]),fun i nd hi => ?_⟩
    by_cases e : i = sec
    ·subst e
     simp only [upd2,if_true,Option.some.injEq] at hi
     subst hi
     exact ⟨h.fr i (by rw [hf]; simp),hp p List.mem_cons_self⟩
    ·simp only [upd2,e,if_false] at hi; exact h.md i nd hi
   cases hk : keepL ps { s with free := l,made := upd2 s.made sec (some p),puts := s.puts + 1 } with
   | ok y =>
    rw [hk,Res.ok_bind] at hr
    simp only [Res.ok.injEq,Prod.mk.injEq] at hr
    obtain ⟨rfl,rfl⟩ := hr
    obtain ⟨g1,g2,g3,g4⟩ := keepL_low ps _ y.2 y.1 h1 (fun x hx => hp x (List.mem_cons_of_mem _ hx)) hk
    refine ⟨g1,by simp [g2], ?_,g4⟩
    simp only [CS.cnt] at g3 ⊢
    rw [hf,List.length_append,List.length_singleton]
    omega
   | space => rw [hk] at hr; cases hr
   | bad => rw [hk] at hr; cases hr
theorem parts_small {n : Node Box} (h : n.size ≤ 28) : (∀ p ∈ n.parts,p.size ≤ 14) ∧ n.parts.length ≤ 2 := by
 unfold Node.parts
 by_cases h0 : n.size = 0
 ·rw [if_pos h0]; simp
 ·rw [if_neg h0]
  by_cases h1 : n.size ≤ n.most
  ·rw [if_pos h1]
   refine ⟨fun p hp => ?_,by simp⟩
   rw [List.mem_singleton.1 hp]
   rcases n.most_cases with e | e <;> omega
  ·rw [if_neg h1]
   refine ⟨fun p hp => ?_,by simp⟩
   rcases (by simpa using hp : p = _ ∨ p = _) with rfl | rfl
   ·rw [Node.size_tk]; omega
   ·rw [Node.size_dp]; omega
theorem keep_any (w : World) (base : Nat) (A : PA) (s0 : PS) (t : Nat) (f : Value) (cb c mb root : Nat) (s : CS Box) (fv lv : Value) (h : Cg w base A s0 t f cb c mb root s fv lv) (hlow : Low s) (v : Value) (nd : Node Box) (hv : NodeV w v nd) (hr : nd.size ≤ 1000) :
  Calls Tryz.prog 180 #[.pointer (some ⟨c, 0,none⟩),v] w (KeepP w base A s0 t f cb c mb root s (keepL nd.parts s)) := by
 cases nd with
 | leaf r => obtain ⟨u,rfl,hu⟩ := hv; exact keepLf_any w base A s0 t f cb c mb root s fv lv h hlow.fr u r hu hr
 | branch r => obtain ⟨u,rfl,hu⟩ := hv; exact keepBr_any w base A s0 t f cb c mb root s fv lv h hlow.fr u r hu hr
def PlantP (w : World) (base : Nat) (A : PA) (s0 : PS) (t : Nat) (f : Value) (cb c mb root : Nat) (s : CS Box) (res : Res (Nat × CS Box)) (e : Ending) (w' : World) : Prop :=
 Off (ChF w A cb c mb) w w' ∧ match res with
 | .ok x => e = .returned (.int .i64 0) ∧ ∃ fv' lv',Cg w' base A s0 t f cb c mb x.1 x.2 fv' lv'
 | .space => e = .returned (.int .i64 10) ∧ ∃ s'' fv' lv',Cg w' base A s0 t f cb c mb root s'' fv' lv' ∧ s''.reads = s.reads
 | .bad => False
theorem Cg.rooted {W : World} {base : Nat} {A : PA} {s0 : PS} {t : Nat} {f : Value} {cb c mb root : Nat} {s : CS Box} {fv lv : Value} (h : Cg W base A s0 t f cb c mb root s fv lv) (root' : Nat) : Cg (W.setCell ⟨c, 1,none⟩ (.int .i64 (root' : Int))) base A s0 t f cb c mb root' s fv lv ∧ Off (ChF W A cb c mb) W (W.setCell ⟨c, 1,none⟩ (.int .i64 (root' : Int))) :=
 h.cell 1 _ rfl rfl rfl h.ch.free h.ch.left h.ch.ne h.ch.few
set_option maxRecDepth 100000 in
set_option maxHeartbeats 4000000 in
theorem plantOne_any (w : World) (base : Nat) (A : PA) (s0 : PS) (t : Nat) (f : Value) (cb c mb root : Nat) (s : CS Box) (fv lv : Value) (h : Cg w base A s0 t f cb c mb root s fv lv) (v : Value) (x : Key × Nat) (hv : NodeV w v (.branch [x])) :
  Calls Tryz.prog 144 #[.pointer (some ⟨c, 0,none⟩),v] w (PlantP w base A s0 t f cb c mb root s (.ok (x.2,s))) := by
 obtain ⟨u,rfl,hu⟩ := hv
 obtain ⟨b,o,cc,rfl,g2,g3,hb,_,hcl⟩ := hu.form pkS (by simp)
 have c2 : w.cell? ⟨b,o + 2,none⟩ = some (.int .i64 (x.2 : Int)) := by have := hcl 0 x rfl 2 _ rfl; simpa [pkS] using this
 have hta := ta_bb
 have h1 := h.below ((Below.refl _ w).alloc (Nat.le_refl _) (.cells #[.slice (some ⟨b,o,none⟩) 1 cc] 214))
 obtain ⟨h2',o2'⟩ := h.rooted x.2
 have h2 := h2'.below ((Below.refl _ (w.setCell ⟨c, 1,none⟩ (.int .i64 (x.2 : Int)))).alloc (Nat.le_refl _) (.cells #[.slice (some ⟨b,o,none⟩) 1 cc] 214))
 have o2 := o2'.alloc (.cells #[.slice (some ⟨b,o,none⟩) 1 cc] 214)
 have hfz : (w.alloc (.cells #[.slice (some ⟨b,o,none⟩) 1 cc] 214)).frozen? ⟨c, 1,none⟩ = false := h1.ch.blk.frozen 1
 have hcc : (w.alloc (.cells #[.slice (some ⟨b,o,none⟩) 1 cc] 214)).cell? ⟨c, 1,none⟩ = some (.int .i64 (root : Int)) := h1.ch.blk.cell 1
 have hcs := h.cl
 have H2 : Hid _ := h2
 have HO : Hid _ := o2
 clear h hu hcl h1 h2 o2 h2' o2'
 go_enter Tryz.func144,Tryz.ntmps144
 go_wp2
 go_ret
 exact ⟨HO.out,rfl,_,_,H2.out⟩
set_option maxRecDepth 100000 in
set_option maxHeartbeats 8000000 in
theorem plant_any : ∀ (fu : Nat) (w : World) (base : Nat) (A : PA) (s0 : PS) (t : Nat) (f : Value) (cb c mb root : Nat) (s : CS Box) (fv lv : Value) (_ : Cg w base A s0 t f cb c mb root s fv lv) (_ : Low s) (v : Value) (nd : Node Box) (_ : NodeV w v nd) (_ : nd.size ≤ 28) (_ : plantF fu s nd ≠ .bad),
  Calls Tryz.prog 144 #[.pointer (some ⟨c, 0,none⟩),v] w (PlantP w base A s0 t f cb c mb root s (plantF fu s nd))
 | 0,_,_,_,_,_,_,_,_,_,_,_,_,_,_,_,_,_,_,_,hne => absurd rfl hne
 | fu + 1,w,base,A,s0,t,f,cb,c,mb,root,s,fv,lv,h,hlow,v,nd,hv,hsz,hne => by
  by_cases h1 : ∃ x,nd = .branch [x]
  ·obtain ⟨x,rfl⟩ := h1
   exact plantOne_any w base A s0 t f cb c mb root s fv lv h v x hv
  have hpl := plant_unf fu s nd (fun c hc => h1 ⟨c,hc⟩)
  rcases nd with r | r
  ·-- a leaf
   obtain ⟨u,rfl,hu⟩ := hv
   obtain ⟨ua,uc,rfl,_,huc⟩ := hu.len pkR
   have hb0 : Below w.heap.size w (w.alloc (.cells #[.slice none 0 0] 214)) := (Below.refl _ w).alloc (Nat.le_refl _) _
   have h1 := h.below hb0
   have hcon := keep_any _ base A s0 t f cb c mb root s fv lv h1 hlow _ (.leaf r) (⟨_,rfl,hu.below pkR hb0⟩ : NodeV _ _ (.leaf r)) (by omega)
   have hta := ta_bl
   obtain ⟨res,hres⟩ : ∃ res,keepL (.leaf r : Node Box).parts s = res := ⟨_,rfl⟩
   have hkl := keepL_low (.leaf r : Node Box).parts s
   obtain ⟨hps1,hps2⟩ := parts_small (n := (.leaf r : Node Box)) hsz
   rw [hres] at hcon hpl hkl
   have HB0 : Hid _ := hb0
   clear hu h1 hb0
   cases res with
   | bad => rw [hpl] at hne; exact absurd rfl hne
   | space =>
    rw [hpl]
    clear hpl hkl hres hne hps1 hps2
    go_enter Tryz.func144,Tryz.ntmps144
    go_wp2_with (go_at_call 180; refine hcon.mono ?_; rintro e w1 ⟨o1,rfl,g1⟩)
    go_ret
    exact ⟨ChF.trans (Off.of_below HB0.out) o1,rfl,g1⟩
   | ok y =>
    obtain ⟨q,s1⟩ := y
    obtain ⟨l1,l2,l3,l4⟩ := hkl s1 q hlow hps1 rfl
    have hq2 : q.length ≤ 2 := by omega
    rw [Res.ok_bind] at hpl
    have HPL : Hid _ := hpl
    have HR : Hid (s1.reads = s.reads) := l4
    clear hpl hkl hres hps1 hps2 l2 l3 l4
    match q,hq2,hcon,HPL,hne with
    | [],_,hcon,HPL,hne =>
     have hpl := HPL.out
     simp only [rowRoot] at hpl
     rw [hpl]
     clear HPL hne hpl
     go_enter Tryz.func144,Tryz.ntmps144
     go_upto_region 6 with (go_at_call 180; refine hcon.mono ?_; rintro e w1 ⟨o1,v1,fv1,lv1,rfl,hrow,g1⟩)
     obtain ⟨va,vc,rfl,_,_⟩ := hrow.len pkS
     obtain ⟨h2,o2⟩ := g1.rooted 0
     have hfz : w1.frozen? ⟨c, 1,none⟩ = false := g1.ch.blk.frozen 1
     have hcc : w1.cell? ⟨c, 1,none⟩ = some (.int .i64 (root : Int)) := g1.ch.blk.cell 1
     have H2 : Hid _ := h2
     have HO : Hid _ := o2
     clear h2 o2 g1 hrow
     go_wp2
     go_ret
     exact ⟨ChF.trans (Off.of_below HB0.out) (ChF.trans o1 HO.out),rfl,_,_,H2.out⟩
    | [x],_,hcon,HPL,hne =>
     have hpl := HPL.out
     simp only [rowRoot] at hpl
     rw [hpl]
     clear HPL hne hpl
     go_enter Tryz.func144,Tryz.ntmps144
     go_upto_region 6 with (go_at_call 180; refine hcon.mono ?_; rintro e w1 ⟨o1,v1,fv1,lv1,rfl,hrow,g1⟩)
     obtain ⟨b,o,cc,rfl,g2,g3,hb,_,hcl⟩ := hrow.form pkS (by simp)
     have c2 : w1.cell? ⟨b,o + 2,none⟩ = some (.int .i64 (x.2 : Int)) := by have := hcl 0 x rfl 2 _ rfl; simpa [pkS] using this
     obtain ⟨h2,o2⟩ := g1.rooted x.2
     have hfz : w1.frozen? ⟨c, 1,none⟩ = false := g1.ch.blk.frozen 1
     have hcc : w1.cell? ⟨c, 1,none⟩ = some (.int .i64 (root : Int)) := g1.ch.blk.cell 1
     have H2 : Hid _ := h2
     have HO : Hid _ := o2
     clear h2 o2 g1 hrow hcl
     go_wp2
     go_ret
     exact ⟨ChF.trans (Off.of_below HB0.out) (ChF.trans o1 HO.out),rfl,_,_,H2.out⟩
    | [x,y],_,hcon,HPL,hne =>
     have hpl := HPL.out
     simp only [rowRoot] at hpl
     rw [hpl] at hne ⊢
     have HI : Hid _ := fun w1 fv1 lv1 (g : Cg w1 base A s0 t f cb c mb root s1 fv1 lv1) v1 (hv1 : NodeV w1 v1 (.branch [x,y])) => plant_any fu w1 base A s0 t f cb c mb root s1 fv1 lv1 g l1 v1 (.branch [x,y]) hv1 (by simp [Node.size]) hne
     obtain ⟨res2,hres2⟩ : ∃ res2,plantF fu s1 (.branch [x,y]) = res2 := ⟨_,rfl⟩
     rw [hres2] at hne HI ⊢
     clear HPL hpl hres2
     cases res2 with
     | bad => exact absurd rfl hne
     | ok z =>
      go_enter Tryz.func144,Tryz.ntmps144
      go_upto_region 6 with (go_at_call 180; refine hcon.mono ?_; rintro e w1 ⟨o1,v1,fv1,lv1,rfl,hrow,g1⟩)
      obtain ⟨va,vc,rfl,_,_⟩ := hrow.len pkS
      have hi := HI.out w1 _ _ g1 (.iface 214 (.agg #[.slice va [x,y].length vc])) ⟨_,rfl,hrow⟩
      clear g1 hrow HI
      go_wp2_with (go_at_call 144; refine hi.mono ?_; rintro e w2 ⟨o2,rfl,g2⟩)
      go_ret
      exact ⟨ChF.trans (Off.of_below HB0.out) (ChF.trans o1 o2),rfl,g2⟩
     | space =>
      go_enter Tryz.func144,Tryz.ntmps144
      go_upto_region 6 with (go_at_call 180; refine hcon.mono ?_; rintro e w1 ⟨o1,v1,fv1,lv1,rfl,hrow,g1⟩)
      obtain ⟨va,vc,rfl,_,_⟩ := hrow.len pkS
      have hi := HI.out w1 _ _ g1 (.iface 214 (.agg #[.slice va [x,y].length vc])) ⟨_,rfl,hrow⟩
      clear g1 hrow HI
      go_wp2_with (go_at_call 144; refine hi.mono ?_; rintro e w2 ⟨o2,rfl,s2,fv2,lv2,g2,r2⟩)
      go_ret
      exact ⟨ChF.trans (Off.of_below HB0.out) (ChF.trans o1 o2),rfl,s2,_,_,g2,r2.trans HR.out⟩
    | _ :: _ :: _ :: _,hq,_,_,_ => exact absurd hq (by simp)
  ·have hr1 : ((r.length : Int) == 1) = false := by
    simp
    intro e
    have : r.length = 1 := by omega
    match r,this with
    | [x],_ => exact h1 ⟨x,rfl⟩
   obtain ⟨u,rfl,hu⟩ := hv
   obtain ⟨ua,uc,rfl,_,huc⟩ := hu.len pkS
   have hb0 : Below w.heap.size w (w.alloc (.cells #[.slice ua r.length uc] 214)) := (Below.refl _ w).alloc (Nat.le_refl _) _
   have h1 := h.below hb0
   have hcon := keep_any _ base A s0 t f cb c mb root s fv lv h1 hlow _ (.branch r) (⟨_,rfl,hu.below pkS hb0⟩ : NodeV _ _ (.branch r)) (by omega)
   have hta := ta_bb
   obtain ⟨res,hres⟩ : ∃ res,keepL (.branch r : Node Box).parts s = res := ⟨_,rfl⟩
   have hkl := keepL_low (.branch r : Node Box).parts s
   obtain ⟨hps1,hps2⟩ := parts_small (n := (.branch r : Node Box)) hsz
   rw [hres] at hcon hpl hkl
   have HB0 : Hid _ := hb0
   clear hu h1 hb0
   cases res with
   | bad => rw [hpl] at hne; exact absurd rfl hne
   | space =>
    rw [hpl]
    clear hpl hkl hres hne hps1 hps2
    go_enter Tryz.func144,Tryz.ntmps144
    go_wp2_with (go_at_call 180; refine hcon.mono ?_; rintro e w1 ⟨o1,rfl,g1⟩)
    go_ret
    exact ⟨ChF.trans (Off.of_below HB0.out) o1,rfl,g1⟩
   | ok y =>
    obtain ⟨q,s1⟩ := y
    obtain ⟨l1,l2,l3,l4⟩ := hkl s1 q hlow hps1 rfl
    have hq2 : q.length ≤ 2 := by omega
    rw [Res.ok_bind] at hpl
    have HPL : Hid _ := hpl
    have HR : Hid (s1.reads = s.reads) := l4
    clear hpl hkl hres hps1 hps2 l2 l3 l4
    match q,hq2,hcon,HPL,hne with
    | [],_,hcon,HPL,hne =>
     have hpl := HPL.out
     simp only [rowRoot] at hpl
     rw [hpl]
     clear HPL hne hpl
     go_enter Tryz.func144,Tryz.ntmps144
     go_upto_region 6 with (go_at_call 180; refine hcon.mono ?_; rintro e w1 ⟨o1,v1,fv1,lv1,rfl,hrow,g1⟩)
     obtain ⟨va,vc,rfl,_,_⟩ := hrow.len pkS
     obtain ⟨h2,o2⟩ := g1.rooted 0
     have hfz : w1.frozen? ⟨c, 1,none⟩ = false := g1.ch.blk.frozen 1
     have hcc : w1.cell? ⟨c, 1,none⟩ = some (.int .i64 (root : Int)) := g1.ch.blk.cell 1
     have H2 : Hid _ := h2
     have HO : Hid _ := o2
     clear h2 o2 g1 hrow
     go_wp2
     go_ret
     exact ⟨ChF.trans (Off.of_below HB0.out) (ChF.trans o1 HO.out),rfl,_,_,H2.out⟩
    | [x],_,hcon,HPL,hne =>
     have hpl := HPL.out
     simp only [rowRoot] at hpl
     rw [hpl]
     clear HPL hne hpl
     go_enter Tryz.func144,Tryz.ntmps144
     go_upto_region 6 with (go_at_call 180; refine hcon.mono ?_; rintro e w1 ⟨o1,v1,fv1,lv1,rfl,hrow,g1⟩)
     obtain ⟨b,o,cc,rfl,g2,g3,hb,_,hcl⟩ := hrow.form pkS (by simp)
     have c2 : w1.cell? ⟨b,o + 2,none⟩ = some (.int .i64 (x.2 : Int)) := by have := hcl 0 x rfl 2 _ rfl; simpa [pkS] using this
     obtain ⟨h2,o2⟩ := g1.rooted x.2
     have hfz : w1.frozen? ⟨c, 1,none⟩ = false := g1.ch.blk.frozen 1
     have hcc : w1.cell? ⟨c, 1,none⟩ = some (.int .i64 (root : Int)) := g1.ch.blk.cell 1
     have H2 : Hid _ := h2
     have HO : Hid _ := o2
     clear h2 o2 g1 hrow hcl
     go_wp2
     go_ret
     exact ⟨ChF.trans (Off.of_below HB0.out) (ChF.trans o1 HO.out),rfl,_,_,H2.out⟩
    | [x,y],_,hcon,HPL,hne =>
     have hpl := HPL.out
     simp only [rowRoot] at hpl
     rw [hpl] at hne ⊢
     have HI : Hid _ := fun w1 fv1 lv1 (g : Cg w1 base A s0 t f cb c mb root s1 fv1 lv1) v1 (hv1 : NodeV w1 v1 (.branch [x,y])) => plant_any fu w1 base A s0 t f cb c mb root s1 fv1 lv1 g l1 v1 (.branch [x,y]) hv1 (by simp [Node.size]) hne
     obtain ⟨res2,hres2⟩ : ∃ res2,plantF fu s1 (.branch [x,y]) = res2 := ⟨_,rfl⟩
     rw [hres2] at hne HI ⊢
     clear HPL hpl hres2
     cases res2 with
     | bad => exact absurd rfl hne
     | ok z =>
      go_enter Tryz.func144,Tryz.ntmps144
      go_upto_region 6 with (go_at_call 180; refine hcon.mono ?_; rintro e w1 ⟨o1,v1,fv1,lv1,rfl,hrow,g1⟩)
      obtain ⟨va,vc,rfl,_,_⟩ := hrow.len pkS
      have hi := HI.out w1 _ _ g1 (.iface 214 (.agg #[.slice va [x,y].length vc])) ⟨_,rfl,hrow⟩
      clear g1 hrow HI
      go_wp2_with (go_at_call 144; refine hi.mono ?_; rintro e w2 ⟨o2,rfl,g2⟩)
      go_ret
      exact ⟨ChF.trans (Off.of_below HB0.out) (ChF.trans o1 o2),rfl,g2⟩
     | space =>
      go_enter Tryz.func144,Tryz.ntmps144
      go_upto_region 6 with (go_at_call 180; refine hcon.mono ?_; rintro e w1 ⟨o1,v1,fv1,lv1,rfl,hrow,g1⟩)
      obtain ⟨va,vc,rfl,_,_⟩ := hrow.len pkS
      have hi := HI.out w1 _ _ g1 (.iface 214 (.agg #[.slice va [x,y].length vc])) ⟨_,rfl,hrow⟩
      clear g1 hrow HI
      go_wp2_with (go_at_call 144; refine hi.mono ?_; rintro e w2 ⟨o2,rfl,s2,fv2,lv2,g2,r2⟩)
      go_ret
      exact ⟨ChF.trans (Off.of_below HB0.out) (ChF.trans o1 o2),rfl,s2,_,_,g2,r2.trans HR.out⟩
    | _ :: _ :: _ :: _,hq,_,_,_ => exact absurd hq (by simp)
end
section
def keepIn {V : Type} (n : Node V) (s : CS V) (a b : List (Key × Nat)) : Res (Node V × CS V) := (keepL n.parts s).bind fun q => .ok (.branch (a ++ q.1 ++ b),q.2)
noncomputable def editV {V : Type} (D : Nat → Option (Node V)) (r : List (Key × Nat)) (i : Nat) (y : Node V × CS V) : Res (Node V × CS V) :=
 if y.1.poor = true then
  if 0 < i then
   match r[i - 1]? with
   | none => .bad
   | some a => (takeF D y.2 a.2).bind fun z => if z.1.most = y.1.most then keepIn (z.1.join y.1) z.2 (r.take (i - 1)) (r.drop (i + 1)) else .bad
  else
   match r[i + 1]? with
   | none => .bad
   | some b => (takeF D y.2 b.2).bind fun z => if z.1.most = y.1.most then keepIn (y.1.join z.1) z.2 (r.take i) (r.drop (i + 2)) else .bad
 else keepIn y.1 y.2 (r.take i) (r.drop (i + 1))
open Classical in
theorem editF_succ {V : Type} (D : Nat → Option (Node V)) (k : Key) (op : List (Key × V) → List (Key × V)) (f : Nat) (s : CS V) (sec : Nat) :
  editF D k op (f + 1) s sec = (takeF D s sec).bind fun x => match x.1 with
   | .leaf r => if Rising r then .ok (.leaf (op r),x.2) else .bad
   | .branch r => if Rising r then (match r[undr k r]? with | none => .bad | some c => (editF D k op f x.2 c.2).bind (editV D r (undr k r))) else .bad := by
 rw [editF]
 rfl
section
variable {D : Nat → Option (Node Box)} {k : Key} {op : List (Key × Box) → List (Key × Box)}
theorem join_size (a b : Node Box) : (a.join b).size ≤ a.size + b.size := by
 cases a <;> cases b <;> simp [Node.join,Node.size]
theorem keepIn_low {n : Node Box} {s s' : CS Box} {a b : List (Key × Nat)} {nd : Node Box} (h : Low s) (hn : n.size ≤ 28) (hr : keepIn n s a b = .ok (nd,s')) : Low s' ∧ nd.size ≤ a.length + b.length + 2 ∧ s'.cnt ≤ s.cnt ∧ s'.reads = s.reads := by
 unfold keepIn at hr
 obtain ⟨p1,p2⟩ := parts_small hn
 cases hk : keepL n.parts s with
 | ok q =>
  rw [hk,Res.ok_bind] at hr
  simp only [Res.ok.injEq,Prod.mk.injEq] at hr
  obtain ⟨rfl,rfl⟩ := hr
  obtain ⟨g1,g2,g3,g4⟩ := keepL_low _ _ _ _ h p1 hk
  exact ⟨g1,by simp only [Node.size,List.length_append]; omega,g3,g4⟩
 | space => rw [hk] at hr; cases hr
 | bad => rw [hk] at hr; cases hr
theorem editV_low (hD : ∀ t nd,D t = some nd → nd.size ≤ 14) {r : List (Key × Nat)} {i : Nat} {y : Node Box × CS Box} {s' : CS Box} {nd : Node Box} (h : Low y.2) (hy : y.1.size ≤ 15) (hr14 : r.length ≤ 14) (hi : i < r.length) (hr : editV D r i y = .ok (nd,s')) : Low s' ∧ nd.size ≤ 15 ∧ s'.cnt ≤ y.2.cnt + 1 ∧ s'.reads ≤ y.2.reads + 1 := by
 unfold editV at hr
 by_cases hp : y.1.poor = true
 ·rw [if_pos hp] at hr
  simp only [Node.poor,decide_eq_true_eq] at hp
  have hmost := y.1.most_cases
  by_cases h0 : 0 < i
  ·rw [if_pos h0] at hr
   cases ha : r[i - 1]? with
   | none => rw [ha] at hr; cases hr
   | some a =>
    rw [ha] at hr
    simp only at hr
    cases ht : takeF D y.2 a.2 with
    | ok z =>
     rw [ht,Res.ok_bind] at hr
     obtain ⟨l1,l2,l3,l4,l5⟩ := takeF_low hD h ht
     by_cases hm : z.1.most = y.1.most
     ·rw [if_pos hm] at hr
      have hj := join_size z.1 y.1
      obtain ⟨g1,g2,g3,g4⟩ := keepIn_low l1 (by omega) hr
      simp only [List.length_take,List.length_drop] at g2
      exact ⟨g1,by omega,by omega,by omega⟩
     ·rw [if_neg hm] at hr; cases hr
    | space => rw [ht] at hr; cases hr
    | bad => rw [ht] at hr; cases hr
  ·rw [if_neg h0] at hr
   cases ha : r[i + 1]? with
   | none => rw [ha] at hr; cases hr
   | some a =>
    rw [ha] at hr
    simp only at hr
    cases ht : takeF D y.2 a.2 with
    | ok z =>
     rw [ht,Res.ok_bind] at hr
     obtain ⟨l1,l2,l3,l4,l5⟩ := takeF_low hD h ht
     by_cases hm : z.1.most = y.1.most
     ·rw [if_pos hm] at hr
      have hj := join_size y.1 z.1
      obtain ⟨g1,g2,g3,g4⟩ := keepIn_low l1 (by omega) hr
      simp only [List.length_take,List.length_drop] at g2
      exact ⟨g1,by omega,by omega,by omega⟩
     ·rw [if_neg hm] at hr; cases hr
    | space => rw [ht] at hr; cases hr
    | bad => rw [ht] at hr; cases hr
 ·rw [if_neg hp] at hr
  obtain ⟨g1,g2,g3,g4⟩ := keepIn_low h (by omega) hr
  simp only [List.length_take,List.length_drop] at g2
  exact ⟨g1,by omega,by omega,by omega⟩
theorem editF_low (hD : ∀ t nd,D t = some nd → nd.size ≤ 14) (ho : OpOk k op) : ∀ (f : Nat) (s s' : CS Box) (sec : Nat) (nd : Node Box),Low s → editF D k op f s sec = .ok (nd,s') → Low s' ∧ nd.size ≤ 15 ∧ s'.cnt ≤ s.cnt + 2 * f ∧ s'.reads ≤ s.reads + 2 * f
 | 0,_,_,_,_,_,hr => by cases hr
 | f + 1,s,s',sec,nd,h,hr => by
  rw [editF_succ] at hr
  cases ht : takeF D s sec with
  | ok x =>
   rw [ht,Res.ok_bind] at hr
   obtain ⟨l1,l2,l3,l4,l5⟩ := takeF_low hD h ht
   obtain ⟨x1,s1⟩ := x
   cases x1 with
   | leaf r =>
    simp only at hr
    by_cases hrr : Rising r
    ·rw [if_pos hrr] at hr
     simp only [Res.ok.injEq,Prod.mk.injEq] at hr
     obtain ⟨rfl,rfl⟩ := hr
     have := ho.up r hrr
     simp only [Node.size] at l2 l3 l4 l5 ⊢
     exact ⟨l1,by omega,by omega,by omega⟩
    ·rw [if_neg hrr] at hr; cases hr
   | branch r =>
    simp only at hr
    by_cases hrr : Rising r
    ·rw [if_pos hrr] at hr
     cases hc : r[undr k r]? with
     | none => rw [hc] at hr; cases hr
     | some c =>
      rw [hc] at hr
      simp only at hr
      cases he : editF D k op f s1 c.2 with
      | ok y =>
       rw [he,Res.ok_bind] at hr
       obtain ⟨m1,m2,m3,m4⟩ := editF_low hD ho f s1 y.2 c.2 y.1 l1 he
       obtain ⟨n1,n2,n3,n4⟩ := editV_low hD m1 m2 l2 (List.getElem?_eq_some_iff.1 hc).1 hr
       simp only at l3 l4 l5
       exact ⟨n1,n2,by omega,by omega⟩
      | space => rw [he] at hr; cases hr
      | bad => rw [he] at hr; cases hr
    ·rw [if_neg hrr] at hr; cases hr
  | space => rw [ht] at hr; cases hr
  | bad => rw [ht] at hr; cases hr
end
theorem ent258 : Enters Tryz.prog 258 := fun args w => by simp
theorem ent256 : Enters Tryz.prog 256 := fun args w => by simp
theorem ent272 : Enters Tryz.prog 272 := fun args w => by simp
theorem ent270 : Enters Tryz.prog 270 := fun args w => by simp
structure NodeM (T : TypeId) (x : Value) (fp fj : Nat) (nd : Node Box) : Prop where
 poor_ : ∀ w, (method 447 T x (nm "poor")).run Tryz.prog w = .ok (fp, x) w
 join_ : ∀ w, (method 447 T x (nm "join")).run Tryz.prog w = .ok (fj, x) w
 pe : ∀ (args : Array Value) (w : World),(callFunc fp args).run Tryz.prog w = .ok (.enter fp args) w
 je : ∀ (args : Array Value) (w : World),(callFunc fj args).run Tryz.prog w = .ok (.enter fj args) w
 poorC : ∀ W,NodeV W (.iface T x) nd → Calls Tryz.prog fp #[x] W fun e w' => e = .returned (.bool nd.poor) ∧ Below W.heap.size W w'
 joinC : ∀ W u nd',NodeV W (.iface T x) nd → NodeV W u nd' → nd.most = nd'.most → nd.size ≤ 1000 → nd'.size ≤ 1000 → Calls Tryz.prog fj #[x,u] W fun e w' => ∃ T' x',e = .returned (.iface T' x') ∧ NodeV w' (.iface T' x') (nd.join nd') ∧ Below W.heap.size W w'
theorem NodeV.meth {W : World} {v : Value} {nd : Node Box} (h : NodeV W v nd) : ∃ T x fp fj,v = .iface T x ∧ NodeM T x fp fj nd := by
 cases nd with
 | leaf r =>
  obtain ⟨s,rfl,_⟩ := h
  refine ⟨191,_, 258, 256,rfl,m_lpoor _,m_ljoin _,ent258,ent256,fun W ⟨s',e,h'⟩ => ?_,fun W u nd' ⟨s',e,h'⟩ hu hm h1 h2 => ?_⟩
  ·cases e; exact poorL_any W _ r h'
  ·cases e
   cases nd' with
   | branch q => simp [Node.most] at hm
   | leaf q =>
    obtain ⟨u',rfl,hu'⟩ := hu
    refine (ljoin_any W _ _ r q h' hu' h1 h2).mono ?_
    rintro e w' ⟨v',rfl,h3,h4⟩
    exact ⟨_,_,rfl,⟨_,rfl,h3⟩,h4⟩
 | branch r =>
  obtain ⟨s,rfl,_⟩ := h
  refine ⟨214,_, 272, 270,rfl,m_bpoor _,m_bjoin _,ent272,ent270,fun W ⟨s',e,h'⟩ => ?_,fun W u nd' ⟨s',e,h'⟩ hu hm h1 h2 => ?_⟩
  ·cases e; exact poorB_any W _ r h'
  ·cases e
   cases nd' with
   | leaf q => simp [Node.most] at hm
   | branch q =>
    obtain ⟨u',rfl,hu'⟩ := hu
    refine (bjoin_any W _ _ r q h' hu' h1 h2).mono ?_
    rintro e w' ⟨v',rfl,h3,h4⟩
    exact ⟨_,_,rfl,⟨_,rfl,h3⟩,h4⟩
theorem RowS.cellAt {W : World} {b o n c : Nat} {r : List (Key × Nat)} (h : RowS W (.slice (some ⟨b,o,none⟩) n c) r) {i : Nat} {x : Key × Nat} (hx : r[i]? = some x) : W.cell? ⟨b,o + i * 3 + 2,none⟩ = some (.int .i64 (x.2 : Int)) := by
 obtain ⟨b',o',c',e,_,_,_,_,hcl⟩ := h.form pkS (by have := (List.getElem?_eq_some_iff.1 hx).1; omega)
 cases e
 exact hcl i x hx 2 _ rfl
def EditP (m : Nat) (w : World) (base : Nat) (A : PA) (s0 : PS) (t : Nat) (f : Value) (cb c mb root : Nat) (s : CS Box) (res : Res (Node Box × CS Box)) (e : Ending) (w' : World) : Prop :=
 Off (ChF w A cb c mb) w w' ∧ match res with
 | .ok x => ∃ v fv' lv',e = .returned (.tuple #[v, .int .i64 0]) ∧ NodeV w' v x.1 ∧ Cg w' base A s0 t f cb c mb root x.2 fv' lv'
 | .space => e = .returned (.tuple #[.nilIface, .int .i64 10]) ∧ ∃ s'' fv' lv',Cg w' base A s0 t f cb c mb root s'' fv' lv' ∧ s''.reads ≤ s.reads + m
 | .bad => False
end
end Go.Proofs.YtdgbgmffpcooeaaGreat
