/- Xb3 -/
import Derived.Test.YtdgbgmffpcooeaaGreatU44
namespace Go.Proofs.YtdgbgmffpcooeaaGreat
open Go.RowKit
section
theorem BkI.store {W : World} {base B n came : Nat} {ki yi iv inn : Value} {E : List (Value × Int)} (h : BkI W base B n came ki yi iv inn E) (i : Nat) (u : Value) {n' came' : Nat} {ki' yi' : Value} (hc : (bkI n came ki yi iv inn).setIfInBounds i u = bkI n' came' ki' yi' iv inn) : BkI (W.setCell ⟨B,i,none⟩ u) base B n' came' ki' yi' iv inn E := by
 have hb := h.blk.set i u
 rw [hc] at hb
 refine ⟨h.le,hb,own_other h.rowI h.blk (by decide) u,own_other h.rowN h.blk (by decide) u,fun e he => (h.ent e he).keep (Nat.le_refl _) fun g cur _ h2 => ?_,h.far⟩
 exact (Below.heap_setCell W ⟨B,i,none⟩ u g (tag_ne h.blk h2 (by decide))).trans h2
structure BookI (W : World) (base B n came : Nat) (ki yi iv inn : Value) (E : List (Value × Int)) (L : List Int) (OB : Nat → Prop) : Prop where
 bk : BkI W base B n came ki yi iv inn E
 small : L.length ≤ 1000
 kept : W.ownsRow base 3 1 ki L.length (intsV L)
 were : W.ownsRow base 3 1 yi L.length (intsV L)
 far : ∀ e ∈ E, ∀ j,e.1.ownBlock = some j → ki.ownBlock ≠ some j
 farN : ∀ j,inn.ownBlock = some j → ki.ownBlock ≠ some j
 oB : OB B
 oK : ∀ j,ki.ownBlock = some j → OB j
 oY : ∀ j,yi.ownBlock = some j → OB j
 oI : ∀ j,iv.ownBlock = some j → OB j
 oN : ∀ j,inn.ownBlock = some j → OB j
 oE : ∀ e ∈ E, ∀ j,e.1.ownBlock = some j → OB j
 oL : ∀ j,OB j → base ≤ j ∧ j < W.heap.size
theorem BookI.off {F : Nat → Prop} {W W' : World} {base B n came : Nat} {ki yi iv inn : Value} {E : List (Value × Int)} {L : List Int} {OB : Nat → Prop} (h : BookI W base B n came ki yi iv inn E L OB) (ho : Off F W W') (hF : ∀ j,OB j → ¬ F j) : BookI W' base B n came ki yi iv inn E L OB :=
 ⟨h.bk.off ho (hF _ h.oB) (fun j hj => hF j (h.oI j hj)) (fun j hj => hF j (h.oN j hj)) (fun e he j hj => hF j (h.oE e he j hj)),h.small,own_offv h.kept ho (fun j hj => hF j (h.oK j hj)),own_offv h.were ho (fun j hj => hF j (h.oY j hj)),h.far,h.farN,h.oB,h.oK,h.oY,h.oI,h.oN,h.oE,fun j hj => ⟨(h.oL j hj).1,Nat.lt_of_lt_of_le (h.oL j hj).2 ho.size⟩⟩
theorem BookI.below {W W' : World} {base B n came : Nat} {ki yi iv inn : Value} {E : List (Value × Int)} {L : List Int} {OB : Nat → Prop} (h : BookI W base B n came ki yi iv inn E L OB) (hb : Below W.heap.size W W') : BookI W' base B n came ki yi iv inn E L OB :=
 h.off (F := fun _ => False) (Off.of_below hb) (fun _ _ h => h)
def IntsPost (w : World) (base B n came : Nat) (E : List (Value × Int)) (OB : Nat → Prop) (v : Value) (w' : World) : Prop := ∃ n' ki' yi' iv' in' E' L' OB',n' ≤ n + 2 ∧ E'.length ≤ E.length + 8 ∧ BookI w' base B n' (came + 1) ki' yi' iv' in' E' L' OB' ∧ Off (fun j => OB j ∨ v.ownBlock = some j) w w' ∧ ∀ j,OB' j → OB j ∨ v.ownBlock = some j ∨ w.heap.size ≤ j
theorem par_even (c : Nat) (h : c % 2 = 1) : ((c : Int) + 1).tmod 2 = 0 ∧ ((c : Int) + 1) % 2 = 0 := by
 rw [Int.tmod_eq_emod_of_nonneg (by omega)]; omega
theorem par_odd (c : Nat) (h : c % 2 = 0) : ((c : Int) + 1).tmod 2 = 1 ∧ ((c : Int) + 1) % 2 = 1 := by
 rw [Int.tmod_eq_emod_of_nonneg (by omega)]; omega
theorem other4 {W : World} {base : Nat} {v : Value} {n : Nat} {xs : List Value} (h : W.ownsRow base 3 1 v n xs) {B : Nat} {vs : Array Value} (hB : Blk W B 44 vs) (a b c d : Value) : ((((W.setCell ⟨B, 2,none⟩ a).setCell ⟨B, 5,none⟩ b).setCell ⟨B, 6,none⟩ c).setCell ⟨B, 1,none⟩ d).ownsRow base 3 1 v n xs :=
 own_other (i := 1) (own_other (i := 6) (own_other (i := 5) (own_other (i := 2) h hB (by decide) a) (hB.set 2 _) (by decide) b) ((hB.set 2 _).set 5 _) (by decide) c) (((hB.set 2 _).set 5 _).set 6 _) (by decide) d
set_option maxRecDepth 100000 in
set_option maxHeartbeats 4000000 in
theorem ints_any (w : World) (base B n came : Nat) (ki yi iv inn : Value) (E : List (Value × Int)) (K : List Int) (OB : Nat → Prop) (hb : BookI w base B n came ki yi iv inn E K OB) (v : Value) (L : List Int) (hv : w.ownsRow base 3 1 v L.length (intsV L)) (hL : L.length ≤ 1000)
  (hvo : ∀ j,v.ownBlock = some j → ¬ OB j) (hn : n ≤ 1073741820) (hEl : E.length ≤ 1073741820) (hc : came ≤ 1073741820) :
  Calls Tryz.prog 40 #[.pointer (some ⟨B, 0,none⟩),v] w fun e w' => e = .returned (.tuple #[]) ∧ IntsPost w base B n came E OB v w' := by
 obtain ⟨i3,hi3,hz3a,hz3b,hz3c⟩ := info_parts info3
 have hle := hb.bk.le
 have hBlt := hb.bk.blk.lt
 have hsrc := Src.of_own hv (intsV_one L)
 obtain ⟨av,cv,rfl,_,_,_⟩ := own_shape hv
 obtain ⟨v,hvv⟩ : ∃ v,Value.slice av L.length cv = v := ⟨_,rfl⟩
 rw [hvv] at hv hvo hsrc
 have HVV : Hid (Value.slice av L.length cv = v) := hvv
 have HE : Hid (∀ e ∈ E, ∀ j,e.1.ownBlock = some j → v.ownBlock ≠ some j) := fun e he j hj h => hvo j h (hb.oE e he j hj)
 have HK : Hid (∀ j,ki.ownBlock = some j → v.ownBlock ≠ some j) := fun j hj h => hvo j h (hb.oK j hj)
 have HN : Hid (∀ j,inn.ownBlock = some j → v.ownBlock ≠ some j) := fun j hj h => hvo j h (hb.oN j hj)
 have HI : Hid (∀ j,iv.ownBlock = some j → v.ownBlock ≠ some j) := fun j hj h => hvo j h (hb.oI j hj)
 have HVB : Hid (v.ownBlock ≠ some B) := fun h => hvo B h hb.oB
 have HB0 : Hid (BookI w base B n came ki yi iv inn E K OB) := hb
 have HVLT : Hid (∀ j,v.ownBlock = some j → base ≤ j ∧ j < w.heap.size) := fun j hj => ⟨(own_tagged hv hj).1,own_lt2 hv hj⟩
 clear hvv
 rw [← HVV.out] at hsrc
 go_enter Tryz.func40,Tryz.ntmps40
 go_upto_region 2 with (at_builtin; refine wpList_append_src _ rfl (.tmp 7) (.tmp 8) 35 rfl w.heap.size 3 i3 _ 1 8 Tryz.underlying35 hi3 hz3a hz3b hz3c rfl (by omega) _ 0 [] rfl (World.ownsRow_nil _ _ _ _) (.slice av L.length cv) L.length (intsV L) rfl hsrc (by unfold maxLen; omega) (by omega) (by omega) ?_; intro ya yc w1 hy hgy)
 simp only [Nat.zero_add,List.nil_append] at hy
 have hB1 : Below w.heap.size w w1 := (Below.refl _ _).grown hgy (Nat.le_refl _) (fun k hk => by cases hk)
 obtain ⟨yv,hyy⟩ : ∃ yv,Value.slice ya L.length yc = yv := ⟨_,rfl⟩
 rw [HVV.out,hyy]
 rw [hyy] at hy
 have hyf : ∀ j,yv.ownBlock = some j → w.heap.size ≤ j ∧ j < w1.heap.size := fun j hj => ⟨(own_tagged hy hj).1,own_lt2 hy hj⟩
 have HYF : Hid (∀ j,yv.ownBlock = some j → w.heap.size ≤ j ∧ j < w1.heap.size) := hyf
 clear hyy hyf hsrc hgy
 have hs1 := hB1.size
 have hb1 := hb.below hB1
 have hv1 := own_below hv hB1
 clear hb hv hvo
 have c5 : w1.cell? ⟨B, 5,none⟩ = some ki := hb1.bk.blk.cell 5
 have c6 : w1.cell? ⟨B, 6,none⟩ = some yi := hb1.bk.blk.cell 6
 have keepS : ∀ W',Below w1.heap.size w1 W' → W'.cell? ⟨B, 5,none⟩ = some ki ∧ W'.cell? ⟨B, 6,none⟩ = some yi := fun W' h => by
  have hb2 := hb1.below h
  exact ⟨hb2.bk.blk.cell 5,hb2.bk.blk.cell 6⟩
 have hcon := sameI_any K ki yi base base w1.drew hb1.kept.drew hb1.were.drew
 have hBlt1 : B < w1.heap.size := by omega
 go_region_held3 (fun W' => W'.cell? ⟨B, 5,none⟩ = some ki ∧ W'.cell? ⟨B, 6,none⟩ = some yi)
  (first
   | exact keepS _ ((Below.refl _ w1).drew.trans hb2')
   | go_keep)
  ((go_at_call 42; refine hcon.mono ?_; rintro e w2 ⟨rfl,hb2'⟩))
 have hB2 : Below w1.heap.size w1 w2 := (Below.refl _ w1).drew.trans hb2'
 have hb2 := hb1.below hB2
 have hv2 := own_below hv1 hB2
 have hy2 := own_below hy hB2
 have hs2 := hB2.size
 have hB02 : Below w.heap.size w w2 := hB1.trans (hB2.mono hs1)
 clear keepS hcon c5 c6 hb1 hv1 hy hb2' hB1 hB2
 have c5 : w2.cell? ⟨B, 5,none⟩ = some ki := hb2.bk.blk.cell 5
 have hmk := markI_any w2 base B n came ki yi iv inn E hb2.bk ki K.length (intsV K) hb2.kept hb2.small hb2.far hb2.farN (by omega) (by omega)
 have HY2 : Hid (w2.ownsRow w.heap.size 3 1 yv L.length (intsV L)) := hy2
 have HV2 : Hid (w2.ownsRow base 3 1 v L.length (intsV L)) := hv2
 have HB02 : Hid (Below w.heap.size w w2) := hB02
 clear hb2 hv2 hy2 hB02
 go_wp2_with fail
 refine hmk.mono ?_
 rintro e w3 ⟨rfl,iv3,in3,E3,hbk3,hE3,hE3f,hiv3,hin3,ho3⟩
 have hv3 := own_offv HV2.out ho3 (fun j hj h => by
  rcases h with h | h | h | h
  ·exact HVB.out (h ▸ hj)
  ·exact HK.out j h hj
  ·exact HI.out j h hj
  ·exact HN.out j h hj)
 have hy3 := own_offv HY2.out ho3 (fun j hj h => by
  have h1 := HYF.out j hj
  rcases h with h | h | h | h
  ·omega
  ·have := (HB0.out.oL j (HB0.out.oK j h)).2; omega
  ·have := (HB0.out.oL j (HB0.out.oI j h)).2; omega
  ·have := (HB0.out.oL j (HB0.out.oN j h)).2; omega)
 have ho03 : Off (fun j => OB j ∨ v.ownBlock = some j) w w3 := (Off.of_below HB02.out).step ho3 (fun j _ h => by
  rcases h with h | h | h | h
  ·exact .inl (h ▸ HB0.out.oB)
  ·exact .inl (HB0.out.oK j h)
  ·exact .inl (HB0.out.oI j h)
  ·exact .inl (HB0.out.oN j h))
 have hs3 := ho3.size
 have HFAR : Hid (∀ e ∈ E ++ E3, ∀ j,e.1.ownBlock = some j → v.ownBlock ≠ some j) := fun e he j hj => by
  rcases List.mem_append.1 he with he | he
  ·exact HE.out e he j hj
  ·intro h
   rcases hE3f e he j hj with h1 | h1
   ·exact HK.out j h1 h
   ·have h2 := (HVLT.out j h).2; omega
 have HFN : Hid (∀ j,in3.ownBlock = some j → v.ownBlock ≠ some j) := fun j hj h => by
  rcases hin3 j hj with h1 | h1
  ·exact HN.out j h1 h
  ·have h2 := (HVLT.out j h).2; omega
 have HE3F : Hid (∀ e ∈ E3, ∀ j,e.1.ownBlock = some j → ki.ownBlock = some j ∨ w2.heap.size ≤ j) := hE3f
 have HIV3 : Hid (∀ j,iv3.ownBlock = some j → iv.ownBlock = some j ∨ w2.heap.size ≤ j) := hiv3
 have HIN3 : Hid (∀ j,in3.ownBlock = some j → inn.ownBlock = some j ∨ w2.heap.size ≤ j) := hin3
 clear c5 ho3 hE3f hiv3 hin3 hmk
 go_wp2_with fail
 refine (sameI_any L v yv base w.heap.size w3 hv3 hy3).mono ?_
 rintro e w4 ⟨rfl,hB4⟩
 have hbk4 := hbk3.below hB4
 have hv4 := own_below hv3 hB4
 have hy4 := own_below hy3 hB4
 have ho04 : Off (fun j => OB j ∨ v.ownBlock = some j) w w4 := ho03.trans (Off.of_below (hB4.mono (Nat.le_refl _)))
 have hs4 := hB4.size
 clear hbk3 hv3 hy3 ho03 hB4
 have hBW4 := hbk4.blk.lt
 have d1 : w4.cell? ⟨B, 1,none⟩ = some (.int .i64 (came : Int)) := hbk4.blk.cell 1
 have d2 : w4.cell? ⟨B, 2,none⟩ = some (.bool false) := hbk4.blk.cell 2
 have d5 : w4.cell? ⟨B, 5,none⟩ = some ki := hbk4.blk.cell 5
 have d6 : w4.cell? ⟨B, 6,none⟩ = some yi := hbk4.blk.cell 6
 have f1 : w4.frozen? ⟨B, 1,none⟩ = false := hbk4.blk.frozen 1
 have f2 : w4.frozen? ⟨B, 2,none⟩ = false := hbk4.blk.frozen 2
 have f5 : w4.frozen? ⟨B, 5,none⟩ = false := hbk4.blk.frozen 5
 have f6 : w4.frozen? ⟨B, 6,none⟩ = false := hbk4.blk.frozen 6
 have hbk5 := (((hbk4.store 2 (.bool false) (n' := n + 1) (came' := came) (ki' := ki) (yi' := yi) rfl).store 5 (.slice none 0 0) (n' := n + 1) (came' := came) (ki' := .slice none 0 0) (yi' := yi) rfl).store 6 (.slice none 0 0) (n' := n + 1) (came' := came) (ki' := .slice none 0 0) (yi' := .slice none 0 0) rfl).store 1 (.int .i64 ((came : Int) + 1)) (n' := n + 1) (came' := came + 1) (ki' := .slice none 0 0) (yi' := .slice none 0 0) rfl
 have hv5 := other4 hv4 hbk4.blk (.bool false) (.slice none 0 0) (.slice none 0 0) (.int .i64 ((came : Int) + 1))
 have hy5 := other4 hy4 hbk4.blk (.bool false) (.slice none 0 0) (.slice none 0 0) (.int .i64 ((came : Int) + 1))
 have hOB : OB B ∨ v.ownBlock = some B := .inl HB0.out.oB
 have ho05 := (((ho04.setCell (i := 2) (.bool false) (.inl hOB)).setCell (i := 5) (.slice none 0 0) (.inl hOB)).setCell (i := 6) (.slice none 0 0) (.inl hOB)).setCell (i := 1) (.int .i64 ((came : Int) + 1)) (.inl hOB)
 clear hv4 hy4 ho04
 have HOE : Hid (∀ e ∈ E ++ E3, ∀ j,e.1.ownBlock = some j → OB j ∨ w.heap.size ≤ j) := fun e he j hj => by
  rcases List.mem_append.1 he with he | he
  ·exact .inl (HB0.out.oE e he j hj)
  ·rcases HE3F.out e he j hj with h | h
   ·exact .inl (HB0.out.oK j h)
   ·exact .inr (by omega)
 have HOI : Hid (∀ j,iv3.ownBlock = some j → OB j ∨ w.heap.size ≤ j) := fun j hj => (HIV3.out j hj).imp (HB0.out.oI j) (fun h => by omega)
 have HON : Hid (∀ j,in3.ownBlock = some j → OB j ∨ w.heap.size ≤ j) := fun j hj => (HIN3.out j hj).imp (HB0.out.oN j) (fun h => by omega)
 have hbw : base ≤ w.heap.size := by have := (HB0.out.oL B HB0.out.oB); omega
 rcases Nat.mod_two_eq_zero_or_one came with hpar | hpar
 ·obtain ⟨p1,p2⟩ := par_odd came hpar
  obtain ⟨av',capv,hvs,_⟩ := own_shape hv5
  obtain ⟨ay,capy',hys,_⟩ := own_shape hy5
  subst hvs
  subst hys
  have hbk6 := (hbk5.store 5 (.slice av' L.length capv) (n' := n + 1) (came' := came + 1) (ki' := .slice av' L.length capv) (yi' := .slice none 0 0) rfl).store 6 (.slice ay L.length capy') (n' := n + 1) (came' := came + 1) (ki' := .slice av' L.length capv) (yi' := .slice ay L.length capy') rfl
  have hv6 := own_other (i := 6) (own_other (i := 5) hv5 hbk5.blk (by decide) (.slice av' L.length capv)) (hbk5.blk.set 5 _) (by decide) (.slice ay L.length capy')
  have hy6 := own_other (i := 6) (own_other (i := 5) hy5 hbk5.blk (by decide) (.slice av' L.length capv)) (hbk5.blk.set 5 _) (by decide) (.slice ay L.length capy')
  have ho06 := (ho05.setCell (i := 5) (.slice av' L.length capv) (.inl hOB)).setCell (i := 6) (.slice ay L.length capy') (.inl hOB)
  clear hpar hv5 hy5 hbk5 ho05
  go_wp2
  refine bodyPost_end (v := .tuple #[]) (by simp [results,Tryz.results40]) rfl ⟨rfl, ?_⟩
  rw [HVV.out]
  refine ⟨n + 1,_,_,iv3,in3,E ++ E3,L,fun j => (OB j ∨ (Value.slice av' L.length capv).ownBlock = some j ∨ w.heap.size ≤ j) ∧ base ≤ j ∧ j < _,by omega,by rw [List.length_append,hE3]; omega,⟨hbk6,hL,hv6,own_mono hy6 hbw,HFAR.out,HFN.out,⟨.inl HB0.out.oB,hle,hbk6.blk.lt⟩,fun j hj => ⟨.inr (.inl hj),(own_tagged hv6 hj).1,own_lt2 hv6 hj⟩,fun j hj => ⟨.inr (.inr (own_tagged hy6 hj).1),Nat.le_trans hbw (own_tagged hy6 hj).1,own_lt2 hy6 hj⟩,fun j hj => ⟨(HOI.out j hj).imp id .inr,(own_tagged hbk6.rowI hj).1,own_lt2 hbk6.rowI hj⟩,fun j hj => ⟨(HON.out j hj).imp id .inr,(own_tagged hbk6.rowN hj).1,own_lt2 hbk6.rowN hj⟩,fun e he j hj => ⟨(HOE.out e he j hj).imp id .inr, ?_,((hbk6.ent e he).lt j hj).1⟩,fun j hj => hj.2⟩,ho06,fun j hj => hj.1⟩
  rcases HOE.out e he j hj with h | h
  ·exact (HB0.out.oL j h).1
  ·omega
 ·obtain ⟨p1,p2⟩ := par_even came hpar
  clear hpar
  have hmk := markI_any _ base B (n + 1) (came + 1) _ _ iv3 in3 (E ++ E3) hbk5 v L.length (intsV L) hv5 hL HFAR.out HFN.out (by omega) (by rw [List.length_append,hE3]; omega)
  have HBK5 : Hid (BkI _ base B (n + 1) (came + 1) (.slice none 0 0) (.slice none 0 0) iv3 in3 (E ++ E3)) := hbk5
  have HO5 : Hid (Off (fun j => OB j ∨ v.ownBlock = some j) w _) := ho05
  clear hbk5 hv5 hy5 ho05
  go_wp2_with fail
  refine hmk.mono ?_
  rintro e w6 ⟨rfl,iv6,in6,E6,hbk6,hE6,hE6f,hiv6,hin6,ho6⟩
  have hs6 := HO5.out.size
  have ho06 : Off (fun j => OB j ∨ v.ownBlock = some j) w w6 := HO5.out.step ho6 (fun j hj h => by
   rcases h with h | h | h | h
   ·exact .inl (h ▸ HB0.out.oB)
   ·exact .inr h
   ·exact (HOI.out j h).elim .inl (fun h => by omega)
   ·exact (HON.out j h).elim .inl (fun h => by omega))
  have HO6 : Hid (Off (fun j => OB j ∨ v.ownBlock = some j) w w6) := ho06
  have HBK6 : Hid (BkI w6 base B (n + 1 + 1) (came + 1) (.slice none 0 0) (.slice none 0 0) iv6 in6 (E ++ E3 ++ E6)) := hbk6
  have HQ : Hid (∀ j,(iv6.ownBlock = some j ∨ in6.ownBlock = some j ∨ ∃ e ∈ E ++ E3 ++ E6,e.1.ownBlock = some j) → OB j ∨ v.ownBlock = some j ∨ w.heap.size ≤ j) := fun j hj => by
   rcases hj with hj | hj | ⟨e,he,hj⟩
   ·rcases hiv6 j hj with h | h
    ·exact (HOI.out j h).imp id .inr
    ·exact .inr (.inr (by omega))
   ·rcases hin6 j hj with h | h
    ·exact (HON.out j h).imp id .inr
    ·exact .inr (.inr (by omega))
   ·rcases List.mem_append.1 he with he | he
    ·exact (HOE.out e he j hj).imp id .inr
    ·rcases hE6f e he j hj with h | h
     ·exact .inr (.inl h)
     ·exact .inr (.inr (by omega))
  clear hbk6 hE6f hiv6 hin6 ho6 ho06
  go_wp2
  refine bodyPost_end (v := .tuple #[]) (by simp [results,Tryz.results40]) rfl ⟨rfl, ?_⟩
  rw [HVV.out]
  refine ⟨n + 1 + 1,_,_,iv6,in6,E ++ E3 ++ E6, [],fun j => (OB j ∨ v.ownBlock = some j ∨ w.heap.size ≤ j) ∧ base ≤ j ∧ j < w6.heap.size,by omega,by rw [List.length_append,List.length_append,hE3,hE6]; omega,⟨HBK6.out,by simp,World.ownsRow_nil _ _ _ _,World.ownsRow_nil _ _ _ _,fun e _ j _ => by simp [Value.ownBlock],fun j _ => by simp [Value.ownBlock],⟨.inl HB0.out.oB,hle,HBK6.out.blk.lt⟩,fun j hj => by simp [Value.ownBlock] at hj,fun j hj => by simp [Value.ownBlock] at hj,fun j hj => ⟨HQ.out j (.inl hj),(own_tagged HBK6.out.rowI hj).1,own_lt2 HBK6.out.rowI hj⟩,fun j hj => ⟨HQ.out j (.inr (.inl hj)),(own_tagged HBK6.out.rowN hj).1,own_lt2 HBK6.out.rowN hj⟩,fun e he j hj => ⟨HQ.out j (.inr (.inr ⟨e,he,hj⟩)), ?_,((HBK6.out.ent e he).lt j hj).1⟩,fun j hj => hj.2⟩,HO6.out,fun j hj => hj.1⟩
  rcases HQ.out j (.inr (.inr ⟨e,he,hj⟩)) with h | h | h
  ·exact (HB0.out.oL j h).1
  ·exact (HVLT.out j h).1
  ·omega
end
end Go.Proofs.YtdgbgmffpcooeaaGreat
