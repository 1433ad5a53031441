/- Op5 Oo1 Ck1 -/
import Derived.Test.YtdgbgmffpcooeaaGreatU37
import Derived.Shelf.SlSortCmp.NoneTotal
namespace Go.Proofs.YtdgbgmffpcooeaaGreat
open Go.RowKit Go.Lib
section
theorem infoB : (Tryz.prog.info? 4).map (fun i => (i.zero,i.size,i.bytes)) = some (some (.bool false), 1, 1) := by kernel_rfl
theorem sectors_any (w : World) (base : Nat) (A : PA) (s : PS) (h : PD w base A s) :
  Calls Tryz.prog 99 #[.pointer (some ⟨A.q, 0,none⟩)] w fun e w' => e = .returned (.int .i64 (s.n : Int)) ∧ w' = w := by
 obtain ⟨c0,c1,c2,c3,c4⟩ := h.cells
 go_enter Tryz.func99,Tryz.ntmps99
 go_wp2
 go_ret
 exact ⟨rfl,rfl⟩
def OpenP (w : World) (base : Nat) (A : PA) (s : PS) (e : Ending) (w' : World) : Prop :=
 Off A.F w w' ∧ ((∃ T root es us f fr r,e = .returned (.tuple #[.pointer (some ⟨T, 0,none⟩), .int .i64 0]) ∧ Tr s root es us ∧ FromK es ∧ Frees s.n us fr ∧ PD w' base A (s.at_ r) ∧ TreeB w' T A f ∧ w'.ownsRow w.heap.size 3 1 f fr.length (secsV fr) ∧ w.heap.size ≤ T ∧ (root = 0 → r = 1)) ∨ (e = .returned (.tuple #[.pointer none, .int .i64 7]) ∧ (∀ root es us,Tr s root es us → ¬ FromK es) ∧ ∃ r,PD w' base A (s.at_ r)))
theorem Tr.root_eq {s : PS} {r1 r2 : Nat} {es : List (Key × Box)} {us : List Nat} (h : Tr s r2 es us) (hh : headOf (s.now 0).data.toList = some r1) : r2 = r1 := by
 have := h.head; rw [hh] at this; exact (Option.some.inj this).symm
set_option maxRecDepth 100000 in
set_option maxHeartbeats 4000000 in
theorem topen_live (w : World) (base : Nat) (A : PA) (s : PS) (hp : PD w base A s) (hs : s.brk = false) :
  Calls Tryz.prog 74 #[.pointer (some ⟨A.q, 0,none⟩)] w (OpenP w base A s) := by
 obtain ⟨i4,hi4,hz4a,hz4b,hz4c⟩ := info_parts infoB
 obtain ⟨i3,hi3,hz3a,hz3b,hz3c⟩ := info_parts info3
 have hn1 := hp.n1
 have hn2 := hp.n2
 have hFw : ∀ k,A.F k → k < w.heap.size := fun k hk => (hp.lt k hk).2
 obtain ⟨W0,hW0⟩ : ∃ W0,w.alloc (.cells #[.pointer (some ⟨A.q, 0,none⟩), .slice none 0 0] 169) = W0 := ⟨_,rfl⟩
 have hb0 : Below w.heap.size w W0 := by rw [← hW0]; exact (Below.refl _ w).alloc (Nat.le_refl _) _
 have BT0 : TreeB W0 w.heap.size A (.slice none 0 0) := by rw [← hW0]; exact Blk.new w 169 _
 have hs0 : W0.heap.size = w.heap.size + 1 := by rw [← hW0]; simp
 have hsec := sectors_any W0 base A s (hp.below hb0)
 have HW0 : Hid (w.alloc (.cells #[.pointer (some ⟨A.q, 0,none⟩), .slice none 0 0] 169) = W0) := hW0
 have HP0 : Hid (PD W0 base A s) := hp.below hb0
 clear hW0 hp
 go_enter Tryz.func74,Tryz.ntmps74
 go_upto_region 2 with fail
 rw [HW0.out]
 go_upto_region 3 with (first
  | (go_at_call 99; refine hsec.mono ?_; rintro e w1 ⟨rfl,rfl⟩)
  | (at_make; refine wpList_make_full _ rfl (.tmp 17) (.tmp 17) 171 rfl w1.heap.size 4 i4 _ 1 Tryz.underlying171 hi4 hz4a hz4b _ _ _ _ s.n rfl rfl rfl rfl (by rw [hz4c]; omega) (by unfold maxLen; omega) (Nat.le_refl _) ?_; intro w2 hown hgrow))
 have hb2 : Below w1.heap.size w1 w2 := (Below.refl _ w1).grown hgrow (Nat.le_refl _) (fun k hk => by cases hk)
 have hs2 := hb2.size
 have hsn : SeenAt w2 (w.heap.size + 1) s.n (fun _ => false) := by
  obtain ⟨_,⟨e1,_⟩ | ⟨g',cap,cur,e1,_,h3,_,_,h6,h7⟩⟩ := hown
  ·cases e1
  ·cases e1
   rw [← hs0]
   have hl : cur.size = s.n := by simpa using h6
   refine ⟨cur,h3,hl,fun i hi => ?_⟩
   rw [← Array.getElem?_toList]
   have hx : ((madeCells (Value.bool false).cells (s.n * 1)).toList)[i]? = some (.bool false) := by simp [madeCells,Value.cells,hi,Nat.mod_one]
   rw [← h7,List.getElem?_take_of_lt (by omega)] at hx
   exact hx
 obtain ⟨W3,hW3⟩ : ∃ W3,w2.alloc (.cells #[.pointer (some ⟨w.heap.size, 0,none⟩), .slice (some ⟨w.heap.size + 1, 0,none⟩) s.n s.n, .int .i64 0, .int .i64 (-1)] 173) = W3 := ⟨_,rfl⟩
 have hb3 : Below w2.heap.size w2 W3 := by rw [← hW3]; exact (Below.refl _ w2).alloc (Nat.le_refl _) _
 have BS3 : Blk W3 w2.heap.size 173 #[.pointer (some ⟨w.heap.size, 0,none⟩), .slice (some ⟨w.heap.size + 1, 0,none⟩) s.n s.n, .int .i64 0, .int .i64 (-1)] := by rw [← hW3]; exact Blk.new w2 173 _
 have hsn3 : SeenAt W3 (w.heap.size + 1) s.n (fun _ => false) := hsn.off (Off.of_below (F := fun _ => False) hb3) (fun h => h)
 have hP3 := (HP0.out.below hb2).below hb3
 have hT3 : TreeB W3 w.heap.size A (.slice none 0 0) := (hb3.block _ (by omega)).trans ((hb2.block _ (by omega)).trans BT0)
 have q1 : W3.cell? ⟨w2.heap.size, 1,none⟩ = some (.slice (some ⟨w.heap.size + 1, 0,none⟩) s.n s.n) := BS3.cell 1
 obtain ⟨q2,q3⟩ := hsn3.cell (i := 0) (by omega)
 have hn0 : (0 : Int) < (s.n : Int) := by omega
 have hn0' : 0 < s.n := by omega
 have hg2 := hsn.lt
 rw [hW3]
 have HB3 : Hid (Below w1.heap.size w1 W3) := hb2.trans (hb3.mono hs2)
 clear hW3 hb3 hb2 hgrow hown hsec HP0 HW0 BT0 hsn
 go_upto_region 4 with fail
 obtain ⟨W4,hW4⟩ : ∃ W4,W3.setCell ⟨w.heap.size + 1, 0,none⟩ (.bool true) = W4 := ⟨_,rfl⟩
 have o4 : Off (fun k => k = w.heap.size + 1) W3 W4 := by rw [← hW4]; exact Off.one W3 _
 have hss : upd2 (fun _ => false) 0 true = ss0.seen := by funext k; simp [upd2,ss0]
 have hsn4 : SeenAt W4 (w.heap.size + 1) s.n ss0.seen := by rw [← hss, ← hW4]; exact hsn3.set hn0'
 have hP4 : PD W4 base A s := hP3.off o4 (fun k hk e => by have := hFw k hk; omega)
 have hT4 : TreeB W4 w.heap.size A (.slice none 0 0) := (o4.block _ hT3.lt (by omega)).trans hT3
 have BS4 : Blk W4 w2.heap.size 173 #[.pointer (some ⟨w.heap.size, 0,none⟩), .slice (some ⟨w.heap.size + 1, 0,none⟩) s.n s.n, .int .i64 0, .int .i64 (-1)] := (o4.block _ BS3.lt (by omega)).trans BS3
 have oW4 : Off A.F w W4 := ((Off.of_below hb0).trans (Off.of_below (HB3.out))).step o4 (fun k hk e => by omega)
 have hroot := root_live W4 base A s hP4 w.heap.size _ hT4 hs
 have HSV : Hid (∀ X,Off A.F W4 X → PD X base A s.adv → Sv X base A s w.heap.size (.slice none 0 0) w2.heap.size (w.heap.size + 1) ss0 1) := fun X ho hpx => by
  have nf : ∀ k,w.heap.size ≤ k → ¬ A.F k := fun k hk hf => by have := hFw k hf; omega
  exact ⟨hpx,(ho.block _ hT4.lt (nf _ (by omega))).trans hT4,(ho.block _ BS4.lt (nf _ (by omega))).trans BS4,hsn4.off ho (nf _ (by omega))⟩
 have HOW : Hid (Off A.F w W4) := oW4
 rw [hW4]
 clear hW4 o4 hsn4 hP4 hT4 BS4 oW4 BS3 hsn3 hP3 hT3 q1 q2 q3 hss HB3 hb0
 cases hh : headOf (s.now 0).data.toList with
 | none =>
  rw [hh] at hroot
  have HN : Hid (∀ root es us,Tr s root es us → ¬ FromK es) := fun root es us hT _ => by have := hT.head; rw [hh] at this; cases this
  clear hh HSV
  go_wp2_with (go_at_call 100; refine hroot.mono ?_; rintro e w5 ⟨rfl,p5,o5⟩)
  go_ret2
  exact ⟨HOW.out.trans o5, .inr ⟨rfl,HN.out, 1,p5⟩⟩
 | some root =>
  rw [hh] at hroot
  simp only at hroot
  have hrl : root ≤ 65536 := by
   unfold headOf at hh
   split at hh
   ·have := rootOf_lt (s.now 0).data.toList
    cases hh; omega
   ·cases hh
  have HH : Hid (headOf (s.now 0).data.toList = some root) := hh
  clear hh
  go_upto_if 36 with (go_at_call 100; refine hroot.mono ?_; rintro e w5 ⟨rfl,p5,o5⟩)
  have hS5 := HSV.out w5 o5 p5
  have oW5 : Off A.F w w5 := HOW.out.trans o5
  clear hroot HSV HOW p5 o5
  go_cut [] (fun wx => ∃ (ss : SS) (r : Nat) (es : List (Key × Box)) (us : List Nat),Sv wx base A s w.heap.size (.slice none 0 0) w2.heap.size (w.heap.size + 1) ss r ∧ Off A.F w wx ∧ Tr s root es us ∧ FromK es ∧ (∀ t,ss.seen t = (decide (t = 0) || decide (t ∈ us))) ∧ (root = 0 → r = 1))
  case first =>
   by_cases hr0 : root = 0
   ·subst hr0
    have HT : Hid (Tr s 0 [] []) := ⟨HH.out, .inl ⟨rfl,rfl,rfl⟩,List.nodup_nil,fun t ht => (by cases ht),Rising.nil⟩
    have HS5 : Hid (Sv w5 base A s w.heap.size (.slice none 0 0) w2.heap.size (w.heap.size + 1) ss0 1) := hS5
    clear hS5
    go_wp2
    go_meet
    exact ⟨ss0, 1, [], [],HS5.out,oW5,HT.out,fun x hx => (by cases hx),fun t => by simp [ss0],fun _ => rfl⟩
   ·have hr0' : ((root : Int) != 0) = true := by simp; omega
    have hlook := look_any base A s w.heap.size (.slice none 0 0) w2.heap.size (w.heap.size + 1) hs 5000 ss0 root w5 1 (by have : unseen s.n ss0 ≤ s.n := (by unfold unseen; exact Nat.le_trans List.countP_le_length (by simp)); omega) (by omega) hS5
    have HOS : Hid (∀ X,Off (SvF A w2.heap.size (w.heap.size + 1)) w5 X → Off A.F w X) := fun X ho => oW5.step ho (fun k hk hf => by
     rcases hf with hf | hf | hf
     ·exact hf
     ·omega
     ·omega)
    clear hS5 oW5
    cases hlk : lookF (nodesN s) s.n 5000 ss0 root with
    | none =>
     rw [hlk] at hlook
     have HN : Hid (∀ root es us,Tr s root es us → ¬ FromK es) := fun root' es us hT hk => by
      have e := hT.root_eq HH.out
      subst e
      obtain ⟨n,h,ss',e⟩ := open_full hT hk hr0 hn2
      rw [hlk] at e; cases e
     clear hlk
     go_wp2_with (go_at_call 101; refine hlook.mono ?_; rintro e w6 ⟨o6,rfl,ss6,r6,hS6⟩)
     go_ret2
     exact ⟨HOS.out w6 o6, .inr ⟨rfl,HN.out,r6,hS6.pd⟩⟩
    | some y =>
     rw [hlk] at hlook
     obtain ⟨n,h,ss6⟩ := y
     obtain ⟨es,us,hT,hk,hse⟩ := open_sound hr0 HH.out hlk
     have HT : Hid (Tr s root es us) := hT
     have HK : Hid (FromK es) := hk
     have HSE : Hid _ := hse
     clear hlk hT hk hse
     go_wp2_with (go_at_call 101; refine hlook.mono ?_; rintro e w6 ⟨o6,v6,r6,rfl,_,_,hS6⟩)
     go_meet
     exact ⟨ss6,r6,es,us,hS6,HOS.out w6 o6,HT.out,HK.out,HSE.out,fun h => absurd h hr0⟩
  case rest =>
   obtain ⟨ss,r,es,us,hS6,oW6,hT,hk,hse,hr1⟩ := hcut
   have HR1 : Hid (root = 0 → r = 1) := hr1
   have HFR := freeL_frees (n := s.n) hse
   have HFRE : Hid (Frees s.n us (freeL ss.seen s.n 0)) := HFR
   have HT : Hid (Tr s root es us) := hT
   have HK : Hid (FromK es) := hk
   have q1 : wc.cell? ⟨w2.heap.size, 1,none⟩ = some (.slice (some ⟨w.heap.size + 1, 0,none⟩) s.n s.n) := hS6.blk.cell 1
   have e1 : wrap64 ((s.n : Int) - 1) = (s.n : Int) - 1 := by unfold wrap64; omega
   have HS6 : Hid (Sv wc base A s w.heap.size (.slice none 0 0) w2.heap.size (w.heap.size + 1) ss r) := hS6
   have HO6 : Hid (Off A.F w wc) := oW6
   clear hS6 oW6 hT hk hse HFR hS5 oW5 hr1
   go_wp2
   go_loopw [11] (fun y wr => ∃ (m : Nat) (fv : Value) (yi : Int),y = .int .i64 yi ∧ yi = (m : Int) - 1 ∧ m ≤ s.n ∧ PD wr base A (s.at_ r) ∧ TreeB wr w.heap.size A fv ∧ wr.ownsRow (w.heap.size + 2) 3 1 fv (freeL ss.seen s.n m).length (secsV (freeL ss.seen s.n m)) ∧ Blk wr w2.heap.size 173 #[.pointer (some ⟨w.heap.size, 0,none⟩), .slice (some ⟨w.heap.size + 1, 0,none⟩) s.n s.n, .int .i64 ss.last.1, .int .i64 ss.last.2] ∧ SeenAt wr (w.heap.size + 1) s.n ss.seen ∧ Off A.F w wr) (fun y _ => (intOf y + 1).toNat)
   case atStart => exact ⟨s.n,_,_,rfl,rfl,Nat.le_refl _,HS6.out.pd,HS6.out.tr,by rw [freeL_end]; exact World.ownsRow_nil ..,HS6.out.blk,HS6.out.seen,HO6.out⟩
   case round =>
    obtain ⟨m,fv,yi,rfl,hyi,hm,hp7,ht7,hrow7,hb7,hsn7,ho7⟩ := hrel
    by_cases hm0 : m = 0
    ·subst hm0
     obtain rfl : yi = -1 := by omega
     have HR : Hid (PD wr base A (s.at_ r) ∧ TreeB wr w.heap.size A fv ∧ wr.ownsRow (w.heap.size + 2) 3 1 fv (freeL ss.seen s.n 0).length (secsV (freeL ss.seen s.n 0)) ∧ Off A.F w wr) := ⟨hp7,ht7,hrow7,ho7⟩
     clear hp7 ht7 hrow7 hb7 hsn7 ho7 hyi
     go_wp2
     go_ret2
     obtain ⟨z1,z2,z3,z4⟩ := HR.out
     exact ⟨z4, .inl ⟨w.heap.size,root,es,us,fv,_,r,rfl,HT.out,HK.out,HFRE.out,z1,z2,own_mono z3 (by omega),Nat.le_refl _,HR1.out⟩⟩
    ·obtain ⟨i,rfl⟩ : ∃ i,m = i + 1 := ⟨m - 1,by omega⟩
     obtain rfl : yi = (i : Int) := by omega
     have hil : i < s.n := by omega
     have hil' : (i : Int) < (s.n : Int) := by omega
     have e2 : wrap64 ((i : Int) - 1) = (i : Int) - 1 := by unfold wrap64; omega
     have hst := freeL_step ss.seen hil
     obtain ⟨sc,_⟩ := hsn7.cell hil
     have q7 : wr.cell? ⟨w2.heap.size, 1,none⟩ = some (.slice (some ⟨w.heap.size + 1, 0,none⟩) s.n s.n) := hb7.cell 1
     have t7 : wr.cell? ⟨w.heap.size, 1,none⟩ = some fv := ht7.cell 1
     have g7 : wr.frozen? ⟨w.heap.size, 1,none⟩ = false := ht7.frozen 1
     cases hse : ss.seen i with
     | true =>
      rw [hse] at sc hst
      rw [if_pos rfl,List.append_nil] at hst
      rw [← hst] at hrow7
      have HR : Hid (PD wr base A (s.at_ r) ∧ TreeB wr w.heap.size A fv ∧ wr.ownsRow (w.heap.size + 2) 3 1 fv (freeL ss.seen s.n i).length (secsV (freeL ss.seen s.n i)) ∧ Blk wr w2.heap.size 173 #[.pointer (some ⟨w.heap.size, 0,none⟩), .slice (some ⟨w.heap.size + 1, 0,none⟩) s.n s.n, .int .i64 ss.last.1, .int .i64 ss.last.2] ∧ SeenAt wr (w.heap.size + 1) s.n ss.seen ∧ Off A.F w wr) := ⟨hp7,ht7,hrow7,hb7,hsn7,ho7⟩
      clear hp7 ht7 hrow7 hb7 hsn7 ho7 hyi hst hse
      go_wp2
      refine ⟨⟨i,fv,_,rfl,rfl,by omega,HR.out⟩,by simp [intOf]⟩
     | false =>
      rw [hse] at sc hst
      rw [if_neg (by decide)] at hst
      have hlen : (freeL ss.seen s.n (i + 1)).length ≤ 4096 := Nat.le_trans (freeL_len _ _ _) hn2
      have HST : Hid (freeL ss.seen s.n i = freeL ss.seen s.n (i + 1) ++ [i]) := hst
      generalize freeL ss.seen s.n (i + 1) = FL at hrow7 hlen HST
      obtain ⟨fa,fc,rfl,_,_,_⟩ := own_shape hrow7
      have hwr := ho7.size
      have htl := ht7.lt
      have HP7 : Hid (PD wr base A (s.at_ r)) := hp7
      have HT7 : Hid (TreeB wr w.heap.size A (.slice fa FL.length fc)) := ht7
      have HB7 : Hid (Blk wr w2.heap.size 173 #[.pointer (some ⟨w.heap.size, 0,none⟩), .slice (some ⟨w.heap.size + 1, 0,none⟩) s.n s.n, .int .i64 ss.last.1, .int .i64 ss.last.2]) := hb7
      have HSN7 : Hid (SeenAt wr (w.heap.size + 1) s.n ss.seen) := hsn7
      have HO7 : Hid (Off A.F w wr) := ho7
      have HRW : Hid (wr.ownsRow (w.heap.size + 2) 3 1 (.slice fa FL.length fc) FL.length (secsV FL)) := hrow7
      have hb7l := hb7.lt
      have hsn7l := hsn7.lt
      clear hp7 ht7 hb7 hsn7 ho7 hyi hst hse hrow7
      go_upto_region 13 with (at_builtin; refine wpList_append_lies _ rfl (.tmp 69) (.tmp 71) 35 rfl (w.heap.size + 2) 3 i3 _ 1 8 Tryz.underlying35 hi3 hz3a hz3b hz3c rfl (by omega) (.slice fa FL.length fc) FL.length _ rfl (HRW.out.alloc _) ⟨wr.heap.size, 0,none⟩ 1 1 [.int .i64 (i : Int)] rfl rfl (World.news_of_block (cs := #[.int .i64 (i : Int)]) (t := 3) (fr := (0, 0)) (heap_alloc_new wr _)) (by simp [Value.oneCell']) (by omega) (by unfold maxLen; omega) (by omega) (by simp; omega) (wr.heap.size + 1) (by simp) ?_; intro gg capp w8 hown8 hgrow8 hat8 hlt8; have oG : Off (fun k => (Value.slice fa FL.length fc).ownBlock = some k) wr w8 := ((Off.refl _ wr).alloc _).grown hgrow8 (fun j hj => .inl hj); have nT : ¬ (Value.slice fa FL.length fc).ownBlock = some w.heap.size := (fun hg => by have := (own_tagged HRW.out hg).1; omega); have bt8 : TreeB w8 w.heap.size A (.slice fa FL.length fc) := (oG.block _ htl nT).trans HT7.out; have d8 : w8.cell? ⟨w.heap.size, 1,none⟩ = some (.slice fa FL.length fc) := bt8.cell 1; have f8 : w8.frozen? ⟨w.heap.size, 1,none⟩ = false := bt8.frozen 1)
      have nA : ∀ k,A.F k → ¬ (Value.slice fa FL.length fc).ownBlock = some k := fun k hk hg => by have := (own_tagged HRW.out hg).1; have := hFw k hk; omega
      have hp8 := HP7.out.off oG nA
      have nS : ¬ (Value.slice fa FL.length fc).ownBlock = some w2.heap.size := fun hg => by
       obtain ⟨_,cs,hc⟩ := own_tagged HRW.out hg
       have h' : wr.heap[w2.heap.size]? = _ := HB7.out
       rw [h'] at hc; simp at hc
      have nG : ¬ (Value.slice fa FL.length fc).ownBlock = some (w.heap.size + 1) := fun hg => by have := (own_tagged HRW.out hg).1; omega
      have hb8 := (oG.block _ hb7l nS).trans HB7.out
      have hsn8 := HSN7.out.off oG nG
      have ho8 : Off A.F w w8 := HO7.out.step oG (fun k hk hg => by have := (own_tagged HRW.out hg).1; omega)
      have o9 : Off (fun k => k = w.heap.size) w8 (w8.setCell ⟨w.heap.size, 1,none⟩ (.slice (some ⟨gg, 0,none⟩) (FL.length + 1) capp)) := Off.one w8 _
      have hp9 := hp8.off o9 (fun k hk e => by have := hFw k hk; omega)
      have bt9 : TreeB (w8.setCell ⟨w.heap.size, 1,none⟩ (.slice (some ⟨gg, 0,none⟩) (FL.length + 1) capp)) w.heap.size A (.slice (some ⟨gg, 0,none⟩) (FL.length + 1) capp) := bt8.set 1 _
      have hb9 : Blk (w8.setCell ⟨w.heap.size, 1,none⟩ (.slice (some ⟨gg, 0,none⟩) (FL.length + 1) capp)) w2.heap.size 173 #[.pointer (some ⟨w.heap.size, 0,none⟩), .slice (some ⟨w.heap.size + 1, 0,none⟩) s.n s.n, .int .i64 ss.last.1, .int .i64 ss.last.2] := (o9.block _ (show Blk w8 _ 173 _ from hb8).lt (by omega)).trans hb8
      have hsn9 := hsn8.off o9 (by omega)
      have ho9 : Off A.F w (w8.setCell ⟨w.heap.size, 1,none⟩ (.slice (some ⟨gg, 0,none⟩) (FL.length + 1) capp)) := ho8.step o9 (fun k hk e => by omega)
      have hrow9 := own_offv hown8 o9 (fun g' hg' e => by have := (own_tagged hown8 hg').1; omega)
      have HR : Hid (PD (w8.setCell ⟨w.heap.size, 1,none⟩ (.slice (some ⟨gg, 0,none⟩) (FL.length + 1) capp)) base A (s.at_ r) ∧ TreeB (w8.setCell ⟨w.heap.size, 1,none⟩ (.slice (some ⟨gg, 0,none⟩) (FL.length + 1) capp)) w.heap.size A (.slice (some ⟨gg, 0,none⟩) (FL.length + 1) capp) ∧ (w8.setCell ⟨w.heap.size, 1,none⟩ (.slice (some ⟨gg, 0,none⟩) (FL.length + 1) capp)).ownsRow (w.heap.size + 2) 3 1 (.slice (some ⟨gg, 0,none⟩) (FL.length + 1) capp) (freeL ss.seen s.n i).length (secsV (freeL ss.seen s.n i)) ∧ Blk (w8.setCell ⟨w.heap.size, 1,none⟩ (.slice (some ⟨gg, 0,none⟩) (FL.length + 1) capp)) w2.heap.size 173 #[.pointer (some ⟨w.heap.size, 0,none⟩), .slice (some ⟨w.heap.size + 1, 0,none⟩) s.n s.n, .int .i64 ss.last.1, .int .i64 ss.last.2] ∧ SeenAt (w8.setCell ⟨w.heap.size, 1,none⟩ (.slice (some ⟨gg, 0,none⟩) (FL.length + 1) capp)) (w.heap.size + 1) s.n ss.seen ∧ Off A.F w (w8.setCell ⟨w.heap.size, 1,none⟩ (.slice (some ⟨gg, 0,none⟩) (FL.length + 1) capp))) := by
       refine ⟨hp9,bt9, ?_,hb9,hsn9,ho9⟩
       rw [HST.out,List.length_append,show secsV (FL ++ [i]) = secsV FL ++ [.int .i64 (i : Int)] by simp]
       exact hrow9
      clear hp9 bt9 hb9 hsn9 ho9 hrow9 hp8 hb8 hsn8 ho8 bt8 oG hown8 hgrow8
      go_wp2
      refine ⟨⟨i,_,_,rfl,rfl,by omega,HR.out⟩,by simp [intOf]⟩
end
end Go.Proofs.YtdgbgmffpcooeaaGreat
namespace Go.Proofs.YtdgbgmffpcooeaaGreat
section
open Go.RowKit Go.Lib
end
end Go.Proofs.YtdgbgmffpcooeaaGreat
namespace Go.Proofs.YtdgbgmffpcooeaaGreat
open Go.RowKit Go.Shelf Go.Lib Go.Sort
section
abbrev Ent := Key × Box
instance : Inhabited Ent := ⟨((0, 0),zeroBox)⟩
def cmpE (x y : Ent) : Int := cmpK x.1 y.1
set_option maxRecDepth 100000 in
set_option maxHeartbeats 1000000 in
theorem kcmp_grow (a b : Key) (w : World) :
  Calls Tryz.prog 104 #[.agg #[.int .i64 a.1, .int .i64 a.2], .agg #[.int .i64 b.1, .int .i64 b.2]] w fun e w' => e = .returned (.int .i64 (cmpK a b)) ∧ ∃ q os',w' = grow (w.drewN q) os' := by
 have hb1 := (Blk.new w 154 #[.int .i64 a.1, .int .i64 a.2]).alloc (.cells #[.int .i64 b.1, .int .i64 b.2] 154)
 have hb2 := Blk.new (w.alloc (.cells #[.int .i64 a.1, .int .i64 a.2] 154)) 154 #[.int .i64 b.1, .int .i64 b.2]
 rw [World.size_alloc] at hb2
 have hs := scmp_any a b _ w.heap.size (w.heap.size + 1) (hb1.drew.cell 0) (hb1.drew.cell 1) (hb2.drew.cell 0) (hb2.drew.cell 1)
 go_enter Tryz.func104,Tryz.ntmps104
 go_wp2
 go_region_held3 (fun _ => True) (trivial) ((go_at_call 135; refine hs.mono ?_; rintro e w' ⟨rfl,rfl⟩))
 all_goals
  go_wp2
  go_ret
  exact ⟨rfl, 1,_,by rw [alloc_eq_grow,alloc_eq_grow,grow_grow]; rfl⟩
set_option maxRecDepth 100000 in
set_option maxHeartbeats 1000000 in
theorem closureE_any (x y : Ent) (W : World) : Calls Tryz.prog 103 #[.agg (entC x).toArray, .agg (entC y).toArray] W fun e w' => e = .returned (.int .i64 (cmpE x y)) ∧ ∃ q os',w' = grow (W.drewN q) os' := by
 have hcon := fun W' => kcmp_grow x.1 y.1 W'
 unfold cmpE entC
 generalize cmpK x.1 y.1 = r at hcon ⊢
 go_enter Tryz.func103,Tryz.ntmps103
 go_wp2_with (go_at_call 104; refine (hcon _).mono ?_; rintro e w' ⟨rfl,q,os',rfl⟩)
 go_ret
 exact ⟨rfl,q,_,by rw [alloc_eq_grow,alloc_eq_grow,grow_grow,show ∀ (X : World) os,(grow X os).drewN q = grow (X.drewN q) os from fun _ _ => rfl,grow_grow]⟩
theorem cmpLaysE (blk off size : Nat) (w : World) : CmpLays Tryz.prog 103 #[] entC 6 cmpE blk off size w :=
 fun _ _ _ _ x y => closureE_any x y _
theorem ltE (x y : Ent) : ltOf cmpE x y = decide (klt x.1 y.1) := by
 unfold ltOf cmpE
 rw [decide_eq_decide]; exact cmpK_neg _ _
theorem swoE : SWO (ltOf cmpE) := by
 refine ⟨fun x => ?_,fun x y z h1 h2 => ?_,fun x y z h1 h2 => ?_⟩
 ·rw [ltE]; simp [klt]
 ·rw [ltE,decide_eq_true_iff] at h1 h2 ⊢; unfold klt at h1 h2 ⊢; omega
 ·rw [ltE,decide_eq_false_iff_not] at h1 h2 ⊢; unfold klt at h1 h2 ⊢; omega
theorem sortE_any (blk off cap : Nat) (d : Array Ent) (w : World) (hH : HoldsK entC 6 w blk off d) (hblk : blk < w.heap.size) (hd : d.size < 4611686018427387904) :
  Calls Tryz.prog 102 #[.slice (some ⟨blk,off,none⟩) d.size cap, .func (.func 103) #[] #[]] w fun e w' => e = .returned (.tuple #[]) ∧ ∃ d' n os,PermIn 0 d.size d d' ∧ SortedIn (ltOf cmpE) 0 d.size d' ∧ w' = sortWorldK entC 6 w blk off n d' os :=
 AnyQ.slices_SortFunc Tryz.sortEnt 6 Tryz.isAgg156 Tryz.sizeOf156 entC (fun _ => rfl) (fun x v hv => by simp [entC] at hv; rcases hv with rfl | rfl | rfl | rfl | rfl | rfl <;> rfl) cmpE swoE 103 #[] blk off cap d w (enters_of Tryz.func103 (by kernel_rfl) rfl) (cmpLaysE blk off d.size w) hH hblk hd
theorem flatK_flatE (l : List Ent) : (flatK entC 6 l.toArray).toList = flat pkR l := by
 apply List.ext_getElem?
 intro t
 by_cases h : t < l.length * 6
 ·have hl : t / 6 < l.length := by omega
  have h2 : t % 6 < 6 := by omega
  have hg := flat_get pkR (r := l) (List.getElem?_eq_getElem hl) (t % 6) h2
  rw [show t / 6 * pkR.k + t % 6 = t by show t / 6 * 6 + t % 6 = t; omega] at hg
  rw [hg]
  simp only [flatK,Array.toList_map,Array.toList_range,List.getElem?_map,List.size_toArray]
  rw [List.getElem?_range h]
  simp only [Option.map_some]
  have e : (l.toArray[t / 6]! : Ent) = l[t / 6] := by simp [hl]
  rw [e]
  show _ = (entC _)[t % 6]?
  rw [List.getElem?_eq_getElem (by simpa [entC] using h2),getElem!_pos (entC l[t / 6]) (t % 6) (by simpa [entC] using h2)]
 ·rw [List.getElem?_eq_none (by simp [flatK]; omega),List.getElem?_eq_none (by rw [flat_length]; show l.length * 6 ≤ t; omega)]
theorem holdsE {w : World} {g : Nat} {cur : Array Value} {e : TypeId} {l : List Ent} (hb : w.heap[g]? = some (.cells cur e (0, 0))) (ht : cur.toList.take (l.length * 6) = flat pkR l) : HoldsK entC 6 w g 0 l.toArray := by
 intro j hj
 have hj' : j < l.length * 6 := by simpa using hj
 refine ⟨?_,by simp [World.frozen?,hb]⟩
 have h1 : (cur.toList.take (l.length * 6))[j]? = (flat pkR l)[j]? := by rw [ht]
 rw [List.getElem?_take_of_lt hj', ← flatK_flatE] at h1
 simp only [World.cell?,hb,Nat.zero_add]
 simp only [Option.isSome_none,Bool.false_eq_true,if_false]
 rw [← Array.getElem?_toList,h1]
 rw [Array.getElem?_toList,Array.getElem?_eq_getElem hj,getElem!_pos (flatK entC 6 l.toArray) j hj]; rfl
theorem rowE_sorted {w : World} {base g cap n : Nat} {e : TypeId} {os : Array Obj} {cur : Array Value} {l l' : List Ent} (hl : l'.length = l.length) (hbase : base ≤ g) (hb : w.heap[g]? = some (.cells cur e (0, 0)))
  (h1 : l.length ≤ cap) (h2 : cap ≤ maxLen) (h3 : cur.size = cap * 6) :
  (sortWorldK entC 6 w g 0 n l'.toArray os).ownsRow base e 6 (.slice (some ⟨g, 0,none⟩) l.length cap) l.length (flat pkR l') := by
 have hg : g < w.heap.size := (Array.getElem?_eq_some_iff.1 hb).1
 have hheap : (sortWorldK entC 6 w g 0 n l'.toArray os).heap[g]? = some (.cells (putCells id 0 (flatK entC 6 l'.toArray) cur) e (0, 0)) := by
  unfold sortWorldK putRowK
  rw [heap_grow_old _ _ (by simpa using hg)]
  simp [putRow,mapBlock,Sort.ahead,Array.getElem?_modify,hb,onCells]
 refine ⟨by rw [flat_length,hl]; rfl, .inr ⟨g,cap,_,rfl,hbase,hheap,h1,h2,by simp [putCells,h3], ?_⟩⟩
 rw [← flatK_flatE]
 have hsz : (flatK entC 6 l'.toArray).size = l.length * 6 := by simp [hl]
 apply List.ext_getElem?
 intro j
 by_cases hj : j < l.length * 6
 ·rw [List.getElem?_take_of_lt hj,Array.getElem?_toList]
  have h5 : j < cur.size := by rw [h3]; have := Nat.mul_le_mul_right 6 h1; omega
  simp only [putCells]
  simp [h5,hl,hj]
 ·rw [List.getElem?_take_eq_none (by omega),List.getElem?_eq_none (by rw [Array.length_toList,hsz]; omega)]
theorem offE_sorted {w : World} {g n : Nat} {os : Array Obj} {d : Array Ent} : Off (fun k => k = g) w (sortWorldK entC 6 w g 0 n d os) := by
 refine ⟨rfl,rfl,rfl,by simp [sortWorldK,putRowK],fun k hk hne => ?_⟩
 unfold sortWorldK putRowK
 rw [heap_grow_old _ _ (by simp; omega)]
 have : g ≠ k := fun e => hne e.symm
 simp [putRow,mapBlock,Sort.ahead,Array.getElem?_modify,this]
theorem permE {l : List Ent} {d' : Array Ent} (h : Go.Sort.PermIn 0 l.length l.toArray d') : d'.toList.length = l.length ∧ d'.toList.Perm l := by
 obtain ⟨h1,_,h3⟩ := h
 have hs : d'.size = l.length := by simpa using h1
 refine ⟨by simpa using hs, ?_⟩
 have e1 : (d'.extract 0 l.length).toList = d'.toList := by rw [← hs]; simp
 have e2 : (l.toArray.extract 0 l.length).toList = l := by simp
 rwa [e1,e2] at h3
theorem sortRow_any (w : World) (base : Nat) (v : Value) (l : List Ent) (h : w.ownsRow base 156 6 v l.length (flat pkR l)) (hl : l.length < 4611686018427387904) :
  Calls Tryz.prog 102 #[v, .func (.func 103) #[] #[]] w fun e w' => e = .returned (.tuple #[]) ∧ ∃ l' : List Ent,l'.Perm l ∧ l'.Pairwise (fun x y => ¬ klt y.1 x.1) ∧ w'.ownsRow base 156 6 v l.length (flat pkR l') ∧ Off (fun k => v.ownBlock = some k) w w' := by
 obtain ⟨h0,⟨rfl,hn⟩ | ⟨g,cap,cur,rfl,hb,hg,h1,h2,h3,h4⟩⟩ := h
 ·have : l = [] := List.length_eq_zero_iff.1 hn
  subst this
  refine (AnyF.slices_SortFunc_none Tryz.sortEnt none 0 _ w).mono ?_
  rintro e w' ⟨rfl,rfl⟩
  exact ⟨rfl, [],List.Perm.refl _,List.Pairwise.nil,⟨rfl, .inl ⟨rfl,rfl⟩⟩,Off.refl _ _⟩
 ·have hgl : g < w.heap.size := (Array.getElem?_eq_some_iff.1 hg).1
  have hs := sortE_any g 0 cap l.toArray w (holdsE hg h4) hgl (by simpa using hl)
  rw [List.size_toArray] at hs
  refine hs.mono ?_
  rintro e w' ⟨rfl,d',n,os,hp,hso,rfl⟩
  obtain ⟨p1,p2⟩ := permE hp
  refine ⟨rfl,d'.toList,p2, ?_, ?_,offE_sorted.mono (fun k _ e => by rw [e]; rfl)⟩
  ·rw [List.pairwise_iff_getElem]
   intro i j hi hj hij
   have := hso i j (Nat.zero_le _) hij (by omega)
   rw [ltE,decide_eq_false_iff_not] at this
   have hi' : i < d'.size := by simpa using hi
   have hj' : j < d'.size := by simpa using hj
   rw [getElem!_pos d' i hi',getElem!_pos d' j hj'] at this
   simpa using this
  ·exact rowE_sorted (l' := d'.toList) p1 hb hg h1 h2 h3
end
end Go.Proofs.YtdgbgmffpcooeaaGreat
