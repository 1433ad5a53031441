/- Xr4 Xr5 Xr6 Xs2 Xs3 -/
import Derived.Test.YtdgbgmffpcooeaaGreatU47
import Derived.Test.YtdgbgmffpcooeaaGreatU49
namespace Go.Proofs.YtdgbgmffpcooeaaGreat
open Go.RowKit Go.Lib
section
set_option maxRecDepth 100000 in
set_option maxHeartbeats 4000000 in
theorem rput_ref (w : World) (base R : Nat) (sv : Value) (tb : List (Int × Box)) (h : RefX w base R sv tb) (hu : Ups tb) (hl : tb.length ≤ 1000000) (hbase : base ≤ w.heap.size) (id : Int) (hid : idB id = true) (v : Box) (hv : v.ok) :
  Calls Tryz.prog 34 #[.pointer (some ⟨R, 0,none⟩), .int .i64 id, .agg (boxC v)] w fun e w' => e = .returned (.int .i64 0) ∧ RefP w w' base R sv (tput id v tb) := by
 obtain ⟨i0,hi0,hz0,hz1,hz2⟩ := info_parts info128
 obtain ⟨W1,hW1⟩ : ∃ W1,w.alloc (.cells #[.int .i64 (v.a : Int), .int .i64 (v.b : Int), .int .i64 (v.c : Int), .int .i64 (v.d : Int)] 34) = W1 := ⟨_,rfl⟩
 have hb1 : Below w.heap.size w W1 := by rw [← hW1]; exact (Below.refl _ w).alloc (Nat.le_refl _) _
 have b1 : Blk W1 w.heap.size 34 #[.int .i64 (v.a : Int), .int .i64 (v.b : Int), .int .i64 (v.c : Int), .int .i64 (v.d : Int)] := by rw [← hW1]; exact Blk.new w 34 _
 have HW1 : Hid (w.alloc (.cells #[.int .i64 (v.a : Int), .int .i64 (v.b : Int), .int .i64 (v.c : Int), .int .i64 (v.d : Int)] 34) = W1) := hW1
 have hr := rright_any v.a v.b v.c v.d W1
 rw [right_of_ok hv] at hr
 have HPL : Hid (∀ W,Below w.heap.size w W → Calls Tryz.prog 63 #[.pointer (some ⟨R, 0,none⟩), .int .i64 id] W fun e w' => ∃ i : Nat,e = .returned (.tuple #[.int .i64 (i : Int), .bool (thereB id tb i)]) ∧ AtP id tb i ∧ Below W.heap.size W w') := fun W hW => place_ref W base R sv tb (h.below hW) hl id
 have HH : Hid (RefX w base R sv tb) := h
 have HU : Hid (Ups tb) := hu
 have HB1 : Hid (Blk W1 w.heap.size 34 #[.int .i64 (v.a : Int), .int .i64 (v.b : Int), .int .i64 (v.c : Int), .int .i64 (v.d : Int)]) := b1
 have HBE : Hid (Below w.heap.size w W1) := hb1
 obtain ⟨hi1,hi2⟩ := idB_true hid
 have hn1 : ¬ id < 0 := by omega
 have hn2 : ¬ 4611686018427387904 < id := by omega
 have d0 : W1.cell? ⟨w.heap.size, 0,none⟩ = some (.int .i64 (v.a : Int)) := b1.cell 0
 have d1 : W1.cell? ⟨w.heap.size, 1,none⟩ = some (.int .i64 (v.b : Int)) := b1.cell 1
 have d2 : W1.cell? ⟨w.heap.size, 2,none⟩ = some (.int .i64 (v.c : Int)) := b1.cell 2
 have d3 : W1.cell? ⟨w.heap.size, 3,none⟩ = some (.int .i64 (v.d : Int)) := b1.cell 3
 clear hW1 hb1 b1 h hu hid hi1 hi2
 go_enter Tryz.func34,Tryz.ntmps34
 go_upto_region 1 with fail
 rw [HW1.out]
 go_upto_region 9 with (first
  | (go_at_call 64; refine hr.mono ?_; rintro e w2 ⟨rfl,hb2⟩; have hb02 : Below w.heap.size w w2 := HBE.out.trans (hb2.mono HBE.out.size); have hpl := HPL.out w2 hb02)
  | (go_at_call 63; refine hpl.mono ?_; rintro e w3 ⟨i,rfl,hat,hb3⟩))
 have hb03 : Below w.heap.size w w3 := hb02.trans (hb3.mono hb02.size)
 have hb13 : Below W1.heap.size W1 w3 := hb2.trans (hb3.mono hb2.size)
 have b3 := HB1.out.below hb13 HB1.out.lt
 have h3 := HH.out.below hb03
 have hs3 := hb03.size
 have hil := hat.le
 have HAT : Hid (AtP id tb i) := hat
 have HB3 : Hid (Blk w3 w.heap.size 34 #[.int .i64 (v.a : Int), .int .i64 (v.b : Int), .int .i64 (v.c : Int), .int .i64 (v.d : Int)]) := b3
 have HB03 : Hid (Below w.heap.size w w3) := hb03
 have hbl := b3.lt
 clear hr d0 d1 d2 d3 hpl hat hb2 hb02 hb3 hb13
 have d0 : w3.cell? ⟨w.heap.size, 0,none⟩ = some (.int .i64 (v.a : Int)) := b3.cell 0
 have d1 : w3.cell? ⟨w.heap.size, 1,none⟩ = some (.int .i64 (v.b : Int)) := b3.cell 1
 have d2 : w3.cell? ⟨w.heap.size, 2,none⟩ = some (.int .i64 (v.c : Int)) := b3.cell 2
 have d3 : w3.cell? ⟨w.heap.size, 3,none⟩ = some (.int .i64 (v.d : Int)) := b3.cell 3
 have hRl := h3.blk.lt
 have hRw := HH.out.blk.lt
 obtain ⟨sa,sc,rfl,_,_,hcap⟩ := own_shape h3.row
 have c0 : w3.cell? ⟨R, 0,none⟩ = some (.slice sa tb.length sc) := h3.blk.cell 0
 have g0 : w3.frozen? ⟨R, 0,none⟩ = false := h3.blk.frozen 0
 have HR3 : Hid (RefX w3 base R (.slice sa tb.length sc) tb) := h3
 cases hth : thereB id tb i with
 | true =>
  obtain ⟨v0,hx⟩ := there_yes hth
  have hilt := (List.getElem?_eq_some_iff.1 hx).1
  have hilt' : (i : Int) < (tb.length : Int) := by omega
  obtain ⟨g,c1,e1,hge,hglt⟩ := h3.row.form (by omega)
  cases e1
  have y1 := own_cellR h3.row hx 1 _ rfl
  have y2 := own_cellR h3.row hx 2 _ rfl
  have y3 := own_cellR h3.row hx 3 _ rfl
  have y4 := own_cellR h3.row hx 4 _ rfl
  have z1 : w3.cell? ⟨g,i * 5 + 1,none⟩ = some (.int .i64 (v0.a : Int)) := y1.1
  have z2 : w3.cell? ⟨g,i * 5 + 2,none⟩ = some (.int .i64 (v0.b : Int)) := y2.1
  have z3 : w3.cell? ⟨g,i * 5 + 3,none⟩ = some (.int .i64 (v0.c : Int)) := y3.1
  have z4 : w3.cell? ⟨g,i * 5 + 4,none⟩ = some (.int .i64 (v0.d : Int)) := y4.1
  have q1 := y1.2
  have q2 := y2.2
  have q3 := y3.2
  have q4 := y4.2
  have HX : Hid (tb[i]? = some (id,v0)) := hx
  have hgR : g ≠ R := fun e => by
   obtain ⟨_,cs,hc⟩ := own_tagged h3.row (j := g) rfl
   exact tag_ne h3.blk hc (by decide) e
  have hgB : g ≠ w.heap.size := fun e => by
   obtain ⟨_,cs,hc⟩ := own_tagged h3.row (j := g) rfl
   exact tag_ne HB3.out hc (by decide) e
  obtain ⟨W5,hW5⟩ : ∃ W5,(((w3.setCell ⟨g,i * 5 + 1,none⟩ (.int .i64 (v.a : Int))).setCell ⟨g,i * 5 + 2,none⟩ (.int .i64 (v.b : Int))).setCell ⟨g,i * 5 + 3,none⟩ (.int .i64 (v.c : Int))).setCell ⟨g,i * 5 + 4,none⟩ (.int .i64 (v.d : Int)) = W5 := ⟨_,rfl⟩
  have o5 : Off (fun k => k = g) w3 W5 := by rw [← hW5]; exact (((((Off.refl (fun k => k = g) w3).setCell _ (.inl rfl)).setCell _ (.inl rfl)).setCell _ (.inl rfl)).setCell _ (.inl rfl))
  have hrow5 := own_set (own_set (own_set (own_set h3.row (i * 5 + 1) (.int .i64 (v.a : Int))) (i * 5 + 2) (.int .i64 (v.b : Int))) (i * 5 + 3) (.int .i64 (v.c : Int))) (i * 5 + 4) (.int .i64 (v.d : Int))
  have htk : (tb.take i).length = i := by rw [List.length_take]; omega
  have hnew : tput id v tb = tb.take i ++ (id,v) :: tb.drop (i + 1) := at_old HU.out hx
  have hrw := rowM_set (tb.take i) (tb.drop (i + 1)) id v0 v
  rw [← at_split hx,htk, ← hnew] at hrw
  have hlen : (tput id v tb).length = tb.length := tput_len HU.out (AtP.some HU.out hx)
  rw [hrw,hW5] at hrow5
  have bR5 : Blk W5 R 88 #[.slice (some ⟨g, 0,none⟩) tb.length sc] := h3.blk.off o5 (fun e => hgR e.symm)
  have HS5 : Hid (W5.cell? ⟨R, 0,none⟩ = some (.slice (some ⟨g, 0,none⟩) tb.length sc) ∧ W5.cell? ⟨w.heap.size, 0,none⟩ = some (.int .i64 (v.a : Int)) ∧ W5.cell? ⟨w.heap.size, 1,none⟩ = some (.int .i64 (v.b : Int)) ∧ W5.cell? ⟨w.heap.size, 2,none⟩ = some (.int .i64 (v.c : Int)) ∧ W5.cell? ⟨w.heap.size, 3,none⟩ = some (.int .i64 (v.d : Int))) := by
   have bb := HB3.out.off o5 (fun e => hgB e.symm)
   exact ⟨bR5.cell 0,bb.cell 0,bb.cell 1,bb.cell 2,bb.cell 3⟩
  have HFIN : Hid (RefP w W5 base R (.slice (some ⟨g, 0,none⟩) tb.length sc) (tput id v tb)) := by
   refine ⟨⟨.slice (some ⟨g, 0,none⟩) tb.length sc,⟨bR5,by rw [hlen]; exact hrow5⟩,fun j hj => .inl hj⟩,(Off.of_below HB03.out).step o5 (fun k _ hk => .inr (by rw [hk]; rfl))⟩
  have HW5 : Hid ((((w3.setCell ⟨g,i * 5 + 1,none⟩ (.int .i64 (v.a : Int))).setCell ⟨g,i * 5 + 2,none⟩ (.int .i64 (v.b : Int))).setCell ⟨g,i * 5 + 3,none⟩ (.int .i64 (v.c : Int))).setCell ⟨g,i * 5 + 4,none⟩ (.int .i64 (v.d : Int)) = W5) := hW5
  clear hW5 hrow5 hnew hrw hlen bR5 o5 y1 y2 y3 y4 h3 b3 hb03 hth hx htk
  go_upto_region 10 with fail
  go_region_held3 (fun W' => W'.cell? ⟨R, 0,none⟩ = some (.slice (some ⟨g, 0,none⟩) tb.length sc) ∧ W'.cell? ⟨w.heap.size, 0,none⟩ = some (.int .i64 (v.a : Int)) ∧ W'.cell? ⟨w.heap.size, 1,none⟩ = some (.int .i64 (v.b : Int)) ∧ W'.cell? ⟨w.heap.size, 2,none⟩ = some (.int .i64 (v.c : Int)) ∧ W'.cell? ⟨w.heap.size, 3,none⟩ = some (.int .i64 (v.d : Int)))
   (first
    | exact ⟨c0,d0,d1,d2,d3⟩
    | (rw [HW5.out]; exact HS5.out)
    | go_keep)
   (fail)
  rw [HW5.out]
  go_wp2
  go_ret
  exact ⟨rfl,HFIN.out.drew⟩
 | false =>
  have hnew : tput id v tb = tb.take i ++ (id,v) :: tb.drop i := HAT.out.new HU.out (there_no hth)
  have HNEW : Hid (tput id v tb = tb.take i ++ (id,v) :: tb.drop i) := hnew
  have HFIN : Hid (∀ W va vc,Off (fun k => w.heap.size ≤ k) w3 W → W.ownsRow w.heap.size 128 5 (.slice va (i + 1 + (tb.length - i)) vc) (i + 1 + (tb.length - i)) (rowM (tb.take i) ++ entM (id,v) ++ rowM (tb.drop i)) → RefP w (W.setCell ⟨R, 0,none⟩ (.slice va (i + 1 + (tb.length - i)) vc)) base R (.slice sa tb.length sc) (tput id v tb)) := fun W va vc ho hown => by
   have bR : Blk W R 88 #[.slice sa tb.length sc] := HR3.out.blk.off ho (by omega)
   have hl2 : (tput id v tb).length = i + 1 + (tb.length - i) := by rw [HNEW.out,List.length_append,List.length_take,List.length_cons,List.length_drop]; omega
   have hr2 : rowM (tput id v tb) = rowM (tb.take i) ++ entM (id,v) ++ rowM (tb.drop i) := by
    rw [HNEW.out,rowM_append]
    show rowM (tb.take i) ++ (entM (id,v) ++ rowM (tb.drop i)) = _
    rw [List.append_assoc]
   refine ⟨⟨_,⟨bR.set 0 _, ?_⟩,fun j hj => .inr (own_tagged hown hj).1⟩,((Off.of_below HB03.out).step ho (fun k hk h => by omega)).setCell _ (.inl (.inl rfl))⟩
   rw [hl2,hr2]
   exact own_mono (own_other hown bR (by decide) _) hbase
  have HSD : Hid (∀ W,Off (fun k => w.heap.size ≤ k) w3 W → W.ownsRow base 128 5 (.slice sa tb.length sc) tb.length (rowM tb)) := fun W ho => own_offv HR3.out.row ho (fun j hj h => by have := own_lt2 HH.out.row hj; omega)
  have HC0 : Hid (∀ W,Off (fun k => w.heap.size ≤ k) w3 W → W.cell? ⟨R, 0,none⟩ = some (.slice sa tb.length sc) ∧ W.frozen? ⟨R, 0,none⟩ = false) := fun W ho => by
   have bR : Blk W R 88 #[.slice sa tb.length sc] := HR3.out.blk.off ho (by omega)
   exact ⟨bR.cell 0,bR.frozen 0⟩
  have HD : Hid (∀ W w',Off (fun k => w.heap.size ≤ k) w3 W → W.grownBy w' none → Off (fun k => w.heap.size ≤ k) w3 w') := fun W w' ho hg => ho.grown hg (fun j hj => by cases hj)
  clear hnew hth b3 h3 hb03
  rcases sa with _ | ⟨⟨g,o,x⟩⟩
  ·have hnil : tb.length = 0 ∧ sc = 0 := by
    obtain ⟨_,⟨e,hn⟩ | ⟨g,cap,cur,e,_⟩⟩ := HR3.out.row
    ·injection e with _ _ e3; exact ⟨hn,e3⟩
    ·injection e with e1; cases e1
   obtain ⟨htl,rfl⟩ := hnil
   have hi0' : i = 0 := by omega
   have htb : tb = [] := List.eq_nil_of_length_eq_zero htl
   subst hi0'
   subst htb
   have HF2 : Hid (∀ W va vc,Off (fun k => w.heap.size ≤ k) w3 W → W.ownsRow w.heap.size 128 5 (.slice va 1 vc) 1 (entM (id,v)) → RefP w (W.setCell ⟨R, 0,none⟩ (.slice va 1 vc)) base R (.slice none 0 0) (tput id v [])) := fun W va vc ho hown => HFIN.out W va vc ho (by simpa [rowM] using hown)
   simp only [List.length_nil] at c0
   have HC2 : Hid (∀ W,Off (fun k => w.heap.size ≤ k) w3 W → W.cell? ⟨R, 0,none⟩ = some (.slice none 0 0) ∧ W.frozen? ⟨R, 0,none⟩ = false) := HC0.out
   have hblk4 : Blk (w3.alloc (.cells #[.int .i64 id, .int .i64 (v.a : Int), .int .i64 (v.b : Int), .int .i64 (v.c : Int), .int .i64 (v.d : Int)] 128)) w3.heap.size 128 #[.int .i64 id, .int .i64 (v.a : Int), .int .i64 (v.b : Int), .int .i64 (v.c : Int), .int .i64 (v.d : Int)] := Blk.new w3 128 _
   clear HC0 HFIN HSD hil hcap htl
   go_upto_region 14 with fail
   go_upto_region 15 with (at_builtin; refine wpList_append_src _ rfl (.tmp 49) (.tmp 53) 86 rfl w.heap.size 128 i0 _ 5 40 Tryz.underlying86 hi0 hz0 hz1 hz2 rfl (by omega) _ 0 _ rfl ((World.ownsRow_nil _ _ _ _)) _ 1 _ rfl (src_ent hblk4) (by unfold maxLen; omega) (by omega) (by first | omega | (simp; omega)) ?_; intro va5 vc5 w5 hown5 hg5)
   simp only [Nat.zero_add,List.nil_append] at hown5
   have o5 : Off (fun k => w.heap.size ≤ k) w3 w5 := ((Off.refl _ w3).alloc _).grown hg5 (fun j hj => by cases hj)
   have hs5 := o5.size
   have hc5 := (HC2.out w5 o5).1
   have hf5 := (HC2.out w5 o5).2
   have hRl5 : R < w5.heap.size := by omega
   have hfin := HF2.out w5 va5 vc5 o5 hown5
   go_wp2_with (at_builtin; refine wpList_append_own_none rfl (.tmp 56) (.tmp 62) 86 rfl w.heap.size 128 i0 5 Tryz.underlying86 hi0 _ 1 _ rfl hown5 rfl ?_)
   go_ret
   exact ⟨rfl,hfin⟩
  ·have hgo : o = 0 ∧ x = none ∧ g < w3.heap.size := by
    obtain ⟨_,⟨e,hn⟩ | ⟨g',cap,cur,e,_⟩⟩ := HR3.out.row
    ·cases e
    ·injection e with e1; cases e1
     exact ⟨rfl,rfl,(own_lt HR3.out.row).2⟩
   obtain ⟨rfl,rfl,hgl⟩ := hgo
   have hic : (i : Int) ≤ (sc : Int) := by omega
   have hic2 : (i : Int) ≤ (tb.length : Int) := by omega
   by_cases hsc : sc = i
   ·subst hsc
    have htl : tb.length = sc := by omega
    have HS2 : Hid (∀ W c,Src W 5 (.slice (some ⟨g, 0,none⟩) (tb.length - sc) c) (tb.length - sc) (rowM (tb.drop sc))) := fun W c => by
     have : tb.drop sc = [] := List.drop_eq_nil_of_le (by omega)
     rw [this,show tb.length - sc = 0 by omega]; exact src_none
    have HS3 : Hid (∀ W c,Src W 5 (.slice (some ⟨g, 0,none⟩) 0 c) (tb.length - sc) (rowM (tb.drop sc))) := fun W c => by
     have := HS2.out W c
     rw [show tb.length - sc = 0 by omega] at this ⊢; exact this
    have HTL : Hid (tb.length = sc) := htl
    have HL2 : Hid (sc + 1 + (tb.length - sc) = sc + 1) := by show _ = _; omega
    clear htl
    go_upto_region 14 with (at_builtin; refine wpList_append_src _ rfl (.tmp 41) (.tmp 47) 86 rfl w.heap.size 128 i0 _ 5 40 Tryz.underlying86 hi0 hz0 hz1 hz2 rfl (by omega) _ 0 _ rfl (World.ownsRow_nil _ _ _ _) _ sc _ rfl (src_take HR3.out.row hil) (by unfold maxLen; omega) (by omega) (by first | omega | (simp; omega)) ?_; intro va4 vc4 w4 hown4 hg4)
    simp only [Nat.zero_add,List.nil_append] at hown4
    have o4 : Off (fun k => w.heap.size ≤ k) w3 w4 := (Off.refl _ w3).grown hg4 (fun j hj => .inl (own_tagged (World.ownsRow_nil w3 w.heap.size 128 5) hj).1)
    have hs4 := o4.size
    have b4 : Blk w4 w.heap.size 34 #[.int .i64 (v.a : Int), .int .i64 (v.b : Int), .int .i64 (v.c : Int), .int .i64 (v.d : Int)] := HB3.out.grown hg4 (fun j hj => by cases hj)
    have k0 : w4.cell? ⟨w.heap.size, 0,none⟩ = some (.int .i64 (v.a : Int)) := b4.cell 0
    have k1 : w4.cell? ⟨w.heap.size, 1,none⟩ = some (.int .i64 (v.b : Int)) := b4.cell 1
    have k2 : w4.cell? ⟨w.heap.size, 2,none⟩ = some (.int .i64 (v.c : Int)) := b4.cell 2
    have k3 : w4.cell? ⟨w.heap.size, 3,none⟩ = some (.int .i64 (v.d : Int)) := b4.cell 3
    have kl := b4.lt
    have hcR := (HC0.out w4 o4).1
    have hRl4 : R < w4.heap.size := by omega
    have hblk4 : Blk (w4.alloc (.cells #[.int .i64 id, .int .i64 (v.a : Int), .int .i64 (v.b : Int), .int .i64 (v.c : Int), .int .i64 (v.d : Int)] 128)) w4.heap.size 128 #[.int .i64 id, .int .i64 (v.a : Int), .int .i64 (v.b : Int), .int .i64 (v.c : Int), .int .i64 (v.d : Int)] := Blk.new w4 128 _
    go_upto_region 15 with (at_builtin; refine wpList_append_src _ rfl (.tmp 49) (.tmp 53) 86 rfl w.heap.size 128 i0 _ 5 40 Tryz.underlying86 hi0 hz0 hz1 hz2 rfl (by omega) _ sc _ rfl (hown4.alloc _) _ 1 _ rfl (src_ent hblk4) (by unfold maxLen; omega) (by omega) (by first | omega | (simp; omega)) ?_; intro va5 vc5 w5 hown5 hg5)
    have o5 : Off (fun k => w.heap.size ≤ k) w3 w5 := (o4.alloc _).grown hg5 (fun j hj => .inl (own_tagged hown4 hj).1)
    have hs5 := o5.size
    have hc5 := (HC0.out w5 o5).1
    have hRl5 : R < w5.heap.size := by omega
    have hsd5 := HSD.out w5 o5
    go_upto_region 16 with (at_builtin; refine wpList_append_src _ rfl (.tmp 56) (.tmp 62) 86 rfl w.heap.size 128 i0 _ 5 40 Tryz.underlying86 hi0 hz0 hz1 hz2 rfl (by omega) _ (sc + 1) _ rfl hown5 _ (tb.length - sc) _ rfl (by first | exact HS2.out _ _ | exact HS3.out _ _) (by unfold maxLen; omega) (by omega) (by first | omega | (simp; omega)) ?_; intro va6 vc6 w6 hown6 hg6; have o6 : Off (fun k => w.heap.size ≤ k) w3 w6 := o5.grown hg6 (fun j hj => .inl (own_tagged hown5 hj).1); have hc6 := (HC0.out w6 o6).1; have hf6 := (HC0.out w6 o6).2; have hRl6 : R < w6.heap.size := (by have := o6.size; omega))
    have hfin := HFIN.out w6 va6 vc6 o6 hown6
    go_wp2
    go_ret
    rw [HL2.out] at hfin
    exact ⟨rfl,hfin⟩
   ·have HS2 : Hid (∀ W,Off (fun k => w.heap.size ≤ k) w3 W → Src W 5 (.slice (some ⟨g,i * 5,none⟩) (tb.length - i) (sc - i)) (tb.length - i) (rowM (tb.drop i))) := fun W ho => src_drop (HSD.out W ho) hil _
    go_upto_region 14 with (at_builtin; refine wpList_append_src _ rfl (.tmp 41) (.tmp 47) 86 rfl w.heap.size 128 i0 _ 5 40 Tryz.underlying86 hi0 hz0 hz1 hz2 rfl (by omega) _ 0 _ rfl (World.ownsRow_nil _ _ _ _) _ i _ rfl (src_take HR3.out.row hil) (by unfold maxLen; omega) (by omega) (by first | omega | (simp; omega)) ?_; intro va4 vc4 w4 hown4 hg4)
    simp only [Nat.zero_add,List.nil_append] at hown4
    have o4 : Off (fun k => w.heap.size ≤ k) w3 w4 := (Off.refl _ w3).grown hg4 (fun j hj => .inl (own_tagged (World.ownsRow_nil w3 w.heap.size 128 5) hj).1)
    have hs4 := o4.size
    have b4 : Blk w4 w.heap.size 34 #[.int .i64 (v.a : Int), .int .i64 (v.b : Int), .int .i64 (v.c : Int), .int .i64 (v.d : Int)] := HB3.out.grown hg4 (fun j hj => by cases hj)
    have k0 : w4.cell? ⟨w.heap.size, 0,none⟩ = some (.int .i64 (v.a : Int)) := b4.cell 0
    have k1 : w4.cell? ⟨w.heap.size, 1,none⟩ = some (.int .i64 (v.b : Int)) := b4.cell 1
    have k2 : w4.cell? ⟨w.heap.size, 2,none⟩ = some (.int .i64 (v.c : Int)) := b4.cell 2
    have k3 : w4.cell? ⟨w.heap.size, 3,none⟩ = some (.int .i64 (v.d : Int)) := b4.cell 3
    have kl := b4.lt
    have hcR := (HC0.out w4 o4).1
    have hRl4 : R < w4.heap.size := by omega
    have hblk4 : Blk (w4.alloc (.cells #[.int .i64 id, .int .i64 (v.a : Int), .int .i64 (v.b : Int), .int .i64 (v.c : Int), .int .i64 (v.d : Int)] 128)) w4.heap.size 128 #[.int .i64 id, .int .i64 (v.a : Int), .int .i64 (v.b : Int), .int .i64 (v.c : Int), .int .i64 (v.d : Int)] := Blk.new w4 128 _
    go_upto_region 15 with (at_builtin; refine wpList_append_src _ rfl (.tmp 49) (.tmp 53) 86 rfl w.heap.size 128 i0 _ 5 40 Tryz.underlying86 hi0 hz0 hz1 hz2 rfl (by omega) _ i _ rfl (hown4.alloc _) _ 1 _ rfl (src_ent hblk4) (by unfold maxLen; omega) (by omega) (by first | omega | (simp; omega)) ?_; intro va5 vc5 w5 hown5 hg5)
    have o5 : Off (fun k => w.heap.size ≤ k) w3 w5 := (o4.alloc _).grown hg5 (fun j hj => .inl (own_tagged hown4 hj).1)
    have hs5 := o5.size
    have hc5 := (HC0.out w5 o5).1
    have hRl5 : R < w5.heap.size := by omega
    have hsd5 := HSD.out w5 o5
    go_upto_region 16 with (at_builtin; refine wpList_append_src _ rfl (.tmp 56) (.tmp 62) 86 rfl w.heap.size 128 i0 _ 5 40 Tryz.underlying86 hi0 hz0 hz1 hz2 rfl (by omega) _ (i + 1) _ rfl hown5 _ (tb.length - i) _ rfl (by first | exact HS2.out w5 o5 | (simpa using HS2.out w5 o5)) (by unfold maxLen; omega) (by omega) (by first | omega | (simp; omega)) ?_; intro va6 vc6 w6 hown6 hg6; have o6 : Off (fun k => w.heap.size ≤ k) w3 w6 := o5.grown hg6 (fun j hj => .inl (own_tagged hown5 hj).1); have hc6 := (HC0.out w6 o6).1; have hf6 := (HC0.out w6 o6).2; have hRl6 : R < w6.heap.size := (by have := o6.size; omega))
    have hfin := HFIN.out w6 va6 vc6 o6 hown6
    go_wp2
    go_ret
    exact ⟨rfl,hfin⟩
end
section
def delE (id : Int) (tb : List (Int × Box)) : Int := if (tget id tb).isSome = true then 0 else 9
set_option maxRecDepth 100000 in
set_option maxHeartbeats 4000000 in
theorem rdel_no (w : World) (R : Nat) (id : Int) (hid : idB id = false) :
  Calls Tryz.prog 36 #[.pointer (some ⟨R, 0,none⟩), .int .i64 id] w fun e w' => e = .returned (.int .i64 8) ∧ Below w.heap.size w w' := by
 rcases idB_false hid with hlt | hgt
 ·clear hid
  go_enter Tryz.func36,Tryz.ntmps36
  go_wp2
  go_ret
  exact ⟨rfl,Below.refl _ _⟩
 ·have hn : ¬ id < 0 := by omega
  clear hid
  go_enter Tryz.func36,Tryz.ntmps36
  go_wp2
  go_ret
  exact ⟨rfl,Below.refl _ _⟩
set_option maxRecDepth 100000 in
set_option maxHeartbeats 4000000 in
theorem rdel_ref (w : World) (base R : Nat) (sv : Value) (tb : List (Int × Box)) (h : RefX w base R sv tb) (hu : Ups tb) (hl : tb.length ≤ 1000000) (hbase : base ≤ w.heap.size) (id : Int) (hid : idB id = true) :
  Calls Tryz.prog 36 #[.pointer (some ⟨R, 0,none⟩), .int .i64 id] w fun e w' => e = .returned (.int .i64 (delE id tb)) ∧ RefP w w' base R sv (tdel id tb) := by
 obtain ⟨i0,hi0,hz0,hz1,hz2⟩ := info_parts info128
 have hpl := place_ref w base R sv tb h hl id
 have HH : Hid (RefX w base R sv tb) := h
 have HU : Hid (Ups tb) := hu
 obtain ⟨hi1,hi2⟩ := idB_true hid
 have hn1 : ¬ id < 0 := by omega
 have hn2 : ¬ 4611686018427387904 < id := by omega
 clear h hu hid hi1 hi2
 go_enter Tryz.func36,Tryz.ntmps36
 go_upto_region 6 with (go_at_call 63; refine hpl.mono ?_; rintro e w3 ⟨i,rfl,hat,hb03⟩)
 have h3 := HH.out.below hb03
 have hs3 := hb03.size
 have hil := hat.le
 have HAT : Hid (AtP id tb i) := hat
 have HB03 : Hid (Below w.heap.size w w3) := hb03
 have hRl := h3.blk.lt
 have hRw := HH.out.blk.lt
 clear hpl hat
 cases hth : thereB id tb i with
 | false =>
  have hno := HAT.out.none HU.out (there_no hth)
  have hdel : tdel id tb = tb := f_all tb (fun t ht => by have := tget_none.1 hno t ht; simpa using this)
  have HE : Hid (delE id tb = 9) := by show _ = _; unfold delE; rw [hno]; rfl
  have HF : Hid (RefP w w3 base R sv (tdel id tb)) := by show RefP _ _ _ _ _ _; rw [hdel]; exact HH.out.idle HB03.out
  clear hth hno hdel h3 hb03
  go_wp2
  go_ret
  exact ⟨by rw [HE.out]; rfl,HF.out⟩
 | true =>
  obtain ⟨v0,hx⟩ := there_yes hth
  have hyes := AtP.some HU.out hx
  have HE : Hid (delE id tb = 0) := by show _ = _; unfold delE; rw [hyes]; rfl
  have hilt := (List.getElem?_eq_some_iff.1 hx).1
  have hilt' : (i : Int) < (tb.length : Int) := by omega
  have HNEW : Hid (tdel id tb = tb.take i ++ tb.drop (i + 1)) := at_del HU.out hx
  obtain ⟨g,sc,rfl,hge,hglt⟩ := h3.row.form (by omega)
  obtain ⟨_,_,e1,_,_,hcap⟩ := own_shape h3.row
  cases e1
  have c0 : w3.cell? ⟨R, 0,none⟩ = some (.slice (some ⟨g, 0,none⟩) tb.length sc) := h3.blk.cell 0
  have HR3 : Hid (RefX w3 base R (.slice (some ⟨g, 0,none⟩) tb.length sc) tb) := h3
  have HFIN : Hid (∀ W va vc,Off (fun k => w.heap.size ≤ k) w3 W → W.ownsRow w.heap.size 128 5 (.slice va (i + (tb.length - (i + 1))) vc) (i + (tb.length - (i + 1))) (rowM (tb.take i) ++ rowM (tb.drop (i + 1))) → RefP w (W.setCell ⟨R, 0,none⟩ (.slice va (i + (tb.length - (i + 1))) vc)) base R (.slice (some ⟨g, 0,none⟩) tb.length sc) (tdel id tb)) := fun W va vc ho hown => by
   have bR : Blk W R 88 #[.slice (some ⟨g, 0,none⟩) tb.length sc] := HR3.out.blk.off ho (by omega)
   have hl2 : (tdel id tb).length = i + (tb.length - (i + 1)) := by rw [HNEW.out,List.length_append,List.length_take,List.length_drop]; omega
   have hr2 : rowM (tdel id tb) = rowM (tb.take i) ++ rowM (tb.drop (i + 1)) := by rw [HNEW.out,rowM_append]
   refine ⟨⟨_,⟨bR.set 0 _, ?_⟩,fun j hj => .inr (own_tagged hown hj).1⟩,((Off.of_below HB03.out).step ho (fun k hk h => by omega)).setCell _ (.inl (.inl rfl))⟩
   rw [hl2,hr2]
   exact own_mono (own_other hown bR (by decide) _) hbase
  have HSD : Hid (∀ W,Off (fun k => w.heap.size ≤ k) w3 W → W.ownsRow base 128 5 (.slice (some ⟨g, 0,none⟩) tb.length sc) tb.length (rowM tb)) := fun W ho => own_offv HR3.out.row ho (fun j hj h => by have := own_lt2 HH.out.row hj; omega)
  have HC0 : Hid (∀ W,Off (fun k => w.heap.size ≤ k) w3 W → W.cell? ⟨R, 0,none⟩ = some (.slice (some ⟨g, 0,none⟩) tb.length sc) ∧ W.frozen? ⟨R, 0,none⟩ = false) := fun W ho => by
   have bR : Blk W R 88 #[.slice (some ⟨g, 0,none⟩) tb.length sc] := HR3.out.blk.off ho (by omega)
   exact ⟨bR.cell 0,bR.frozen 0⟩
  have hic : (i : Int) ≤ (sc : Int) := by omega
  have hic2 : (i : Int) ≤ (tb.length : Int) := by omega
  clear hth hx hyes h3 hb03
  go_upto_region 10 with (at_builtin; refine wpList_append_src _ rfl (.tmp 26) (.tmp 32) 86 rfl w.heap.size 128 i0 _ 5 40 Tryz.underlying86 hi0 hz0 hz1 hz2 rfl (by omega) _ 0 _ rfl (World.ownsRow_nil _ _ _ _) _ i _ rfl (src_take HR3.out.row hil) (by unfold maxLen; omega) (by omega) (by first | omega | (simp; omega)) ?_; intro va4 vc4 w4 hown4 hg4)
  simp only [Nat.zero_add,List.nil_append] at hown4
  have o4 : Off (fun k => w.heap.size ≤ k) w3 w4 := (Off.refl _ w3).grown hg4 (fun j hj => by cases hj)
  have hs4 := o4.size
  have hc4 := (HC0.out w4 o4).1
  have hRl4 : R < w4.heap.size := by omega
  have q2 : ((i : Int) + 1) ≤ (tb.length : Int) := by omega
  have q3 : ((i : Int) + 1) ≤ (sc : Int) := by omega
  by_cases hsc : sc = i + 1
  ·subst hsc
   have HS2 : Hid (∀ W c,Src W 5 (.slice (some ⟨g, 0,none⟩) (tb.length - (i + 1)) c) (tb.length - (i + 1)) (rowM (tb.drop (i + 1)))) := fun W c => by
    have : tb.drop (i + 1) = [] := List.drop_eq_nil_of_le (by omega)
    rw [this,show tb.length - (i + 1) = 0 by omega]; exact src_none
   have HS3 : Hid (∀ W c,Src W 5 (.slice (some ⟨g, 0,none⟩) 0 c) (tb.length - (i + 1)) (rowM (tb.drop (i + 1)))) := fun W c => by
    have := HS2.out W c
    rw [show tb.length - (i + 1) = 0 by omega] at this ⊢; exact this
   have HL2 : Hid (i + (tb.length - (i + 1)) = i) := by show _ = _; omega
   go_upto_region 11 with (at_builtin; refine wpList_append_src _ rfl (.tmp 35) (.tmp 42) 86 rfl w.heap.size 128 i0 _ 5 40 Tryz.underlying86 hi0 hz0 hz1 hz2 rfl (by omega) _ i _ rfl hown4 _ (tb.length - (i + 1)) _ rfl (by first | exact HS2.out _ _ | exact HS3.out _ _) (by unfold maxLen; omega) (by omega) (by first | omega | (simp; omega)) ?_; intro va6 vc6 w6 hown6 hg6; have o6 : Off (fun k => w.heap.size ≤ k) w3 w6 := o4.grown hg6 (fun j hj => .inl (own_tagged hown4 hj).1); have hc6 := (HC0.out w6 o6).1; have hf6 := (HC0.out w6 o6).2; have hRl6 : R < w6.heap.size := (by have := o6.size; omega))
   have hfin := HFIN.out w6 va6 vc6 o6 hown6
   go_wp2
   go_ret
   first
    | exact ⟨by rw [HE.out]; rfl,hfin⟩
    | (rw [HL2.out] at hfin; exact ⟨by rw [HE.out]; rfl,hfin⟩)
  ·have HS2 : Hid (∀ W,Off (fun k => w.heap.size ≤ k) w3 W → ∀ c,Src W 5 (.slice (some ⟨g,(i + 1) * 5,none⟩) (tb.length - (i + 1)) c) (tb.length - (i + 1)) (rowM (tb.drop (i + 1)))) := fun W ho c => src_drop (HSD.out W ho) (by omega) c
   go_upto_region 11 with (at_builtin; refine wpList_append_src _ rfl (.tmp 35) (.tmp 42) 86 rfl w.heap.size 128 i0 _ 5 40 Tryz.underlying86 hi0 hz0 hz1 hz2 rfl (by omega) _ i _ rfl hown4 _ (tb.length - (i + 1)) _ rfl (by first | exact HS2.out w4 o4 _ | (simpa using HS2.out w4 o4 _)) (by unfold maxLen; omega) (by omega) (by first | omega | (simp; omega)) ?_; intro va6 vc6 w6 hown6 hg6; have o6 : Off (fun k => w.heap.size ≤ k) w3 w6 := o4.grown hg6 (fun j hj => .inl (own_tagged hown4 hj).1); have hc6 := (HC0.out w6 o6).1; have hf6 := (HC0.out w6 o6).2; have hRl6 : R < w6.heap.size := (by have := o6.size; omega))
   have hfin := HFIN.out w6 va6 vc6 o6 hown6
   go_wp2
   go_ret
   exact ⟨by rw [HE.out]; rfl,hfin⟩
end
section
theorem winL_more {r : Box} {T : List (Int × Box)} {x : Int × Box} : winL r (T ++ [x]) = winL r T ++ (if (both x.2 r).ok then [x.1] else []) := by
 unfold winL
 rw [List.filter_append,List.map_append]
 congr 1
 by_cases h : (both x.2 r).ok
 ·simp [h]
 ·simp [h]
theorem winL_len {r : Box} {tb : List (Int × Box)} : (winL r tb).length ≤ tb.length := by
 unfold winL
 rw [List.length_map]
 exact List.length_filter_le ..
set_option maxRecDepth 100000 in
set_option maxHeartbeats 2000000 in
theorem rwin_no (w : World) (R : Nat) (a b c d : Int) (hri : rightB a b c d = false) :
  Calls Tryz.prog 39 #[.pointer (some ⟨R, 0,none⟩), .agg #[.int .i64 a, .int .i64 b, .int .i64 c, .int .i64 d]] w fun e w' => e = .returned (.tuple #[.slice none 0 0, .int .i64 6]) ∧ Below w.heap.size w w' := by
 obtain ⟨W1,hW1⟩ : ∃ W1,w.alloc (.cells #[.int .i64 a, .int .i64 b, .int .i64 c, .int .i64 d] 34) = W1 := ⟨_,rfl⟩
 have hb1 : Below w.heap.size w W1 := by rw [← hW1]; exact (Below.refl _ w).alloc (Nat.le_refl _) _
 have b1 : Blk W1 w.heap.size 34 #[.int .i64 a, .int .i64 b, .int .i64 c, .int .i64 d] := by rw [← hW1]; exact Blk.new w 34 _
 have HW1 : Hid (w.alloc (.cells #[.int .i64 a, .int .i64 b, .int .i64 c, .int .i64 d] 34) = W1) := hW1
 have HBE : Hid (Below w.heap.size w W1) := hb1
 have d0 : W1.cell? ⟨w.heap.size, 0,none⟩ = some (.int .i64 a) := b1.cell 0
 have d1 : W1.cell? ⟨w.heap.size, 1,none⟩ = some (.int .i64 b) := b1.cell 1
 have d2 : W1.cell? ⟨w.heap.size, 2,none⟩ = some (.int .i64 c) := b1.cell 2
 have d3 : W1.cell? ⟨w.heap.size, 3,none⟩ = some (.int .i64 d) := b1.cell 3
 have hr := rright_any a b c d W1
 rw [hri] at hr
 clear hW1 hb1 b1 hri
 go_enter Tryz.func39,Tryz.ntmps39
 go_upto_region 1 with fail
 rw [HW1.out]
 go_wp2_with (go_at_call 64; refine hr.mono ?_; rintro e w2 ⟨rfl,hb2⟩)
 go_ret2
 exact ⟨rfl,HBE.out.trans (hb2.mono HBE.out.size)⟩
set_option maxRecDepth 100000 in
set_option maxHeartbeats 4000000 in
theorem rwin_ref (w : World) (base R : Nat) (sv : Value) (tb : List (Int × Box)) (h : RefX w base R sv tb) (hl : tb.length ≤ 1000000) (hok : ∀ t ∈ tb,t.2.ok) (r : Box) (hr : r.ok) :
  Calls Tryz.prog 39 #[.pointer (some ⟨R, 0,none⟩), .agg (boxC r)] w fun e w' => ∃ u,e = .returned (.tuple #[u, .int .i64 0]) ∧ w'.ownsRow w.heap.size 3 1 u (winL r tb).length (intsV (winL r tb)) ∧ Below w.heap.size w w' := by
 obtain ⟨i3,hi3,hz3a,hz3b,hz3c⟩ := info_parts info3
 obtain ⟨W1,hW1⟩ : ∃ W1,w.alloc (.cells #[.int .i64 (r.a : Int), .int .i64 (r.b : Int), .int .i64 (r.c : Int), .int .i64 (r.d : Int)] 34) = W1 := ⟨_,rfl⟩
 have hb1 : Below w.heap.size w W1 := by rw [← hW1]; exact (Below.refl _ w).alloc (Nat.le_refl _) _
 have b1 : Blk W1 w.heap.size 34 #[.int .i64 (r.a : Int), .int .i64 (r.b : Int), .int .i64 (r.c : Int), .int .i64 (r.d : Int)] := by rw [← hW1]; exact Blk.new w 34 _
 have HW1 : Hid (w.alloc (.cells #[.int .i64 (r.a : Int), .int .i64 (r.b : Int), .int .i64 (r.c : Int), .int .i64 (r.d : Int)] 34) = W1) := hW1
 have hrt := rright_any r.a r.b r.c r.d W1
 rw [right_of_ok hr] at hrt
 have d0 : W1.cell? ⟨w.heap.size, 0,none⟩ = some (.int .i64 (r.a : Int)) := b1.cell 0
 have d1 : W1.cell? ⟨w.heap.size, 1,none⟩ = some (.int .i64 (r.b : Int)) := b1.cell 1
 have d2 : W1.cell? ⟨w.heap.size, 2,none⟩ = some (.int .i64 (r.c : Int)) := b1.cell 2
 have d3 : W1.cell? ⟨w.heap.size, 3,none⟩ = some (.int .i64 (r.d : Int)) := b1.cell 3
 obtain ⟨sa,sc,rfl,_,_,_⟩ := own_shape h.row
 have HH : Hid (RefX w base R (.slice sa tb.length sc) tb) := h
 have HOK : Hid (∀ t ∈ tb,t.2.ok) := hok
 have HB1 : Hid (Blk W1 w.heap.size 34 #[.int .i64 (r.a : Int), .int .i64 (r.b : Int), .int .i64 (r.c : Int), .int .i64 (r.d : Int)]) := b1
 have HBE : Hid (Below w.heap.size w W1) := hb1
 have HCE : Hid (∀ W,Below w.heap.size w W → W.cell? ⟨R, 0,none⟩ = some (.slice sa tb.length sc) ∧ R < W.heap.size) := fun W hW => ⟨(HH.out.below hW).blk.cell 0,(HH.out.below hW).blk.lt⟩
 have HBX : Hid (∀ W,Below W1.heap.size W1 W → (W.cell? ⟨w.heap.size, 0,none⟩ = some (.int .i64 (r.a : Int)) ∧ W.cell? ⟨w.heap.size, 1,none⟩ = some (.int .i64 (r.b : Int)) ∧ W.cell? ⟨w.heap.size, 2,none⟩ = some (.int .i64 (r.c : Int)) ∧ W.cell? ⟨w.heap.size, 3,none⟩ = some (.int .i64 (r.d : Int))) ∧ w.heap.size < W.heap.size) := fun W hW => by
  have b := HB1.out.below hW HB1.out.lt
  exact ⟨⟨b.cell 0,b.cell 1,b.cell 2,b.cell 3⟩,b.lt⟩
 clear hW1 hb1 b1 h hok
 go_enter Tryz.func39,Tryz.ntmps39
 go_upto_region 1 with fail
 rw [HW1.out]
 go_upto_region 7 with (go_at_call 64; refine hrt.mono ?_; rintro e w2 ⟨rfl,hb2⟩)
 have HB2 : Hid (Below W1.heap.size W1 w2) := hb2
 have hs1 := HBE.out.size
 clear hrt d0 d1 d2 d3 hb2
 go_wp2
 go_loopw [7, 8] (fun s x wr => ∃ i : Nat,x = .int .i64 (i : Int) ∧ i ≤ tb.length ∧ Below W1.heap.size W1 wr ∧ wr.ownsRow W1.heap.size 3 1 s (winL r (tb.take i)).length (intsV (winL r (tb.take i)))) (fun _ x _ => tb.length - (intOf x).toNat)
 case atStart => exact ⟨0,rfl,Nat.zero_le _,HB2.out,by simp only [List.take_zero]; exact World.ownsRow_nil _ _ _ _⟩
 case round =>
  obtain ⟨i,rfl,hi,hB,hrow⟩ := hrel
  have hBw : Below w.heap.size w wr := HBE.out.trans (hB.mono HBE.out.size)
  obtain ⟨cR,lR⟩ := HCE.out wr hBw
  have hsw := hB.size
  have HB : Hid (Below W1.heap.size W1 wr) := hB
  have HBW : Hid (Below w.heap.size w wr) := hBw
  have hwl : (winL r (tb.take i)).length ≤ i := by have := @winL_len r (tb.take i); rw [List.length_take] at this; omega
  obtain ⟨P,hP⟩ : ∃ P,winL r (tb.take i) = P := ⟨_,rfl⟩
  have HP : Hid (winL r (tb.take i) = P) := hP
  rw [hP] at hrow hwl
  obtain ⟨oa,oc,rfl,_,_,_⟩ := own_shape hrow
  have HROW : Hid (wr.ownsRow W1.heap.size 3 1 (.slice oa P.length oc) P.length (intsV P)) := hrow
  clear hP hrow hB hBw
  by_cases hlt : i < tb.length
  ·have hlt' : (i : Int) < (tb.length : Int) := by omega
   obtain ⟨x,hx⟩ : ∃ x,tb[i]? = some x := ⟨_,List.getElem?_eq_getElem hlt⟩
   have hh := (HH.out.below HBW.out).row
   have hsa : ∃ g,sa = some ⟨g, 0,none⟩ := by
    obtain ⟨_,⟨e,hn⟩ | ⟨g,cap,cur,e,_⟩⟩ := hh
    ·omega
    ·cases e; exact ⟨g,rfl⟩
   obtain ⟨g,rfl⟩ := hsa
   have hgl := (own_lt hh).2
   have HXC : Hid (∀ W,Below wr.heap.size wr W → W.cell? ⟨g,i * 5,none⟩ = some (.int .i64 x.1) ∧ W.cell? ⟨g,i * 5 + 1,none⟩ = some (.int .i64 (x.2.a : Int)) ∧ W.cell? ⟨g,i * 5 + 2,none⟩ = some (.int .i64 (x.2.b : Int)) ∧ W.cell? ⟨g,i * 5 + 3,none⟩ = some (.int .i64 (x.2.c : Int)) ∧ W.cell? ⟨g,i * 5 + 4,none⟩ = some (.int .i64 (x.2.d : Int)) ∧ g < W.heap.size) := fun W hW => by
    have q := own_below hh hW
    exact ⟨(own_cellR q hx 0 _ rfl).1,(own_cellR q hx 1 _ rfl).1,(own_cellR q hx 2 _ rfl).1,(own_cellR q hx 3 _ rfl).1,(own_cellR q hx 4 _ rfl).1,(own_lt q).2⟩
   have HT : Hid (winL r (tb.take (i + 1)) = P ++ (if (both x.2 r).ok then [x.1] else [])) := by show _ = _; rw [take_get hx,winL_more,HP.out]
   have hxo := HOK.out x (List.mem_of_getElem? hx)
   have hmt := rmeet_any wr.drew x.2 r hxo
   obtain ⟨y0,y1,y2,y3,y4,_⟩ := HXC.out wr (Below.refl _ _)
   obtain ⟨⟨d0,d1,d2,d3⟩,hbl⟩ := HBX.out wr HB.out
   have HS : Hid (∀ W,Below wr.heap.size wr W → W.cell? ⟨R, 0,none⟩ = some (.slice (some ⟨g, 0,none⟩) tb.length sc) ∧ W.cell? ⟨g,i * 5 + 1,none⟩ = some (.int .i64 (x.2.a : Int)) ∧ W.cell? ⟨g,i * 5 + 2,none⟩ = some (.int .i64 (x.2.b : Int)) ∧ W.cell? ⟨g,i * 5 + 3,none⟩ = some (.int .i64 (x.2.c : Int)) ∧ W.cell? ⟨g,i * 5 + 4,none⟩ = some (.int .i64 (x.2.d : Int)) ∧ W.cell? ⟨w.heap.size, 0,none⟩ = some (.int .i64 (r.a : Int)) ∧ W.cell? ⟨w.heap.size, 1,none⟩ = some (.int .i64 (r.b : Int)) ∧ W.cell? ⟨w.heap.size, 2,none⟩ = some (.int .i64 (r.c : Int)) ∧ W.cell? ⟨w.heap.size, 3,none⟩ = some (.int .i64 (r.d : Int))) := fun W hW => by
    obtain ⟨y0,y1,y2,y3,y4,_⟩ := HXC.out W hW
    obtain ⟨⟨d0,d1,d2,d3⟩,_⟩ := HBX.out W (HB.out.trans (hW.mono HB.out.size))
    exact ⟨(HCE.out W (HBW.out.trans (hW.mono HBW.out.size))).1,y1,y2,y3,y4,d0,d1,d2,d3⟩
   clear hx hh hxo
   go_upto_region 10 with fail
   go_region_held3 (fun W => W.cell? ⟨R, 0,none⟩ = some (.slice (some ⟨g, 0,none⟩) tb.length sc) ∧ W.cell? ⟨g,i * 5 + 1,none⟩ = some (.int .i64 (x.2.a : Int)) ∧ W.cell? ⟨g,i * 5 + 2,none⟩ = some (.int .i64 (x.2.b : Int)) ∧ W.cell? ⟨g,i * 5 + 3,none⟩ = some (.int .i64 (x.2.c : Int)) ∧ W.cell? ⟨g,i * 5 + 4,none⟩ = some (.int .i64 (x.2.d : Int)) ∧ W.cell? ⟨w.heap.size, 0,none⟩ = some (.int .i64 (r.a : Int)) ∧ W.cell? ⟨w.heap.size, 1,none⟩ = some (.int .i64 (r.b : Int)) ∧ W.cell? ⟨w.heap.size, 2,none⟩ = some (.int .i64 (r.c : Int)) ∧ W.cell? ⟨w.heap.size, 3,none⟩ = some (.int .i64 (r.d : Int)))
    (first
     | exact ⟨cR,y1,y2,y3,y4,d0,d1,d2,d3⟩
     | exact HS.out _ ((Below.refl _ wr).drew.trans hb4)
     | go_keep)
    ((go_at_call 68; refine hmt.mono ?_; rintro e w4 ⟨rfl,hb4⟩))
   have hB4 : Below wr.heap.size wr w4 := (Below.refl _ wr).drew.trans hb4
   have hs4 := hB4.size
   have HB4 : Hid (Below W1.heap.size W1 w4) := HB.out.trans (hB4.mono HB.out.size)
   have hrow4 := own_below HROW.out hB4
   clear hmt y0 y1 y2 y3 y4 d0 d1 d2 d3 cR lR hb4
   obtain ⟨y0,_,_,_,_,hg4⟩ := HXC.out w4 hB4
   obtain ⟨cR,lR⟩ := HCE.out w4 (HBE.out.trans (HB4.out.mono HBE.out.size))
   by_cases hmeet : (both x.2 r).ok
   ·rw [decide_eq_true hmeet]
    have HT2 : Hid (winL r (tb.take (i + 1)) = P ++ [x.1]) := by show _ = _; rw [HT.out,if_pos hmeet]
    go_wp2_with (at_builtin; refine wpList_append_lies _ rfl (.tmp 38) (.tmp 47) 35 rfl W1.heap.size 3 i3 _ 1 8 Tryz.underlying35 hi3 hz3a hz3b hz3c rfl (by omega) _ P.length _ rfl (hrow4.alloc _) ⟨w4.heap.size, 0,none⟩ 1 1 [.int .i64 x.1] rfl rfl (World.news_of_block (cs := #[.int .i64 x.1]) (t := 3) (fr := (0, 0)) (heap_alloc_new w4 _)) (by simp [Value.oneCell']) (by omega) (by unfold maxLen; omega) (by omega) (by simp; omega) (w4.heap.size + 1) (by simp) ?_; intro gC capC w5 hC5 hgC hatC hltC)
    have hB5 : Below W1.heap.size W1 w5 := (HB4.out.alloc (by omega) _).grown hgC (by simp; omega) (fun k hk => (own_tagged hrow4 hk).1)
    go_roundw
    case rel =>
     refine ⟨i + 1,by go_num,by omega,hB5, ?_⟩
     rw [HT2.out,List.length_append,show intsV (P ++ [x.1]) = intsV P ++ [.int .i64 x.1] by simp]
     exact hC5
    case measure => simp [intOf]; omega
   ·rw [decide_eq_false hmeet]
    have HT2 : Hid (winL r (tb.take (i + 1)) = P) := by show _ = _; rw [HT.out,if_neg hmeet,List.append_nil]
    go_wp2
    go_roundw
    case rel =>
     refine ⟨i + 1,by go_num,by omega,HB4.out, ?_⟩
     rw [HT2.out]
     exact hrow4
    case measure => simp [intOf]; omega
  ·have hlt' : decide ((i : Int) < (tb.length : Int)) = false := by simp; omega
   have hlt2 : decide (i < tb.length) = false := by simp; omega
   have hall : tb.take i = tb := List.take_of_length_le (by omega)
   have HW : Hid (winL r tb = P) := by show _ = _; rw [← HP.out,hall]
   clear hall
   go_wp2
   go_ret2
   refine ⟨_,rfl, ?_,HBW.out⟩
   rw [HW.out]
   exact own_mono HROW.out hs1
end
section
section
variable {w : World} {base B m t : Nat} {G OB : Nat → Prop}
theorem does_nil (hI : IxOk w base t G) (hB : Bks w base B m OB) (hd : ∀ k,G k → ¬ OB k) (hm : m ≤ 1048576) (_hbw : base ≤ w.heap.size) (hb : Blk w t 31 #[.pointer none, .pointer none, .pointer none, .int .i64 0]) (kd : Int) (h14 : 14 ≤ kd) (h19 : kd ≤ 19) (wd ad : Int) (sd : ByteArray) (ak : Option Addr) (lk ck : Nat) (r1 r2 r3 r4 : Int) :
  Calls Tryz.prog 13 #[.pointer (some ⟨t, 0,none⟩), .pointer (some ⟨B, 0,none⟩), .agg (opC kd wd ad sd ak lk ck r1 r2 r3 r4)] w fun e w' => e = .returned (.bool true) ∧ DoesP w base B m t G OB w' := by
 have fin : ∀ w',Below w.heap.size w w' → DoesP w base B m t G OB w' := fun w' h => does_none hB hd hI h
 obtain rfl | rfl | rfl | rfl | rfl | rfl : kd = 14 ∨ kd = 15 ∨ kd = 16 ∨ kd = 17 ∨ kd = 18 ∨ kd = 19 := by omega
 ·refine does_put w t B _ _ _ 0 hb wd ad sd ak lk ck r1 r2 r3 r4 0 1 zeroBox 1 (.inl rfl) (fun er w1 => er = 1 ∧ Below w.heap.size w w1) _ (fun W _ => (rcount_nil W).mono ?_) (fun W _ => rget_nil W ad) (fun W hW => (put_nil W ad r1 r2 r3 r4).mono ?_) (fun er w1 W hh hW => (rput_nil W ad r1 r2 r3 r4).mono ?_)
  ·rintro e w1 ⟨rfl,rfl⟩; exact ⟨rfl,Below.refl _ _⟩
  ·rintro e w1 ⟨rfl,h⟩; exact ⟨1,rfl,Mild.below h,rfl,hW.trans (h.mono hW.size)⟩
  ·rintro e w2 ⟨rfl,h⟩
   obtain ⟨rfl,hb1⟩ := hh
   have h2 := hb1.trans (hW.mono hb1.size)
   exact ⟨rfl,Mild.below h,fin w2 (h2.trans (h.mono h2.size))⟩
 ·refine does_del w t B _ _ _ 0 hb wd ad sd ak lk ck r1 r2 r3 r4 (fun er w1 => er = 1 ∧ Below w.heap.size w w1) _ (fun W hW => (del_nil W ad).mono ?_) (fun er w1 W hh hW => (rdel_nil W ad).mono ?_)
  ·rintro e w1 ⟨rfl,h⟩; exact ⟨1,rfl,Mild.below h,rfl,hW.trans (h.mono hW.size)⟩
  ·rintro e w2 ⟨rfl,h⟩
   obtain ⟨rfl,hb1⟩ := hh
   have h2 := hb1.trans (hW.mono hb1.size)
   exact ⟨rfl,Mild.below h,fin w2 (h2.trans (h.mono h2.size))⟩
 ·refine does_get w t B _ _ _ 0 hb wd ad sd ak lk ck r1 r2 r3 r4 (fun v er w1 => v = zeroBox ∧ er = 1 ∧ Below w.heap.size w w1) _ (fun W hW => (get_nil W ad).mono ?_) (fun v er w1 W hh hW => ⟨hh.1,hh.2.1,hh.2.2.trans (hW.mono hh.2.2.size)⟩) (fun v er w1 W b vs hh _ hbb ho => ⟨hh.1,hh.2.1,hh.2.2.trans (ho.below hh.2.2.size (fun k hk => by omega))⟩) (fun v er w1 W hh hW => (rget_nil W ad).mono ?_) (fun v er w1 hh => fin w1 hh.2.2)
  ·rintro e w1 ⟨rfl,h⟩; exact ⟨zeroBox, 1,rfl,Mild.below h,rfl,rfl,hW.trans (h.mono hW.size)⟩
  ·rintro e w2 ⟨rfl,h⟩
   obtain ⟨rfl,rfl,_⟩ := hh
   exact ⟨rfl,h⟩
 ·refine does_win w t B _ _ _ 0 hb wd ad sd ak lk ck r1 r2 r3 r4 [] 1 (by simp) (fun v w1 => v = .slice none 0 0 ∧ Below w.heap.size w w1) _ (fun W hW => (win_nil W r1 r2 r3 r4).mono ?_) (fun v w1 W hh hW => (rwin_nil W r1 r2 r3 r4).mono ?_) (fun v w1 W hh hW => ?_)
  ·rintro e w1 ⟨rfl,h⟩; exact ⟨_,rfl,World.ownsRow_nil _ _ _ _,Mild.below h,rfl,hW.trans (h.mono hW.size)⟩
  ·rintro e w2 ⟨rfl,h⟩; exact ⟨_,rfl,World.ownsRow_nil _ _ _ _,h⟩
  ·obtain ⟨rfl,hb1⟩ := hh
   have h2 : Below w.heap.size w W := hb1.trans (hW.mono hb1.size)
   obtain ⟨n,came,ki,yi,iv,inn,E,K,q1,q2,q3,q4⟩ := hB.below h2
   refine (ints_any W base B n came ki yi iv inn E K OB q1 (.slice none 0 0) [] (World.ownsRow_nil _ _ _ _) (by simp) (fun j hj => by cases hj) (by omega) (by omega) (by omega)).mono ?_
   rintro e w3 ⟨rfl,n',ki',yi',iv',in',E',L',OB',p1,p2,p3,p4,p5⟩
   have hd3 : ∀ k,G k → ¬ (OB k ∨ (Value.slice none 0 0).ownBlock = some k) := fun k hk hh => hh.elim (hd k hk) (fun h => by cases h)
   refine ⟨rfl,G,OB',(hI.below h2).off p4 hd3,⟨n',came + 1,ki',yi',iv',in',E',L',p3,by omega,by omega,by omega⟩,fun k hk ho => ?_,(Off.of_below h2).step p4 (fun k _ hh => hh.elim .inr (fun h => by cases h)),fun k hk => .inl hk,fun k hk => ?_⟩
   ·rcases p5 k ho with h | h | h
    ·exact hd k hk h
    ·cases h
    ·have := (hI.2.1 k hk).2; have := h2.size; omega
   ·rcases p5 k hk with h | h | h
    ·exact .inl h
    ·cases h
    ·exact .inr (by have := h2.size; omega)
 ·refine does_count w t B _ _ _ 0 hb wd ad sd ak lk ck r1 r2 r3 r4 0 1 (fun w1 => Below w.heap.size w w1) _ (fun W hW => (count_nil W).mono ?_) (fun w1 hh => (rcount_nil w1).mono ?_)
  ·rintro e w1 ⟨rfl,h⟩; exact ⟨rfl,Mild.below h,hW.trans (h.mono hW.size)⟩
  ·rintro e w2 ⟨rfl,rfl⟩; exact ⟨rfl,fin _ hh⟩
 ·refine does_open_nil w t B _ _ _ 0 hb wd ad sd ak lk ck r1 r2 r3 r4 rfl _ (fun W hW => (open_nil W).mono ?_)
  rintro e w1 ⟨rfl,h⟩
  exact ⟨rfl,Mild.below h,fin w1 (hW.trans (h.mono hW.size))⟩
end
end
section
theorem putE_zero {id a b c d : Int} (h : putE id a b c d = 0) : idB id = true ∧ rightB a b c d = true := by
 unfold putE at h
 cases h1 : idB id with
 | false => rw [h1] at h; simp at h
 | true =>
  rw [h1] at h
  cases h2 : rightB a b c d with
  | false => rw [h2] at h; simp at h
  | true => exact ⟨rfl,rfl⟩
theorem box_of' {a b c d : Int} (h : rightB a b c d = true) : ∃ v : Box,v.ok ∧ a = (v.a : Int) ∧ b = (v.b : Int) ∧ c = (v.c : Int) ∧ d = (v.d : Int) := by
 unfold rightB at h
 have h := of_decide_eq_true h
 exact ⟨⟨a.toNat,b.toNat,c.toNat,d.toNat⟩,⟨by simp only; omega,by simp only; omega,by simp only; omega,by simp only; omega⟩,by simp only; omega,by simp only; omega,by simp only; omega,by simp only; omega⟩
section
variable {w : World} {base B m t : Nat} {G OB : Nat → Prop} {p X n R : Nat} {f sv : Value} {tb : List (Int × Box)} {F : Nat → Prop}
theorem done_of (hI : IxOk w base t G) (hB : Bks w base B m OB) (hd : ∀ k,G k → ¬ OB k) (hbw : base ≤ w.heap.size) (hg : GI G t X R f sv F) {f' : Value} {tb' : List (Int × Box)} {w1 W1 w2 : World} (h : MidS w base t G p X n R f' sv tb tb' w1) (hW : Below w1.heap.size w1 W1) (hr : RefP W1 w2 base R sv tb') (hroom : tb'.length ≤ (n - 200) / 4) : Mild W1 w2 ∧ DoesP w base B m t G OB w2 := by
 have h' := h.below hW
 obtain ⟨G',i1,i2,i3,_⟩ := h'.fin hr hroom ⟨hg.t, .inl hg.X,hg.R,hg.s⟩ (fun k hk => (hI.2.1 k hk).1) hbw
 exact ⟨h'.mild hr,does_ix hB hd i1 i2 i3⟩
theorem live_put14 (hI : IxOk w base t G) (hB : Bks w base B m OB) (hd : ∀ k,G k → ¬ OB k) (hbw : base ≤ w.heap.size) (hl : LiveI w base t p X n R f sv tb F) (hg : GI G t X R f sv F) (wd ad : Int) (sd : ByteArray) (ak : Option Addr) (lk ck : Nat) (r1 r2 r3 r4 : Int) :
  Calls Tryz.prog 13 #[.pointer (some ⟨t, 0,none⟩), .pointer (some ⟨B, 0,none⟩), .agg (opC 14 wd ad sd ak lk ck r1 r2 r3 r4)] w fun e w' => e = .returned (.bool true) ∧ DoesP w base B m t G OB w' := by
 obtain ⟨hup,hn1,hn2,hlen,hok⟩ := hl.live.upT
 have hroom := hl.room
 have h0 : ∀ W,Below w.heap.size w W → Calls Tryz.prog 32 #[.pointer (some ⟨R, 0,none⟩)] W fun e w1 => e = .returned (.tuple #[.int .i64 (tb.length : Int), .int .i64 0]) ∧ Below W.heap.size W w1 := fun W hW => (rcount_ref W base R sv tb (hl.ref.below hW)).mono (by rintro e w1 ⟨rfl,rfl⟩; exact ⟨rfl,Below.refl _ _⟩)
 have hgt : ∀ W,Below w.heap.size w W → Calls Tryz.prog 33 #[.pointer (some ⟨R, 0,none⟩), .int .i64 ad] W fun e w1 => e = .returned (.tuple #[.agg (boxC (getR ad tb).1), .int .i64 (getR ad tb).2]) ∧ Below W.heap.size W w1 := fun W hW => rget_ref W base R sv tb (hl.ref.below hW) hup hlen ad
 by_cases hskip : (((n - 200) / 4 : Nat) : Int) ≤ (tb.length : Int) ∧ (getR ad tb).2 = 9
 ·exact does_put_skip w t B _ _ _ _ hl.blk wd ad sd ak lk ck r1 r2 r3 r4 _ rfl _ _ _ _ hskip.1 hskip.2 _ h0 hgt (fun W hW => does_none hB hd hI hW)
 ·have hgo : PutGo (.pointer (some ⟨R, 0,none⟩)) (tb.length : Int) (((n - 200) / 4 : Nat) : Int) (getR ad tb).2 := by
   refine .inr ⟨_,rfl, ?_⟩
   by_cases h9 : (getR ad tb).2 = 9
   ·exact .inl (by have : ¬ (((n - 200) / 4 : Nat) : Int) ≤ (tb.length : Int) := fun h => hskip ⟨h,h9⟩; omega)
   ·exact .inr h9
  by_cases hE : putE ad r1 r2 r3 r4 = 0
  ·obtain ⟨hid,hri⟩ := putE_zero hE
   obtain ⟨v,hv,rfl,rfl,rfl,rfl⟩ := box_of' hri
   have hr2 : (tput ad v tb).length ≤ (n - 200) / 4 := by
    cases hget : tget ad tb with
    | some v0 => rw [tput_len hup hget]; exact hroom
    | none =>
     rw [tput_len_new hget]
     have h9 : (getR ad tb).2 = 9 := by unfold getR; rw [hid,hget]; rfl
     have : ¬ (((n - 200) / 4 : Nat) : Int) ≤ (tb.length : Int) := fun h => hskip ⟨h,h9⟩
     omega
   refine does_put w t B _ _ _ _ hl.blk wd ad sd ak lk ck _ _ _ _ _ _ _ _ hgo (fun er w1 => er = 0 ∧ ∃ f',MidS w base t G p X n R f' sv tb (tput ad v tb) w1) _ h0 hgt (fun W hW => (v_put (hl.live.below hW) hid hv hroom hr2).mono ?_) (fun er w1 W hh hW => ?_)
   ·rintro e w1 ⟨hc,rfl,f',hL,hf⟩
    exact ⟨0,rfl,Mild.calm hc,rfl,f',mid hl hg hW hc hL (.inr hf)⟩
   ·obtain ⟨rfl,f',hM⟩ := hh
    refine (rput_ref W base R sv tb (hM.ref.below hW) hup hlen (Nat.le_trans hbw (Nat.le_trans hM.off.size hW.size)) ad hid v hv).mono ?_
    rintro e w2 ⟨rfl,hr⟩
    exact ⟨rfl,done_of hI hB hd hbw hg hM hW hr hr2⟩
  ·refine does_put w t B _ _ _ _ hl.blk wd ad sd ak lk ck r1 r2 r3 r4 _ _ _ _ hgo (fun er w1 => er = putE ad r1 r2 r3 r4 ∧ ∃ f',MidS w base t G p X n R f' sv tb tb w1) _ h0 hgt (fun W hW => (v_put_no (hl.live.below hW) ad r1 r2 r3 r4 hE).mono ?_) (fun er w1 W hh hW => (rput_no W R ad r1 r2 r3 r4 hE).mono ?_)
   ·rintro e w1 ⟨hc,rfl,hL⟩
    exact ⟨_,rfl,Mild.calm hc,rfl,f,mid hl hg hW hc hL (.inl rfl)⟩
   ·rintro e w2 ⟨rfl,h⟩
    obtain ⟨rfl,f',hM⟩ := hh
    exact ⟨rfl,done_of hI hB hd hbw hg hM hW ((hM.ref.below hW).idle h) hroom⟩
theorem live_del15 (hI : IxOk w base t G) (hB : Bks w base B m OB) (hd : ∀ k,G k → ¬ OB k) (hbw : base ≤ w.heap.size) (hl : LiveI w base t p X n R f sv tb F) (hg : GI G t X R f sv F) (wd ad : Int) (sd : ByteArray) (ak : Option Addr) (lk ck : Nat) (r1 r2 r3 r4 : Int) :
  Calls Tryz.prog 13 #[.pointer (some ⟨t, 0,none⟩), .pointer (some ⟨B, 0,none⟩), .agg (opC 15 wd ad sd ak lk ck r1 r2 r3 r4)] w fun e w' => e = .returned (.bool true) ∧ DoesP w base B m t G OB w' := by
 obtain ⟨hup,hn1,hn2,hlen,hok⟩ := hl.live.upT
 have hroom := hl.room
 cases hid : idB ad with
 | false =>
  refine does_del w t B _ _ _ _ hl.blk wd ad sd ak lk ck r1 r2 r3 r4 (fun er w1 => er = 8 ∧ ∃ f',MidS w base t G p X n R f' sv tb tb w1) _ (fun W hW => (v_del_no (hl.live.below hW) hid).mono ?_) (fun er w1 W hh hW => (rdel_no W R ad hid).mono ?_)
  ·rintro e w1 ⟨hc,rfl,hL⟩
   exact ⟨_,rfl,Mild.calm hc,rfl,f,mid hl hg hW hc hL (.inl rfl)⟩
  ·rintro e w2 ⟨rfl,h⟩
   obtain ⟨rfl,f',hM⟩ := hh
   exact ⟨rfl,done_of hI hB hd hbw hg hM hW ((hM.ref.below hW).idle h) hroom⟩
 | true =>
  refine does_del w t B _ _ _ _ hl.blk wd ad sd ak lk ck r1 r2 r3 r4 (fun er w1 => er = delE ad tb ∧ ∃ f',MidS w base t G p X n R f' sv tb (tdel ad tb) w1) _ (fun W hW => (v_del (hl.live.below hW) hid hroom).mono ?_) (fun er w1 W hh hW => ?_)
  ·rintro e w1 ⟨hc,⟨hs,rfl,f',hL,hf⟩ | ⟨hs,rfl,hL⟩⟩
   ·exact ⟨_,rfl,Mild.calm hc,by unfold delE; rw [if_pos hs],f',mid hl hg hW hc hL (.inr hf)⟩
   ·have hno : tget ad tb = none := by cases h : tget ad tb with
     | none => rfl
     | some x => rw [h] at hs; cases hs
    have hdel : tdel ad tb = tb := f_all tb (fun x hx => by have := tget_none.1 hno x hx; simpa using this)
    rw [hdel]
    exact ⟨_,rfl,Mild.calm hc,by unfold delE; rw [hs]; rfl,f,mid hl hg hW hc hL (.inl rfl)⟩
  ·obtain ⟨rfl,f',hM⟩ := hh
   refine (rdel_ref W base R sv tb (hM.ref.below hW) hup hlen (Nat.le_trans hbw (Nat.le_trans hM.off.size hW.size)) ad hid).mono ?_
   rintro e w2 ⟨rfl,hr⟩
   exact ⟨rfl,done_of hI hB hd hbw hg hM hW hr (Nat.le_trans tdel_len hroom)⟩
theorem live_get16 (hI : IxOk w base t G) (hB : Bks w base B m OB) (hd : ∀ k,G k → ¬ OB k) (hbw : base ≤ w.heap.size) (hl : LiveI w base t p X n R f sv tb F) (hg : GI G t X R f sv F) (wd ad : Int) (sd : ByteArray) (ak : Option Addr) (lk ck : Nat) (r1 r2 r3 r4 : Int) :
  Calls Tryz.prog 13 #[.pointer (some ⟨t, 0,none⟩), .pointer (some ⟨B, 0,none⟩), .agg (opC 16 wd ad sd ak lk ck r1 r2 r3 r4)] w fun e w' => e = .returned (.bool true) ∧ DoesP w base B m t G OB w' := by
 obtain ⟨hup,hn1,hn2,hlen,hok⟩ := hl.live.upT
 have hroom := hl.room
 have h1 : ∀ W,Below w.heap.size w W → Calls Tryz.prog 37 #[.pointer (some ⟨X, 0,none⟩), .int .i64 ad] W fun e w1 => ∃ (v : Box) (er : Int),e = .returned (.tuple #[.agg (boxC v), .int .i64 er]) ∧ Mild W w1 ∧ v = (getR ad tb).1 ∧ er = (getR ad tb).2 ∧ MidS w base t G p X n R f sv tb tb w1 := fun W hW => by
  cases hid : idB ad with
  | false =>
   refine (v_get_no (hl.live.below hW) hid).mono ?_
   rintro e w1 ⟨hc,rfl,hL⟩
   exact ⟨_,_,rfl,Mild.calm hc,by unfold getR; rw [hid]; rfl,by unfold getR; rw [hid]; rfl,mid hl hg hW hc hL (.inl rfl)⟩
  | true =>
   refine (v_get (hl.live.below hW) hid).mono ?_
   rintro e w1 ⟨hc,rfl,hL⟩
   exact ⟨_,_,rfl,Mild.calm hc,by unfold getR; rw [hid]; rfl,by unfold getR; rw [hid]; rfl,mid hl hg hW hc hL (.inl rfl)⟩
 refine does_get w t B _ _ _ _ hl.blk wd ad sd ak lk ck r1 r2 r3 r4 (fun v er w1 => v = (getR ad tb).1 ∧ er = (getR ad tb).2 ∧ MidS w base t G p X n R f sv tb tb w1) _ h1 (fun v er w1 W hh hW => ⟨hh.1,hh.2.1,hh.2.2.below hW⟩) (fun v er w1 W b vs hh hb hbb ho => ⟨hh.1,hh.2.1,hh.2.2.new hb ⟨by unfold own5; omega,by decide,by decide,by decide,by decide,by decide⟩ hbb ho⟩) (fun v er w1 W hh hW => ?_) (fun v er w1 hh => (done_of hI hB hd hbw hg hh.2.2 (Below.refl _ w1) (hh.2.2.ref.idle (Below.refl _ w1)) hroom).2)
 obtain ⟨rfl,rfl,hM⟩ := hh
 exact rget_ref W base R sv tb (hM.ref.below hW) hup hlen ad
theorem live_count18 (hI : IxOk w base t G) (hB : Bks w base B m OB) (hd : ∀ k,G k → ¬ OB k) (hbw : base ≤ w.heap.size) (hl : LiveI w base t p X n R f sv tb F) (hg : GI G t X R f sv F) (wd ad : Int) (sd : ByteArray) (ak : Option Addr) (lk ck : Nat) (r1 r2 r3 r4 : Int) :
  Calls Tryz.prog 13 #[.pointer (some ⟨t, 0,none⟩), .pointer (some ⟨B, 0,none⟩), .agg (opC 18 wd ad sd ak lk ck r1 r2 r3 r4)] w fun e w' => e = .returned (.bool true) ∧ DoesP w base B m t G OB w' := by
 refine does_count w t B _ _ _ _ hl.blk wd ad sd ak lk ck r1 r2 r3 r4 (tb.length : Int) 0 (fun w1 => MidS w base t G p X n R f sv tb tb w1) _ (fun W hW => (v_count (hl.live.below hW)).mono ?_) (fun w1 hM => (rcount_ref w1 base R sv tb hM.ref).mono ?_)
 ·rintro e w1 ⟨hc,rfl,hL⟩
  exact ⟨rfl,Mild.calm hc,mid hl hg hW hc hL (.inl rfl)⟩
 ·rintro e w2 ⟨rfl,rfl⟩
  exact ⟨rfl,(done_of hI hB hd hbw hg hM (Below.refl _ _) (hM.ref.idle (Below.refl _ _)) hl.room).2⟩
theorem live_open19 (hI : IxOk w base t G) (hB : Bks w base B m OB) (hd : ∀ k,G k → ¬ OB k) (hbw : base ≤ w.heap.size) (hl : LiveI w base t p X n R f sv tb F) (hg : GI G t X R f sv F) (wd ad : Int) (sd : ByteArray) (ak : Option Addr) (lk ck : Nat) (r1 r2 r3 r4 : Int) :
  Calls Tryz.prog 13 #[.pointer (some ⟨t, 0,none⟩), .pointer (some ⟨B, 0,none⟩), .agg (opC 19 wd ad sd ak lk ck r1 r2 r3 r4)] w fun e w' => e = .returned (.bool true) ∧ DoesP w base B m t G OB w' := by
 refine does_open w t B _ _ _ _ hl.blk wd ad sd ak lk ck r1 r2 r3 r4 ⟨R, 0,none⟩ rfl (fun X' w1 => w.heap.size ≤ X' ∧ ∃ W f',Below w.heap.size w W ∧ CalmW (NF w F) W w1 ∧ LiveV w1 (NF w F) p X' n f' tb ∧ FreshV W f') _ (fun W hW => (v_open (hl.live.below hW)).mono ?_) (fun X' w1 hQ hbt => ?_)
 ·rintro e w1 ⟨hc,X',f',rfl,hL,hf,hx⟩
  exact ⟨X',rfl,Mild.calm hc,Nat.le_trans hW.size hx,W,f',hW,hc,hL,hf⟩
 ·obtain ⟨hx,W,f',hW,hc,hL,hf⟩ := hQ
  obtain ⟨F',h1,h2,h3⟩ := hL.own
  have hr := hl.ref.below hW
  have r1' : RefX w1 base R sv tb := ⟨hc.blk hr.blk (by unfold own5; omega),hc.row hr.row (by unfold own5; omega)⟩
  obtain ⟨⟨x,hX⟩,hft⟩ := h1.tag
  have hbt' : w1.heap[t]? = _ := hbt
  have ho : Off (fun k => k = t) w1 (w1.setCell ⟨t, 1,none⟩ (.pointer (some ⟨X', 0,none⟩))) := Off.one w1 _
  have hmid : MidS w base t G p X' n R f' sv tb tb (w1.setCell ⟨t, 1,none⟩ (.pointer (some ⟨X', 0,none⟩))) := by
   refine ⟨hbt.set 1 _,⟨F',h1.keep ho (fun k hk e => ?_) (fun e => blk_ne hX hbt (by decide) e) (fun g hg' e => ?_),h2.keep ho (fun k hk e => ?_),fun k hk => ?_,fun g hg' => .inr (Nat.le_trans hW.size (hf g hg'))⟩,r1'.off ho (fun e => blk_ne r1'.blk hbt (by decide) e) (fun g hg' e => own_ne r1'.row hbt (by decide) g hg' e),(((calm_off hW hc).mono (fun k _ hk => hg.F k hk)).step ho (fun k _ e => by subst e; exact hg.t))⟩
   ·subst e; have := h2.2 k _ _ _ hk hbt'; revert this; unfold own5; omega
   ·obtain ⟨cs,hcc⟩ := hft g hg'
    rw [show g = t from e,hbt'] at hcc; simp at hcc
   ·subst e; have := h2.2 k _ _ _ hk hbt'; revert this; unfold own5; omega
   ·rcases old_new (h3 k hk) with h | h
    ·exact .inl (hg.F k h)
    ·exact .inr h
  obtain ⟨G',i1,i2,i3,_⟩ := hmid.fin (hmid.ref.idle (Below.refl _ _)) hl.room ⟨hg.t, .inr hx,hg.R,hg.s⟩ (fun k hk => (hI.2.1 k hk).1) hbw
  exact does_ix hB hd i1 i2 i3
theorem live_win17 (hI : IxOk w base t G) (hB : Bks w base B m OB) (hd : ∀ k,G k → ¬ OB k) (hm : m ≤ 1048576) (hbw : base ≤ w.heap.size) (hl : LiveI w base t p X n R f sv tb F) (hg : GI G t X R f sv F) (wd ad : Int) (sd : ByteArray) (ak : Option Addr) (lk ck : Nat) (r1 r2 r3 r4 : Int) :
  Calls Tryz.prog 13 #[.pointer (some ⟨t, 0,none⟩), .pointer (some ⟨B, 0,none⟩), .agg (opC 17 wd ad sd ak lk ck r1 r2 r3 r4)] w fun e w' => e = .returned (.bool true) ∧ DoesP w base B m t G OB w' := by
 obtain ⟨hup,hn1,hn2,hlen,hok⟩ := hl.live.upT
 have hroom := hl.room
 obtain ⟨L,er,hLl,hp,hq⟩ : ∃ (L : List Int) (er : Int),L.length ≤ 1000 ∧ (∀ W,Below w.heap.size w W → Calls Tryz.prog 11 #[.pointer (some ⟨X, 0,none⟩), .agg #[.int .i64 r1, .int .i64 r2, .int .i64 r3, .int .i64 r4]] W fun e w1 => ∃ v,e = .returned (.tuple #[v, .int .i64 er]) ∧ w1.ownsRow W.heap.size 3 1 v L.length (intsV L) ∧ CalmW (NF w F) W w1 ∧ LiveV w1 (NF w F) p X n f tb) ∧ (∀ W,RefX W base R sv tb → Calls Tryz.prog 39 #[.pointer (some ⟨R, 0,none⟩), .agg #[.int .i64 r1, .int .i64 r2, .int .i64 r3, .int .i64 r4]] W fun e w2 => ∃ u,e = .returned (.tuple #[u, .int .i64 er]) ∧ w2.ownsRow W.heap.size 3 1 u L.length (intsV L) ∧ Below W.heap.size W w2) := by
  cases hri : rightB r1 r2 r3 r4 with
  | false =>
   refine ⟨[], 6,by simp,fun W hW => (v_win_no (hl.live.below hW) r1 r2 r3 r4 hri).mono ?_,fun W _ => (rwin_no W R r1 r2 r3 r4 hri).mono ?_⟩
   ·rintro e w1 ⟨hc,rfl,hL⟩; exact ⟨_,rfl,World.ownsRow_nil _ _ _ _,hc,hL⟩
   ·rintro e w2 ⟨rfl,h⟩; exact ⟨_,rfl,World.ownsRow_nil _ _ _ _,h⟩
  | true =>
   obtain ⟨v,hv,rfl,rfl,rfl,rfl⟩ := box_of' hri
   refine ⟨winL v tb, 0,by have := @winL_len v tb; omega,fun W hW => (v_win (hl.live.below hW) hv).mono ?_,fun W hr => rwin_ref W base R sv tb hr hlen (fun x hx => (hok x hx).1) v hv⟩
   rintro e w1 ⟨hc,⟨u,rfl,hu⟩,hL⟩
   exact ⟨u,rfl,hu,hc,hL⟩
 refine does_win w t B _ _ _ _ hl.blk wd ad sd ak lk ck r1 r2 r3 r4 L er hLl (fun v w1 => MidS w base t G p X n R f sv tb tb w1 ∧ w1.ownsRow w.heap.size 3 1 v L.length (intsV L)) _ (fun W hW => (hp W hW).mono ?_) (fun v w1 W hh hW => hq W (hh.1.ref.below hW)) (fun v w1 W hh hW => ?_)
 ·rintro e w1 ⟨v,rfl,hv,hc,hL⟩
  exact ⟨v,rfl,hv,Mild.calm hc,mid hl hg hW hc hL (.inl rfl),own_mono hv hW.size⟩
 ·obtain ⟨hM,hv⟩ := hh
  have hM' := hM.below hW
  have hv' := own_below hv hW
  obtain ⟨G',i1,i2,i3,i4⟩ := hM'.fin (hM'.ref.idle (Below.refl _ _)) hroom ⟨hg.t, .inl hg.X,hg.R,hg.s⟩ (fun k hk => (hI.2.1 k hk).1) hbw
  have hfl := hl.live.lt
  have hvG : ∀ k,v.ownBlock = some k → ¬ G' k := fun k hk hg' => by
   obtain ⟨h1,cs,hc⟩ := own_tagged hv' hk
   have := hfl k (i4 k cs hg' hc)
   omega
  have hlo : ∀ k,OB k → k < w.heap.size := fun k hk => (hB.lt k hk).2
  have hGO : ∀ k,G' k → ¬ OB k := fun k hk ho => (i3 k hk).elim (fun h => hd k h ho) (fun h => by have := hlo k ho; omega)
  obtain ⟨nn,came,ki,yi,iv,inn,E,K,q1,q2,q3,q4⟩ := hB.off i2 (fun k hk h => hd k h hk)
  refine (ints_any W base B nn came ki yi iv inn E K OB q1 v L (own_mono hv' hbw) hLl (fun j hj ho => by have := (own_tagged hv' hj).1; have := hlo j ho; omega) (by omega) (by omega) (by omega)).mono ?_
  rintro e w3 ⟨rfl,n',ki',yi',iv',in',E',L',OB',p1,p2,p3,p4,p5⟩
  have hs := i2.size
  refine ⟨rfl,G',OB',i1.off p4 (fun k hk h => h.elim (hGO k hk) (fun h => hvG k h hk)),⟨n',came + 1,ki',yi',iv',in',E',L',p3,by omega,by omega,by omega⟩,fun k hk ho => ?_,(i2.mono (fun k _ h => .inl h)).step p4 (fun k hk h => ?_),i3,fun k hk => ?_⟩
  ·rcases p5 k ho with h | h | h
   ·exact hGO k hk h
   ·exact hvG k h hk
   ·have := (i1.2.1 k hk).2; omega
  ·rcases h with h | h
   ·exact .inr h
   ·have := (own_tagged hv' h).1; omega
  ·rcases p5 k hk with h | h | h
   ·exact .inl h
   ·exact .inr (own_tagged hv' h).1
   ·exact .inr (by omega)
theorem does_any (hI : IxOk w base t G) (hB : Bks w base B m OB) (hd : ∀ k,G k → ¬ OB k) (hm : m ≤ 1048576) (hbw : base ≤ w.heap.size) (kd : Int) (h14 : 14 ≤ kd) (h19 : kd ≤ 19) (wd ad : Int) (sd : ByteArray) (ak : Option Addr) (lk ck : Nat) (r1 r2 r3 r4 : Int) :
  Calls Tryz.prog 13 #[.pointer (some ⟨t, 0,none⟩), .pointer (some ⟨B, 0,none⟩), .agg (opC kd wd ad sd ak lk ck r1 r2 r3 r4)] w fun e w' => e = .returned (.bool true) ∧ DoesP w base B m t G OB w' := by
 rcases hI.2.2.2 with hb | ⟨p,X,n,R,f,sv,tb,F,hl,hg⟩
 ·exact does_nil hI hB hd hm hbw hb kd h14 h19 wd ad sd ak lk ck r1 r2 r3 r4
 ·obtain rfl | rfl | rfl | rfl | rfl | rfl : kd = 14 ∨ kd = 15 ∨ kd = 16 ∨ kd = 17 ∨ kd = 18 ∨ kd = 19 := by omega
  ·exact live_put14 hI hB hd hbw hl hg wd ad sd ak lk ck r1 r2 r3 r4
  ·exact live_del15 hI hB hd hbw hl hg wd ad sd ak lk ck r1 r2 r3 r4
  ·exact live_get16 hI hB hd hbw hl hg wd ad sd ak lk ck r1 r2 r3 r4
  ·exact live_win17 hI hB hd hm hbw hl hg wd ad sd ak lk ck r1 r2 r3 r4
  ·exact live_count18 hI hB hd hbw hl hg wd ad sd ak lk ck r1 r2 r3 r4
  ·exact live_open19 hI hB hd hbw hl hg wd ad sd ak lk ck r1 r2 r3 r4
end
end
end Go.Proofs.YtdgbgmffpcooeaaGreat
