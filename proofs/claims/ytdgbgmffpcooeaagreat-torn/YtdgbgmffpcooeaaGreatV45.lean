/- Kp4 -/
import Derived.Test.YtdgbgmffpcooeaaGreatV44
namespace Go.Proofs.YtdgbgmffpcooeaaGreat
open Go.RowKit Go.Lib Go.Shelf
section
structure Wb (w : World) (sv : Value) (v : Box) (ov : Value) (out : List (Int × Box)) (W : World) : Prop where
 b0 : Blk W w.heap.size 60 #[sv]
 b1 : Blk W (w.heap.size + 1) 34 (boxA v)
 b2 : Blk W (w.heap.size + 1 + 1) 60 #[.slice none 0 0]
 b3 : Blk W (w.heap.size + 1 + 1 + 1) 60 #[ov]
 row : TabV W w.heap.size ov out
 bel : Below w.heap.size w W
theorem Wb.app {w W W1 W2 : World} {sv : Value} {v : Box} {ov ov' : Value} {out : List (Int × Box)} (h : Wb w sv v ov out W) (hb : Below W.heap.size W W1) (hg : W1.grownBy W2 ov.ownBlock) {e : Int × Box} (hr : W2.ownsRow w.heap.size 106 5 ov' (out.length + 1) (rowM out ++ [.int .i64 e.1, .int .i64 (e.2.a : Int), .int .i64 (e.2.b : Int), .int .i64 (e.2.c : Int), .int .i64 (e.2.d : Int)])) :
  Wb w sv v ov' (out ++ [e]) (W2.setCell ⟨w.heap.size + 1 + 1 + 1, 0,none⟩ ov') ∧ Blk W2 (w.heap.size + 1 + 1 + 1) 60 #[ov] := by
 have oA : Off (fun k => ov.ownBlock = some k) W W2 := (Off.of_below hb).grown hg (fun j hj => .inl hj)
 have o2 : Off (fun k => k = w.heap.size + 1 + 1 + 1) W2 (W2.setCell ⟨w.heap.size + 1 + 1 + 1, 0,none⟩ ov') := Off.one W2 _
 have q3 : Blk W2 (w.heap.size + 1 + 1 + 1) 60 #[ov] := h.b3.off oA (fun hg => own_ne h.row h.b3 (by decide) _ hg rfl)
 have hr' : TabV W2 w.heap.size ov' (out ++ [e]) := by
  show World.ownsRow _ _ _ _ _ _ _
  rw [rowM_append,List.length_append]
  exact hr
 have h1 := h.bel.trans (oA.below h.bel.size (fun k hk => (own_tagged h.row hk).1))
 exact ⟨⟨(h.b0.off oA (fun hg => own_ne h.row h.b0 (by decide) _ hg rfl)).off o2 (by omega),(h.b1.off oA (fun hg => own_ne h.row h.b1 (by decide) _ hg rfl)).off o2 (by omega),(h.b2.off oA (fun hg => own_ne h.row h.b2 (by decide) _ hg rfl)).off o2 (by omega),q3.set 0 _,own_offv hr' o2 (fun g hg e => own_ne hr' q3 (by decide) g hg e),h1.trans (o2.below h1.size (fun k h => by omega))⟩,q3⟩
theorem filt_len {V : Type} (id : Int) : ∀ T : List (Int × V),(T.filter fun t => decide (t.1 < id)).length + (T.filter fun t => decide (id < t.1)).length ≤ T.length
 | [] => by simp
 | x :: l => by
  have := filt_len id l
  rw [List.filter_cons,List.filter_cons]
  by_cases g : x.1 < id
  ·rw [if_pos (by simpa using g),if_neg (by simp; omega)]; simp; omega
  ·rw [if_neg (by simpa using g)]
   by_cases g2 : id < x.1
   ·rw [if_pos (by simpa using g2)]; simp; omega
   ·rw [if_neg (by simpa using g2)]; simp; omega
theorem WithP.len {V : Type} {id : Int} {v : V} {T out : List (Int × V)} {put : Bool} (h : WithP id v T out put) : out.length ≤ T.length + 1 := by
 rcases h with ⟨_,rfl,_⟩ | ⟨_,rfl,_⟩
 ·omega
 ·have := filt_len id T
  unfold tput
  rw [List.length_append,List.length_cons]
  omega
set_option maxRecDepth 100000 in
set_option maxHeartbeats 4000000 in
theorem mput_any (w : World) (base : Nat) (sv : Value) (tb : List (Int × Box)) (h : TabV w base sv tb) (hu : tb.Pairwise fun a b => a.1 < b.1) (hl : tb.length ≤ 1000000) (id : Int) (v : Box) :
  Calls Tryz.prog 53 #[.agg #[sv], .int .i64 id, .agg (boxA v)] w fun e w' => ∃ ov,e = .returned (.agg #[ov]) ∧ TabV w' w.heap.size ov (tput id v tb) ∧ Below w.heap.size w w' := by
 obtain ⟨i0,hi0,hz0,hz1,hz2⟩ := info_parts infoM
 obtain ⟨sa,sc,rfl,_,_,_⟩ := own_shape h
 obtain ⟨W1,hW1⟩ : ∃ W1,(((w.alloc (.cells #[.slice sa tb.length sc] 60)).alloc (.cells #[.int .i64 (v.a : Int), .int .i64 (v.b : Int), .int .i64 (v.c : Int), .int .i64 (v.d : Int)] 34)).alloc (.cells #[.slice none 0 0] 60)).alloc (.cells #[.slice none 0 0] 60) = W1 := ⟨_,rfl⟩
 have hb1 : Below w.heap.size w W1 := by rw [← hW1]; exact ((((Below.refl _ w).alloc (Nat.le_refl _) _).alloc (by simp) _).alloc (by simp; omega) _).alloc (by simp; omega) _
 have b0 : Blk W1 w.heap.size 60 #[.slice sa tb.length sc] := by rw [← hW1]; exact (((Blk.new w 60 _).alloc _).alloc _).alloc _
 have b1 : Blk W1 (w.heap.size + 1) 34 (boxA v) := by
  rw [← hW1]; have := ((Blk.new (w.alloc (.cells #[.slice sa tb.length sc] 60)) 34 (boxA v)).alloc (.cells #[.slice none 0 0] 60)).alloc (.cells #[.slice none 0 0] 60); rwa [World.size_alloc] at this
 have b2 : Blk W1 (w.heap.size + 1 + 1) 60 #[.slice none 0 0] := by
  rw [← hW1]; have := (Blk.new ((w.alloc (.cells #[.slice sa tb.length sc] 60)).alloc (.cells #[.int .i64 (v.a : Int), .int .i64 (v.b : Int), .int .i64 (v.c : Int), .int .i64 (v.d : Int)] 34)) 60 #[.slice none 0 0]).alloc (.cells #[.slice none 0 0] 60); simp only [World.size_alloc] at this; exact this
 have b3 : Blk W1 (w.heap.size + 1 + 1 + 1) 60 #[.slice none 0 0] := by
  rw [← hW1]; have := Blk.new (((w.alloc (.cells #[.slice sa tb.length sc] 60)).alloc (.cells #[.int .i64 (v.a : Int), .int .i64 (v.b : Int), .int .i64 (v.c : Int), .int .i64 (v.d : Int)] 34)).alloc (.cells #[.slice none 0 0] 60)) 60 #[.slice none 0 0]; simp only [World.size_alloc] at this; exact this
 have HWB1 : Hid (Wb w (.slice sa tb.length sc) v (.slice none 0 0) [] W1) := ⟨b0,b1,b2,b3,⟨by simp [rowM], .inl ⟨rfl,rfl⟩⟩,hb1⟩
 have HH : Hid (TabV w base (.slice sa tb.length sc) tb) := h
 have HU : Hid (tb.Pairwise fun a b => a.1 < b.1) := hu
 have HW1 : Hid ((((w.alloc (.cells #[.slice sa tb.length sc] 60)).alloc (.cells #[.int .i64 (v.a : Int), .int .i64 (v.b : Int), .int .i64 (v.c : Int), .int .i64 (v.d : Int)] 34)).alloc (.cells #[.slice none 0 0] 60)).alloc (.cells #[.slice none 0 0] 60) = W1) := hW1
 clear h hW1 b0 b1 b2 b3 hb1 hu
 go_enter Tryz.func53,Tryz.ntmps53
 go_upto_region 2 with fail
 rw [HW1.out]
 go_wp2
 go_loopw [8, 9] (fun p x wr => ∃ (i : Nat) (ov : Value) (out : List (Int × Box)) (put : Bool),p = .bool put ∧ x = .int .i64 (i : Int) ∧ i ≤ tb.length ∧ Wb w (.slice sa tb.length sc) v ov out wr ∧ WithP id v (tb.take i) out put) (fun _ x _ => tb.length - (intOf x).toNat)
 case atStart => exact ⟨0, .slice none 0 0, [],false,rfl,rfl,Nat.zero_le _,HWB1.out,WithP.nil id v⟩
 case round =>
  obtain ⟨i,ov,out,put,rfl,rfl,hi,hwb,hwp⟩ := hrel
  have c0 : wr.cell? ⟨w.heap.size, 0,none⟩ = some (.slice sa tb.length sc) := hwb.b0.cell 0
  have hol := hwp.len
  rw [List.length_take] at hol
  have hol' : out.length ≤ 1000001 := by omega
  obtain ⟨oa,oc,rfl,_,_,_⟩ := own_shape hwb.row
  have HWB : Hid (Wb w (.slice sa tb.length sc) v (.slice oa out.length oc) out wr) := hwb
  have HWP : Hid (WithP id v (tb.take i) out put) := hwp
  have c3 : wr.cell? ⟨w.heap.size + 1 + 1 + 1, 0,none⟩ = some (.slice oa out.length oc) := hwb.b3.cell 0
  have l3 := hwb.b3.lt
  have hws := hwb.bel.size
  clear hol hwb hwp HWB1 HW1
  by_cases hlt : i < tb.length
  ·have hlt' : (i : Int) < (tb.length : Int) := by omega
   obtain ⟨x,hx⟩ : ∃ x,tb[i]? = some x := ⟨_,List.getElem?_eq_getElem hlt⟩
   have hsa : ∃ g,sa = some ⟨g, 0,none⟩ := by
    obtain ⟨_,⟨e,hn⟩ | ⟨g,cap,cur,e,_⟩⟩ := HH.out
    ·omega
    ·cases e; exact ⟨g,rfl⟩
   obtain ⟨g,rfl⟩ := hsa
   have hgl : g < w.heap.size := (own_lt HH.out).2
   have hgl2 : g < wr.heap.size := by omega
   have hh := own_below HH.out HWB.out.bel
   have y := own_cellM hh hx
   have y0 : wr.cell? ⟨g,i * 5,none⟩ = some (.int .i64 x.1) := y 0 _ rfl
   have y1 : wr.cell? ⟨g,i * 5 + 1,none⟩ = some (.int .i64 (x.2.a : Int)) := y 1 _ rfl
   have y2 : wr.cell? ⟨g,i * 5 + 2,none⟩ = some (.int .i64 (x.2.b : Int)) := y 2 _ rfl
   have y3 : wr.cell? ⟨g,i * 5 + 3,none⟩ = some (.int .i64 (x.2.c : Int)) := y 3 _ rfl
   have y4 : wr.cell? ⟨g,i * 5 + 4,none⟩ = some (.int .i64 (x.2.d : Int)) := y 4 _ rfl
   have HT : Hid (tb.take (i + 1) = tb.take i ++ [x]) := take_get hx
   have HX : Hid (tb[i]? = some x) := hx
   clear y hx hh
   cases put with
   | true =>
    have HMO : Hid (WithP id v (tb.take (i + 1)) (out ++ [x]) true ∧ x.1 ≠ id) := by
     show _ ∧ _
     rw [HT.out]
     exact HWP.out.more (HT.out ▸ (HU.out.sublist (List.take_sublist _ _)))
    have hne : ¬ x.1 = id := HMO.out.2
    go_upto_region 10 with fail
    go_region_law (refine step_append_lies _ (by rfl) _ _ _ (by rfl) w.heap.size 106 i0 _ 5 40 Tryz.underlying58 hi0 hz0 hz1 hz2 rfl (by omega) (.slice oa out.length oc) out.length _ (by rfl) ((HWB.out.row.alloc _).drew) ⟨wr.heap.size, 0,none⟩ 1 1 [.int .i64 x.1, .int .i64 (x.2.a : Int), .int .i64 (x.2.b : Int), .int .i64 (x.2.c : Int), .int .i64 (x.2.d : Int)] (by rfl) (by rfl) (World.news_of_block (cs := #[.int .i64 x.1, .int .i64 (x.2.a : Int), .int .i64 (x.2.b : Int), .int .i64 (x.2.c : Int), .int .i64 (x.2.d : Int)]) (t := 106) (fr := (0, 0)) (heap_alloc_new wr _)) (by simp [Value.oneCell']) (by omega) (by unfold maxLen; omega) (by omega) (by simp; omega) (wr.heap.size + 1) (by simp) ?_; intro gN capN w3 hN3 hgN hatN hltN; have hbl : Below wr.heap.size wr ((wr.alloc (.cells #[.int .i64 x.1, .int .i64 (x.2.a : Int), .int .i64 (x.2.b : Int), .int .i64 (x.2.c : Int), .int .i64 (x.2.d : Int)] 106)).drew) := ((Below.refl _ wr).alloc (Nat.le_refl _) _).drew; have q2 := (HWB.out.app (e := x) hbl hgN hN3).2; have d2 : w3.cell? ⟨w.heap.size + 1 + 1 + 1, 0,none⟩ = some (.slice oa out.length oc) := q2.cell 0; have g2 : w3.frozen? ⟨w.heap.size + 1 + 1 + 1, 0,none⟩ = false := q2.frozen 0)
    all_goals
     go_wp2
     exact ⟨⟨i + 1,_,out ++ [x],true,rfl,by go_num,by omega,(HWB.out.app (e := x) hbl hgN hN3).1,HMO.out.1⟩,by simp [intOf]; omega⟩
   | false =>
    rcases Int.lt_trichotomy x.1 id with hlt2 | heq | hgt
    ·have HMO : Hid (WithP id v (tb.take (i + 1)) (out ++ [x]) false) := by show WithP _ _ _ _ _; rw [HT.out]; exact HWP.out.lt hlt2
     have hne : ¬ x.1 = id := by omega
     have hge : ¬ id ≤ x.1 := by omega
     go_upto_region 10 with fail
     go_region_law (refine step_append_lies _ (by rfl) _ _ _ (by rfl) w.heap.size 106 i0 _ 5 40 Tryz.underlying58 hi0 hz0 hz1 hz2 rfl (by omega) (.slice oa out.length oc) out.length _ (by rfl) ((HWB.out.row.alloc _).drew) ⟨wr.heap.size, 0,none⟩ 1 1 [.int .i64 x.1, .int .i64 (x.2.a : Int), .int .i64 (x.2.b : Int), .int .i64 (x.2.c : Int), .int .i64 (x.2.d : Int)] (by rfl) (by rfl) (World.news_of_block (cs := #[.int .i64 x.1, .int .i64 (x.2.a : Int), .int .i64 (x.2.b : Int), .int .i64 (x.2.c : Int), .int .i64 (x.2.d : Int)]) (t := 106) (fr := (0, 0)) (heap_alloc_new wr _)) (by simp [Value.oneCell']) (by omega) (by unfold maxLen; omega) (by omega) (by simp; omega) (wr.heap.size + 1) (by simp) ?_; intro gN capN w3 hN3 hgN hatN hltN; have hbl : Below wr.heap.size wr ((wr.alloc (.cells #[.int .i64 x.1, .int .i64 (x.2.a : Int), .int .i64 (x.2.b : Int), .int .i64 (x.2.c : Int), .int .i64 (x.2.d : Int)] 106)).drew) := ((Below.refl _ wr).alloc (Nat.le_refl _) _).drew; have q2 := (HWB.out.app (e := x) hbl hgN hN3).2; have d2 : w3.cell? ⟨w.heap.size + 1 + 1 + 1, 0,none⟩ = some (.slice oa out.length oc) := q2.cell 0; have g2 : w3.frozen? ⟨w.heap.size + 1 + 1 + 1, 0,none⟩ = false := q2.frozen 0)
     all_goals
      go_wp2
      exact ⟨⟨i + 1,_,out ++ [x],false,rfl,by go_num,by omega,(HWB.out.app (e := x) hbl hgN hN3).1,HMO.out⟩,by simp [intOf]; omega⟩
    ·have HMO : Hid (WithP id v (tb.take (i + 1)) (out ++ [(id,v)]) true) := by show WithP _ _ _ _ _; rw [HT.out]; exact HWP.out.eq heq
     have hge : id ≤ x.1 := by omega
     have v0 : wr.cell? ⟨w.heap.size + 1, 0,none⟩ = some (.int .i64 (v.a : Int)) := HWB.out.b1.cell 0
     have v1 : wr.cell? ⟨w.heap.size + 1, 1,none⟩ = some (.int .i64 (v.b : Int)) := HWB.out.b1.cell 1
     have v2 : wr.cell? ⟨w.heap.size + 1, 2,none⟩ = some (.int .i64 (v.c : Int)) := HWB.out.b1.cell 2
     have v3 : wr.cell? ⟨w.heap.size + 1, 3,none⟩ = some (.int .i64 (v.d : Int)) := HWB.out.b1.cell 3
     rw [heq] at y0
     go_upto_region 8 with (at_builtin; refine wpList_append_lies _ rfl (.tmp 30) (.tmp 34) 58 rfl w.heap.size 106 i0 _ 5 40 Tryz.underlying58 hi0 hz0 hz1 hz2 rfl (by omega) (.slice oa out.length oc) out.length _ rfl (HWB.out.row.alloc _) ⟨wr.heap.size, 0,none⟩ 1 1 [.int .i64 id, .int .i64 (v.a : Int), .int .i64 (v.b : Int), .int .i64 (v.c : Int), .int .i64 (v.d : Int)] rfl rfl (World.news_of_block (cs := #[.int .i64 id, .int .i64 (v.a : Int), .int .i64 (v.b : Int), .int .i64 (v.c : Int), .int .i64 (v.d : Int)]) (t := 106) (fr := (0, 0)) (heap_alloc_new wr _)) (by simp [Value.oneCell']) (by omega) (by unfold maxLen; omega) (by omega) (by simp; omega) (wr.heap.size + 1) (by simp) ?_; intro gM capM w4 hM3 hgM hatM hltM; have hbm : Below wr.heap.size wr (wr.alloc (.cells #[.int .i64 id, .int .i64 (v.a : Int), .int .i64 (v.b : Int), .int .i64 (v.c : Int), .int .i64 (v.d : Int)] 106)) := (Below.refl _ wr).alloc (Nat.le_refl _) _; have p2 := (HWB.out.app (e := (id,v)) hbm hgM hM3).2; have e2 : w4.cell? ⟨w.heap.size + 1 + 1 + 1, 0,none⟩ = some (.slice oa out.length oc) := p2.cell 0; have f2 : w4.frozen? ⟨w.heap.size + 1 + 1 + 1, 0,none⟩ = false := p2.frozen 0)
     obtain ⟨W5,hW5⟩ : ∃ W5,w4.setCell ⟨w.heap.size + 1 + 1 + 1, 0,none⟩ (.slice (some ⟨gM, 0,none⟩) (out.length + 1) capM) = W5 := ⟨_,rfl⟩
     have hwb5 := (HWB.out.app (e := (id,v)) hbm hgM hM3).1
     rw [hW5] at hwb5
     rw [hW5]
     have c05 : W5.cell? ⟨w.heap.size, 0,none⟩ = some (.slice (some ⟨g, 0,none⟩) tb.length sc) := hwb5.b0.cell 0
     have hws5 := hwb5.bel.size
     have hh5 := own_below HH.out hwb5.bel
     have z0 : W5.cell? ⟨g,i * 5,none⟩ = some (.int .i64 id) := (own_cellM hh5 HX.out 0 _ rfl).trans (by rw [heq])
     have HWB5 : Hid (Wb w (.slice (some ⟨g, 0,none⟩) tb.length sc) v (.slice (some ⟨gM, 0,none⟩) (out.length + 1) capM) (out ++ [(id,v)]) W5) := hwb5
     clear hW5 hwb5 hh5 y0 y1 y2 y3 y4 c0 c3 v0 v1 v2 v3 hM3 hgM hatM hltM hbm p2 e2 f2
     go_wp2
     exact ⟨⟨i + 1,_,out ++ [(id,v)],true,rfl,by go_num,by omega,HWB5.out,HMO.out⟩,by simp [intOf]; omega⟩
    ·have HMO : Hid (WithP id v (tb.take (i + 1)) (out ++ [(id,v)] ++ [x]) true) := by show WithP _ _ _ _ _; rw [HT.out]; exact HWP.out.gt hgt
     have hne : ¬ x.1 = id := by omega
     have hge : id ≤ x.1 := by omega
     have v0 : wr.cell? ⟨w.heap.size + 1, 0,none⟩ = some (.int .i64 (v.a : Int)) := HWB.out.b1.cell 0
     have v1 : wr.cell? ⟨w.heap.size + 1, 1,none⟩ = some (.int .i64 (v.b : Int)) := HWB.out.b1.cell 1
     have v2 : wr.cell? ⟨w.heap.size + 1, 2,none⟩ = some (.int .i64 (v.c : Int)) := HWB.out.b1.cell 2
     have v3 : wr.cell? ⟨w.heap.size + 1, 3,none⟩ = some (.int .i64 (v.d : Int)) := HWB.out.b1.cell 3
     go_upto_region 8 with (at_builtin; refine wpList_append_lies _ rfl (.tmp 30) (.tmp 34) 58 rfl w.heap.size 106 i0 _ 5 40 Tryz.underlying58 hi0 hz0 hz1 hz2 rfl (by omega) (.slice oa out.length oc) out.length _ rfl (HWB.out.row.alloc _) ⟨wr.heap.size, 0,none⟩ 1 1 [.int .i64 id, .int .i64 (v.a : Int), .int .i64 (v.b : Int), .int .i64 (v.c : Int), .int .i64 (v.d : Int)] rfl rfl (World.news_of_block (cs := #[.int .i64 id, .int .i64 (v.a : Int), .int .i64 (v.b : Int), .int .i64 (v.c : Int), .int .i64 (v.d : Int)]) (t := 106) (fr := (0, 0)) (heap_alloc_new wr _)) (by simp [Value.oneCell']) (by omega) (by unfold maxLen; omega) (by omega) (by simp; omega) (wr.heap.size + 1) (by simp) ?_; intro gM capM w4 hM3 hgM hatM hltM; have hbm : Below wr.heap.size wr (wr.alloc (.cells #[.int .i64 id, .int .i64 (v.a : Int), .int .i64 (v.b : Int), .int .i64 (v.c : Int), .int .i64 (v.d : Int)] 106)) := (Below.refl _ wr).alloc (Nat.le_refl _) _; have p2 := (HWB.out.app (e := (id,v)) hbm hgM hM3).2; have e2 : w4.cell? ⟨w.heap.size + 1 + 1 + 1, 0,none⟩ = some (.slice oa out.length oc) := p2.cell 0; have f2 : w4.frozen? ⟨w.heap.size + 1 + 1 + 1, 0,none⟩ = false := p2.frozen 0)
     obtain ⟨W5,hW5⟩ : ∃ W5,w4.setCell ⟨w.heap.size + 1 + 1 + 1, 0,none⟩ (.slice (some ⟨gM, 0,none⟩) (out.length + 1) capM) = W5 := ⟨_,rfl⟩
     have hwb5 := (HWB.out.app (e := (id,v)) hbm hgM hM3).1
     rw [hW5] at hwb5
     rw [hW5]
     obtain ⟨out2,ho2⟩ : ∃ out2,out ++ [(id,v)] = out2 := ⟨_,rfl⟩
     have hlo2 : out2.length = out.length + 1 := by rw [← ho2]; simp
     rw [ho2] at hwb5 HMO
     rw [← hlo2] at hwb5
     rw [← hlo2]
     have c05 : W5.cell? ⟨w.heap.size, 0,none⟩ = some (.slice (some ⟨g, 0,none⟩) tb.length sc) := hwb5.b0.cell 0
     have c35 : W5.cell? ⟨w.heap.size + 1 + 1 + 1, 0,none⟩ = some (.slice (some ⟨gM, 0,none⟩) out2.length capM) := hwb5.b3.cell 0
     have l35 := hwb5.b3.lt
     have hws5 := hwb5.bel.size
     have hgl5 : g < W5.heap.size := by omega
     have hh5 := own_below HH.out hwb5.bel
     have y5 := own_cellM hh5 HX.out
     have z0 : W5.cell? ⟨g,i * 5,none⟩ = some (.int .i64 x.1) := y5 0 _ rfl
     have z1 : W5.cell? ⟨g,i * 5 + 1,none⟩ = some (.int .i64 (x.2.a : Int)) := y5 1 _ rfl
     have z2 : W5.cell? ⟨g,i * 5 + 2,none⟩ = some (.int .i64 (x.2.b : Int)) := y5 2 _ rfl
     have z3 : W5.cell? ⟨g,i * 5 + 3,none⟩ = some (.int .i64 (x.2.c : Int)) := y5 3 _ rfl
     have z4 : W5.cell? ⟨g,i * 5 + 4,none⟩ = some (.int .i64 (x.2.d : Int)) := y5 4 _ rfl
     have HLO : Hid (out2.length = out.length + 1) := hlo2
     have hol2 : out2.length ≤ 1000002 := by omega
     have HWB5 : Hid (Wb w (.slice (some ⟨g, 0,none⟩) tb.length sc) v (.slice (some ⟨gM, 0,none⟩) out2.length capM) out2 W5) := hwb5
     clear hW5 ho2 hlo2 hwb5 y5 hh5 y0 y1 y2 y3 y4 c0 c3 v0 v1 v2 v3 hM3 hgM hatM hltM hbm p2 e2 f2
     go_upto_region 10 with fail
     go_region_law (refine step_append_lies _ (by rfl) _ _ _ (by rfl) w.heap.size 106 i0 _ 5 40 Tryz.underlying58 hi0 hz0 hz1 hz2 rfl (by omega) (.slice (some ⟨gM, 0,none⟩) out2.length capM) out2.length _ (by rfl) ((HWB5.out.row.alloc _).drew) ⟨W5.heap.size, 0,none⟩ 1 1 [.int .i64 x.1, .int .i64 (x.2.a : Int), .int .i64 (x.2.b : Int), .int .i64 (x.2.c : Int), .int .i64 (x.2.d : Int)] (by rfl) (by rfl) (World.news_of_block (cs := #[.int .i64 x.1, .int .i64 (x.2.a : Int), .int .i64 (x.2.b : Int), .int .i64 (x.2.c : Int), .int .i64 (x.2.d : Int)]) (t := 106) (fr := (0, 0)) (heap_alloc_new W5 _)) (by simp [Value.oneCell']) (by omega) (by unfold maxLen; omega) (by omega) (by simp; omega) (W5.heap.size + 1) (by simp) ?_; intro gN capN w3 hN3 hgN hatN hltN; have hbl : Below W5.heap.size W5 ((W5.alloc (.cells #[.int .i64 x.1, .int .i64 (x.2.a : Int), .int .i64 (x.2.b : Int), .int .i64 (x.2.c : Int), .int .i64 (x.2.d : Int)] 106)).drew) := ((Below.refl _ W5).alloc (Nat.le_refl _) _).drew; have q2 := (HWB5.out.app (e := x) hbl hgN hN3).2; have d2 : w3.cell? ⟨w.heap.size + 1 + 1 + 1, 0,none⟩ = some (.slice (some ⟨gM, 0,none⟩) out2.length capM) := q2.cell 0; have g2 : w3.frozen? ⟨w.heap.size + 1 + 1 + 1, 0,none⟩ = false := q2.frozen 0)
     all_goals
      go_wp2
      exact ⟨⟨i + 1,_,out2 ++ [x],true,rfl,by go_num,by omega,(HWB5.out.app (e := x) hbl hgN hN3).1,HMO.out⟩,by simp [intOf]; omega⟩
  ·have hlt' : ¬ (i : Int) < (tb.length : Int) := by omega
   have hin : i = tb.length := by omega
   subst hin
   have hend := HWP.out.end_
   rw [List.take_length] at hend
   have c2 : wr.cell? ⟨w.heap.size + 1 + 1, 0,none⟩ = some (.slice none 0 0) := HWB.out.b2.cell 0
   have g2 : wr.frozen? ⟨w.heap.size + 1 + 1, 0,none⟩ = false := HWB.out.b2.frozen 0
   cases put with
   | true =>
    have HE : Hid (out = tput id v tb) := hend
    clear hend
    go_wp2
    have z1 := HWB.out.b2.set 0 (.slice oa out.length oc)
    have d1 : (wr.setCell ⟨w.heap.size + 1 + 1, 0,none⟩ (.slice oa out.length oc)).cell? ⟨w.heap.size + 1 + 1, 0,none⟩ = some (.slice oa out.length oc) := z1.cell 0
    refine bodyPost_ret (v := .agg #[.slice oa out.length oc]) (by simp [results,Tryz.results53,go_sem,d1]) rfl ?_
    have o1 : Off (fun k => k = w.heap.size + 1 + 1) wr (wr.setCell ⟨w.heap.size + 1 + 1, 0,none⟩ (.slice oa out.length oc)) := Off.one wr _
    rw [← HE.out]
    exact ⟨_,rfl,own_offv HWB.out.row o1 (fun g hg e => own_ne HWB.out.row HWB.out.b2 (by decide) g hg e),HWB.out.bel.trans (o1.below hws (fun k h => by omega))⟩
   | false =>
    have HE : Hid (out ++ [(id,v)] = tput id v tb) := hend
    clear hend
    have v0 : wr.cell? ⟨w.heap.size + 1, 0,none⟩ = some (.int .i64 (v.a : Int)) := HWB.out.b1.cell 0
    have v1 : wr.cell? ⟨w.heap.size + 1, 1,none⟩ = some (.int .i64 (v.b : Int)) := HWB.out.b1.cell 1
    have v2 : wr.cell? ⟨w.heap.size + 1, 2,none⟩ = some (.int .i64 (v.c : Int)) := HWB.out.b1.cell 2
    have v3 : wr.cell? ⟨w.heap.size + 1, 3,none⟩ = some (.int .i64 (v.d : Int)) := HWB.out.b1.cell 3
    go_upto_region 13 with (at_builtin; refine wpList_append_lies _ rfl (.tmp 58) (.tmp 62) 58 rfl w.heap.size 106 i0 _ 5 40 Tryz.underlying58 hi0 hz0 hz1 hz2 rfl (by omega) (.slice oa out.length oc) out.length _ rfl (HWB.out.row.alloc _) ⟨wr.heap.size, 0,none⟩ 1 1 [.int .i64 id, .int .i64 (v.a : Int), .int .i64 (v.b : Int), .int .i64 (v.c : Int), .int .i64 (v.d : Int)] rfl rfl (World.news_of_block (cs := #[.int .i64 id, .int .i64 (v.a : Int), .int .i64 (v.b : Int), .int .i64 (v.c : Int), .int .i64 (v.d : Int)]) (t := 106) (fr := (0, 0)) (heap_alloc_new wr _)) (by simp [Value.oneCell']) (by omega) (by unfold maxLen; omega) (by omega) (by simp; omega) (wr.heap.size + 1) (by simp) ?_; intro gM capM w4 hM3 hgM hatM hltM; have hbm : Below wr.heap.size wr (wr.alloc (.cells #[.int .i64 id, .int .i64 (v.a : Int), .int .i64 (v.b : Int), .int .i64 (v.c : Int), .int .i64 (v.d : Int)] 106)) := (Below.refl _ wr).alloc (Nat.le_refl _) _; have p2 := (HWB.out.app (e := (id,v)) hbm hgM hM3).2; have e2 : w4.cell? ⟨w.heap.size + 1 + 1 + 1, 0,none⟩ = some (.slice oa out.length oc) := p2.cell 0; have f2 : w4.frozen? ⟨w.heap.size + 1 + 1 + 1, 0,none⟩ = false := p2.frozen 0)
    obtain ⟨W5,hW5⟩ : ∃ W5,w4.setCell ⟨w.heap.size + 1 + 1 + 1, 0,none⟩ (.slice (some ⟨gM, 0,none⟩) (out.length + 1) capM) = W5 := ⟨_,rfl⟩
    have hwb5 := (HWB.out.app (e := (id,v)) hbm hgM hM3).1
    rw [hW5] at hwb5
    rw [hW5]
    rw [HE.out] at hwb5
    have c25 : W5.cell? ⟨w.heap.size + 1 + 1, 0,none⟩ = some (.slice none 0 0) := hwb5.b2.cell 0
    have g25 : W5.frozen? ⟨w.heap.size + 1 + 1, 0,none⟩ = false := hwb5.b2.frozen 0
    have c35 : W5.cell? ⟨w.heap.size + 1 + 1 + 1, 0,none⟩ = some (.slice (some ⟨gM, 0,none⟩) (out.length + 1) capM) := hwb5.b3.cell 0
    have HWB5 : Hid (Wb w (.slice sa tb.length sc) v (.slice (some ⟨gM, 0,none⟩) (out.length + 1) capM) (tput id v tb) W5) := hwb5
    clear hW5 hwb5 hM3 hgM hatM hltM hbm p2 e2 f2 c0 c2 c3 g2 v0 v1 v2 v3
    go_wp2
    have z1 := HWB5.out.b2.set 0 (.slice (some ⟨gM, 0,none⟩) (out.length + 1) capM)
    have d1 : (W5.setCell ⟨w.heap.size + 1 + 1, 0,none⟩ (.slice (some ⟨gM, 0,none⟩) (out.length + 1) capM)).cell? ⟨w.heap.size + 1 + 1, 0,none⟩ = some (.slice (some ⟨gM, 0,none⟩) (out.length + 1) capM) := z1.cell 0
    refine bodyPost_ret (v := .agg #[.slice (some ⟨gM, 0,none⟩) (out.length + 1) capM]) (by simp [results,Tryz.results53,go_sem,d1]) rfl ?_
    have o1 : Off (fun k => k = w.heap.size + 1 + 1) W5 (W5.setCell ⟨w.heap.size + 1 + 1, 0,none⟩ (.slice (some ⟨gM, 0,none⟩) (out.length + 1) capM)) := Off.one W5 _
    exact ⟨_,rfl,own_offv HWB5.out.row o1 (fun g hg e => own_ne HWB5.out.row HWB5.out.b2 (by decide) g hg e),HWB5.out.bel.trans (o1.below HWB5.out.bel.size (fun k h => by omega))⟩
end
end Go.Proofs.YtdgbgmffpcooeaaGreat
