/- Kp2 Kp3 -/
import Derived.Test.YtdgbgmffpcooeaaGreatV43
import Derived.Test.YtdgbgmffpcooeaaGreatV41
namespace Go.Proofs.YtdgbgmffpcooeaaGreat
open Go.RowKit Go.Lib
section
def entM (t : Int × Box) : List Value := [.int .i64 t.1, .int .i64 (t.2.a : Int), .int .i64 (t.2.b : Int), .int .i64 (t.2.c : Int), .int .i64 (t.2.d : Int)]
def rowM (tb : List (Int × Box)) : List Value := tb.flatMap entM
theorem rowM_get : ∀ {l : List (Int × Box)} {i : Nat} {x : Int × Box},l[i]? = some x → ∀ j,j < 5 → (rowM l)[i * 5 + j]? = (entM x)[j]?
 | [],i,x,h,_,_ => by cases h
 | y :: l, 0,x,h,j,hj => by
  simp only [List.getElem?_cons_zero,Option.some.injEq] at h
  subst h
  show (entM y ++ rowM l)[0 * 5 + j]? = _
  rw [show 0 * 5 + j = j by omega,List.getElem?_append_left (by simp [entM]; omega)]
 | y :: l,i + 1,x,h,j,hj => by
  rw [List.getElem?_cons_succ] at h
  show (entM y ++ rowM l)[(i + 1) * 5 + j]? = _
  rw [List.getElem?_append_right (by simp [entM]; omega),show (i + 1) * 5 + j - (entM y).length = i * 5 + j by simp [entM]; omega]
  exact rowM_get h j hj
theorem rowM_append (a b : List (Int × Box)) : rowM (a ++ b) = rowM a ++ rowM b := List.flatMap_append ..
abbrev TabV (W : World) (base : Nat) (sv : Value) (tb : List (Int × Box)) : Prop := W.ownsRow base 106 5 sv tb.length (rowM tb)
theorem own_cellM {W : World} {base : Nat} {g cap : Nat} {tb : List (Int × Box)} (h : TabV W base (.slice (some ⟨g, 0,none⟩) tb.length cap) tb) {i : Nat} {x : Int × Box} (hx : tb[i]? = some x) : ∀ j v,(entM x)[j]? = some v → W.cell? ⟨g,i * 5 + j,none⟩ = some v := fun j v hv => by
 have hj : j < 5 := by have := (List.getElem?_eq_some_iff.1 hv).1; simpa [entM] using this
 have hi : i < tb.length := (List.getElem?_eq_some_iff.1 hx).1
 have := (own_cell h (i * 5 + j) (by omega)).1
 rw [rowM_get hx j hj,hv] at this
 exact this
def rectOf (o : Option Box) : Box := o.getD ⟨0, 0, 0, 0⟩
abbrev boxA (v : Box) : Array Value := #[.int .i64 (v.a : Int), .int .i64 (v.b : Int), .int .i64 (v.c : Int), .int .i64 (v.d : Int)]
theorem take_get {α : Type} {l : List α} {i : Nat} {x : α} (h : l[i]? = some x) : l.take (i + 1) = l.take i ++ [x] := by
 rw [List.take_add_one,h]; rfl
set_option maxRecDepth 100000 in
set_option maxHeartbeats 2000000 in
theorem mget_any (w : World) (base : Nat) (sv : Value) (tb : List (Int × Box)) (h : TabV w base sv tb) (hu : tb.Pairwise fun a b => a.1 < b.1) (hl : tb.length ≤ 1000000) (id : Int) :
  Calls Tryz.prog 44 #[.agg #[sv], .int .i64 id] w fun e w' => e = .returned (.tuple #[.agg (boxA (rectOf (tget id tb))), .bool (tget id tb).isSome]) ∧ Below w.heap.size w w' := by
 obtain ⟨W1,hW1⟩ : ∃ W1,(w.alloc (.cells #[sv] 60)).alloc (.cells #[.int .i64 0, .int .i64 0, .int .i64 0, .int .i64 0] 34) = W1 := ⟨_,rfl⟩
 have hb1 : Below w.heap.size w W1 := by rw [← hW1]; exact ((Below.refl _ w).alloc (Nat.le_refl _) _).alloc (by simp) _
 have b0 : Blk W1 w.heap.size 60 #[sv] := by rw [← hW1]; exact (Blk.new w 60 _).alloc _
 have b1 : Blk W1 (w.heap.size + 1) 34 #[.int .i64 0, .int .i64 0, .int .i64 0, .int .i64 0] := by
  rw [← hW1]; have := Blk.new (w.alloc (.cells #[sv] 60)) 34 #[.int .i64 0, .int .i64 0, .int .i64 0, .int .i64 0]; rwa [World.size_alloc] at this
 have h1 := own_below h hb1
 obtain ⟨sa,sc,rfl,_,_,_⟩ := own_shape h1
 have c0 : W1.cell? ⟨w.heap.size, 0,none⟩ = some (.slice sa tb.length sc) := b0.cell 0
 have d0 : W1.cell? ⟨w.heap.size + 1, 0,none⟩ = some (.int .i64 0) := b1.cell 0
 have d1 : W1.cell? ⟨w.heap.size + 1, 1,none⟩ = some (.int .i64 0) := b1.cell 1
 have d2 : W1.cell? ⟨w.heap.size + 1, 2,none⟩ = some (.int .i64 0) := b1.cell 2
 have d3 : W1.cell? ⟨w.heap.size + 1, 3,none⟩ = some (.int .i64 0) := b1.cell 3
 have f0 : W1.frozen? ⟨w.heap.size + 1, 0,none⟩ = false := b1.frozen 0
 have f1 : W1.frozen? ⟨w.heap.size + 1, 1,none⟩ = false := b1.frozen 1
 have f2 : W1.frozen? ⟨w.heap.size + 1, 2,none⟩ = false := b1.frozen 2
 have f3 : W1.frozen? ⟨w.heap.size + 1, 3,none⟩ = false := b1.frozen 3
 have HB1 : Hid (Blk W1 (w.heap.size + 1) 34 #[.int .i64 0, .int .i64 0, .int .i64 0, .int .i64 0]) := b1
 have HBE : Hid (Below w.heap.size w W1) := hb1
 have HW1 : Hid ((w.alloc (.cells #[.slice sa tb.length sc] 60)).alloc (.cells #[.int .i64 0, .int .i64 0, .int .i64 0, .int .i64 0] 34) = W1) := hW1
 have HH1 : Hid (TabV W1 base (.slice sa tb.length sc) tb) := h1
 have HU : Hid (tb.Pairwise fun a b => a.1 < b.1) := hu
 have hsz := hb1.size
 clear hb1 b0 b1 h1 hW1 h hu
 go_enter Tryz.func44,Tryz.ntmps44
 go_upto_region 1 with fail
 rw [HW1.out]
 go_wp2
 go_loopw [6] (fun x wr => ∃ i : Nat,x = .int .i64 (i : Int) ∧ i ≤ tb.length ∧ (∀ t ∈ tb.take i,t.1 ≠ id) ∧ wr = W1) (fun x _ => tb.length - (intOf x).toNat)
 case atStart => exact ⟨0,rfl,Nat.zero_le _,fun t ht => by simp at ht,rfl⟩
 case round =>
  obtain ⟨i,rfl,hi,hno,rfl⟩ := hrel
  by_cases hlt : i < tb.length
  ·have hlt' : (i : Int) < (tb.length : Int) := by omega
   obtain ⟨x,hx⟩ : ∃ x,tb[i]? = some x := ⟨_,List.getElem?_eq_getElem hlt⟩
   have hsa : ∃ g,sa = some ⟨g, 0,none⟩ := by
    obtain ⟨_,⟨e,hn⟩ | ⟨g,cap,cur,e,_⟩⟩ := HH1.out
    ·omega
    ·cases e; exact ⟨g,rfl⟩
   obtain ⟨g,rfl⟩ := hsa
   have y := own_cellM HH1.out hx
   have y0 : wr.cell? ⟨g,i * 5,none⟩ = some (.int .i64 x.1) := y 0 _ rfl
   have y1 : wr.cell? ⟨g,i * 5 + 1,none⟩ = some (.int .i64 (x.2.a : Int)) := y 1 _ rfl
   have y2 : wr.cell? ⟨g,i * 5 + 2,none⟩ = some (.int .i64 (x.2.b : Int)) := y 2 _ rfl
   have y3 : wr.cell? ⟨g,i * 5 + 3,none⟩ = some (.int .i64 (x.2.c : Int)) := y 3 _ rfl
   have y4 : wr.cell? ⟨g,i * 5 + 4,none⟩ = some (.int .i64 (x.2.d : Int)) := y 4 _ rfl
   have HX : Hid (tb[i]? = some x) := hx
   have HNO : Hid (∀ t ∈ tb.take i,t.1 ≠ id) := hno
   clear y hx hno
   by_cases he : x.1 = id
   ·have HT : Hid (tget id tb = some x.2) := (tget_some HU.out).2 (he ▸ List.mem_of_getElem? HX.out)
    go_wp2
    obtain ⟨k4,ko⟩ := put4b HB1.out (.int .i64 (x.2.a : Int)) (.int .i64 (x.2.b : Int)) (.int .i64 (x.2.c : Int)) (.int .i64 (x.2.d : Int))
    have e0 := k4.cell 0
    have e1 := k4.cell 1
    have e2 := k4.cell 2
    have e3 := k4.cell 3
    simp only [List.getElem?_toArray,List.getElem?_cons_zero,List.getElem?_cons_succ] at e0 e1 e2 e3
    refine bodyPost_ret (v := .tuple #[.agg (boxA x.2), .bool true]) (by simp [results,Tryz.results44,go_sem,e0,e1,e2,e3]) rfl ?_
    exact ⟨by rw [HT.out]; rfl,HBE.out.trans (ko.below (by omega) (fun k h => by omega))⟩
   ·go_wp2
    refine ⟨⟨i + 1,by go_num,by omega,fun t ht => ?_,trivial⟩,by simp [intOf]; omega⟩
    rw [take_get HX.out] at ht
    rcases List.mem_append.1 ht with g1 | g1
    ·exact HNO.out t g1
    ·rw [List.mem_singleton.1 g1]; exact he
  ·have hlt' : ¬ (i : Int) < (tb.length : Int) := by omega
   have hin : i = tb.length := by omega
   rw [hin,List.take_length] at hno
   have HT : Hid (tget id tb = none) := tget_none.2 hno
   clear hno
   go_wp2
   obtain ⟨k4,ko⟩ := put4b HB1.out (.int .i64 0) (.int .i64 0) (.int .i64 0) (.int .i64 0)
   have e0 := k4.cell 0
   have e1 := k4.cell 1
   have e2 := k4.cell 2
   have e3 := k4.cell 3
   simp only [List.getElem?_toArray,List.getElem?_cons_zero,List.getElem?_cons_succ] at e0 e1 e2 e3
   refine bodyPost_ret (v := .tuple #[.agg #[.int .i64 0, .int .i64 0, .int .i64 0, .int .i64 0], .bool false]) (by simp [results,Tryz.results44,go_sem,e0,e1,e2,e3]) rfl ?_
   exact ⟨by rw [HT.out]; rfl,HBE.out.trans (ko.below (by omega) (fun k h => by omega))⟩
end
end Go.Proofs.YtdgbgmffpcooeaaGreat
namespace Go.Proofs.YtdgbgmffpcooeaaGreat
open Go.RowKit Go.Lib Go.Shelf
section
theorem infoM : (Tryz.prog.info? 106).map (fun i => (i.zero,i.size,i.bytes)) = some (some (.agg #[.int .i64 0, .int .i64 0, .int .i64 0, .int .i64 0, .int .i64 0]), 5, 40) := by kernel_rfl
set_option maxRecDepth 100000 in
set_option maxHeartbeats 4000000 in
theorem mdel_any (w : World) (base : Nat) (sv : Value) (tb : List (Int × Box)) (h : TabV w base sv tb) (hl : tb.length ≤ 1000000) (id : Int) :
  Calls Tryz.prog 45 #[.agg #[sv], .int .i64 id] w fun e w' => ∃ ov,e = .returned (.agg #[ov]) ∧ TabV w' w.heap.size ov (tdel id tb) ∧ Below w.heap.size w w' := by
 obtain ⟨i0,hi0,hz0,hz1,hz2⟩ := info_parts infoM
 obtain ⟨sa,sc,rfl,_,_,_⟩ := own_shape h
 obtain ⟨W1,hW1⟩ : ∃ W1,((w.alloc (.cells #[.slice sa tb.length sc] 60)).alloc (.cells #[.slice none 0 0] 60)).alloc (.cells #[.slice none 0 0] 60) = W1 := ⟨_,rfl⟩
 have hb1 : Below w.heap.size w W1 := by rw [← hW1]; exact (((Below.refl _ w).alloc (Nat.le_refl _) _).alloc (by simp) _).alloc (by simp; omega) _
 have b0 : Blk W1 w.heap.size 60 #[.slice sa tb.length sc] := by rw [← hW1]; exact ((Blk.new w 60 _).alloc _).alloc _
 have b1 : Blk W1 (w.heap.size + 1) 60 #[.slice none 0 0] := by
  rw [← hW1]; have := (Blk.new (w.alloc (.cells #[.slice sa tb.length sc] 60)) 60 #[.slice none 0 0]).alloc (.cells #[.slice none 0 0] 60); rwa [World.size_alloc] at this
 have b2 : Blk W1 (w.heap.size + 1 + 1) 60 #[.slice none 0 0] := by
  rw [← hW1]; have := Blk.new ((w.alloc (.cells #[.slice sa tb.length sc] 60)).alloc (.cells #[.slice none 0 0] 60)) 60 #[.slice none 0 0]; simp only [World.size_alloc] at this; exact this
 have HH : Hid (TabV w base (.slice sa tb.length sc) tb) := h
 have HW1 : Hid (((w.alloc (.cells #[.slice sa tb.length sc] 60)).alloc (.cells #[.slice none 0 0] 60)).alloc (.cells #[.slice none 0 0] 60) = W1) := hW1
 clear h hW1
 go_enter Tryz.func45,Tryz.ntmps45
 go_upto_region 2 with fail
 rw [HW1.out]
 go_wp2
 go_loopw [6] (fun x wr => ∃ (i : Nat) (ov : Value),x = .int .i64 (i : Int) ∧ i ≤ tb.length ∧ Blk wr w.heap.size 60 #[.slice sa tb.length sc] ∧ Blk wr (w.heap.size + 1) 60 #[.slice none 0 0] ∧ Blk wr (w.heap.size + 1 + 1) 60 #[ov] ∧ TabV wr w.heap.size ov (tdel id (tb.take i)) ∧ Below w.heap.size w wr) (fun x _ => tb.length - (intOf x).toNat)
 case atStart => exact ⟨0, .slice none 0 0,rfl,Nat.zero_le _,b0,b1,b2,⟨by simp [tdel,rowM], .inl ⟨rfl,by simp [tdel]⟩⟩,hb1⟩
 case round =>
  obtain ⟨i,ov,rfl,hi,k0,k1,k2,hrow,hbr⟩ := hrel
  have c0 : wr.cell? ⟨w.heap.size, 0,none⟩ = some (.slice sa tb.length sc) := k0.cell 0
  clear b0 b1 b2 hb1
  by_cases hlt : i < tb.length
  ·have hlt' : (i : Int) < (tb.length : Int) := by omega
   obtain ⟨x,hx⟩ : ∃ x,tb[i]? = some x := ⟨_,List.getElem?_eq_getElem hlt⟩
   have hsa : ∃ g,sa = some ⟨g, 0,none⟩ := by
    obtain ⟨_,⟨e,hn⟩ | ⟨g,cap,cur,e,_⟩⟩ := HH.out
    ·omega
    ·cases e; exact ⟨g,rfl⟩
   obtain ⟨g,rfl⟩ := hsa
   have hh := own_below HH.out hbr
   have y := own_cellM hh hx
   have y0 : wr.cell? ⟨g,i * 5,none⟩ = some (.int .i64 x.1) := y 0 _ rfl
   have y1 : wr.cell? ⟨g,i * 5 + 1,none⟩ = some (.int .i64 (x.2.a : Int)) := y 1 _ rfl
   have y2 : wr.cell? ⟨g,i * 5 + 2,none⟩ = some (.int .i64 (x.2.b : Int)) := y 2 _ rfl
   have y3 : wr.cell? ⟨g,i * 5 + 3,none⟩ = some (.int .i64 (x.2.c : Int)) := y 3 _ rfl
   have y4 : wr.cell? ⟨g,i * 5 + 4,none⟩ = some (.int .i64 (x.2.d : Int)) := y 4 _ rfl
   have hT : tb.take (i + 1) = tb.take i ++ [x] := take_get hx
   clear y hx
   by_cases he : x.1 = id
   ·have HD : Hid (tdel id (tb.take (i + 1)) = tdel id (tb.take i)) := by show _ = _; rw [hT]; exact tdel_snoc_eq he
    have HR : Hid (TabV wr w.heap.size ov (tdel id (tb.take i))) := hrow
    clear hT hrow
    go_wp2
    exact ⟨⟨i + 1,ov,by go_num,by omega,k0,k1,k2,by rw [HD.out]; exact HR.out,hbr⟩,by simp [intOf]; omega⟩
   ·have HD : Hid (tdel id (tb.take (i + 1)) = tdel id (tb.take i) ++ [x]) := by show _ = _; rw [hT]; exact tdel_snoc he
    have hdl : (tdel id (tb.take i)).length ≤ 1000000 := by have h8 : (tdel id (tb.take i)).length ≤ (tb.take i).length := tdel_len; rw [List.length_take] at h8; omega
    obtain ⟨P,hP⟩ : ∃ P,tdel id (tb.take i) = P := ⟨_,rfl⟩
    rw [hP] at HD hrow hdl
    obtain ⟨oa,oc,rfl,_,_,_⟩ := own_shape hrow
    have c2 : wr.cell? ⟨w.heap.size + 1 + 1, 0,none⟩ = some (.slice oa P.length oc) := k2.cell 0
    have f2 : wr.frozen? ⟨w.heap.size + 1 + 1, 0,none⟩ = false := k2.frozen 0
    have HR : Hid (TabV wr w.heap.size (.slice oa P.length oc) P) := hrow
    have HK0 : Hid (Blk wr w.heap.size 60 #[.slice (some ⟨g, 0,none⟩) tb.length sc]) := k0
    have HK1 : Hid (Blk wr (w.heap.size + 1) 60 #[.slice none 0 0]) := k1
    have HK2 : Hid (Blk wr (w.heap.size + 1 + 1) 60 #[.slice oa P.length oc]) := k2
    have HB : Hid (Below w.heap.size w wr) := hbr
    have HHR : Hid (TabV wr base (.slice (some ⟨g, 0,none⟩) tb.length sc) tb) := hh
    have hgl : g < w.heap.size := (own_lt HH.out).2
    have hws := hbr.size
    have hk2l : w.heap.size + 1 + 1 < wr.heap.size := k2.lt
    have hk0l : w.heap.size < wr.heap.size := k0.lt
    have hgl2 : g < wr.heap.size := by omega
    clear hP hT hrow k0 k1 k2 hbr hh
    go_upto_region 6 with fail
    go_region_law (refine step_append_lies _ (by rfl) _ _ _ (by rfl) w.heap.size 106 i0 _ 5 40 Tryz.underlying58 hi0 hz0 hz1 hz2 rfl (by omega) (.slice oa P.length oc) P.length _ (by rfl) ((HR.out.alloc _).drew) ⟨wr.heap.size, 0,none⟩ 1 1 [.int .i64 x.1, .int .i64 (x.2.a : Int), .int .i64 (x.2.b : Int), .int .i64 (x.2.c : Int), .int .i64 (x.2.d : Int)] (by rfl) (by rfl) (World.news_of_block (cs := #[.int .i64 x.1, .int .i64 (x.2.a : Int), .int .i64 (x.2.b : Int), .int .i64 (x.2.c : Int), .int .i64 (x.2.d : Int)]) (t := 106) (fr := (0, 0)) (heap_alloc_new wr _)) (by simp [Value.oneCell']) (by omega) (by unfold maxLen; omega) (by omega) (by simp; omega) (wr.heap.size + 1) (by simp) ?_; intro gN capN w3 hN3 hgN hatN hltN; have q2 : Blk w3 (w.heap.size + 1 + 1) 60 #[.slice oa P.length oc] := ((HK2.out.alloc _).drew).grown hgN (fun j hj => own_ne HR.out HK2.out (by decide) j hj); have d2 : w3.cell? ⟨w.heap.size + 1 + 1, 0,none⟩ = some (.slice oa P.length oc) := q2.cell 0; have g2 : w3.frozen? ⟨w.heap.size + 1 + 1, 0,none⟩ = false := q2.frozen 0)
    all_goals
     go_wp2
     have z2 := q2.set 0 (.slice (some ⟨gN, 0,none⟩) (P.length + 1) capN)
     have oA : Off (fun k => (Value.slice oa P.length oc).ownBlock = some k) wr w3 := (((Off.refl _ wr).alloc _).drew).grown hgN (fun j hj => .inl hj)
     have o2 : Off (fun k => k = w.heap.size + 1 + 1) w3 (w3.setCell ⟨w.heap.size + 1 + 1, 0,none⟩ (.slice (some ⟨gN, 0,none⟩) (P.length + 1) capN)) := Off.one w3 _
     have q0 := HK0.out.off oA (fun hg => own_ne HR.out HK0.out (by decide) _ hg rfl)
     have q1 := HK1.out.off oA (fun hg => own_ne HR.out HK1.out (by decide) _ hg rfl)
     have hq3 : TabV w3 w.heap.size (.slice (some ⟨gN, 0,none⟩) (P.length + 1) capN) (P ++ [x]) := by
      show World.ownsRow _ _ _ _ _ _ _
      rw [rowM_append,List.length_append]
      exact hN3
     refine ⟨⟨i + 1,_,by go_num,by omega,q0.off o2 (by omega),q1.off o2 (by omega),z2, ?_, ?_⟩,by simp [intOf]; omega⟩
     ·rw [HD.out]
      exact own_offv hq3 o2 (fun g hg e => own_ne hq3 q2 (by decide) g hg e)
     ·have h1 := HB.out.trans (oA.below hws (fun k hk => (own_tagged HR.out hk).1))
      exact h1.trans (o2.below h1.size (fun k h => by omega))
  ·have hlt' : ¬ (i : Int) < (tb.length : Int) := by omega
   have hin : i = tb.length := by omega
   rw [hin,List.take_length] at hrow
   obtain ⟨oa,oc,rfl,_,_,_⟩ := own_shape hrow
   have c1 : wr.cell? ⟨w.heap.size + 1, 0,none⟩ = some (.slice none 0 0) := k1.cell 0
   have f1 : wr.frozen? ⟨w.heap.size + 1, 0,none⟩ = false := k1.frozen 0
   have c2 : wr.cell? ⟨w.heap.size + 1 + 1, 0,none⟩ = some (.slice oa (tdel id tb).length oc) := k2.cell 0
   have HR : Hid (TabV wr w.heap.size (.slice oa (tdel id tb).length oc) (tdel id tb)) := hrow
   clear hrow
   go_wp2
   have z1 := k1.set 0 (.slice oa (tdel id tb).length oc)
   have d1 : (wr.setCell ⟨w.heap.size + 1, 0,none⟩ (.slice oa (tdel id tb).length oc)).cell? ⟨w.heap.size + 1, 0,none⟩ = some (.slice oa (tdel id tb).length oc) := z1.cell 0
   refine bodyPost_ret (v := .agg #[.slice oa (tdel id tb).length oc]) (by simp [results,Tryz.results45,go_sem,d1]) rfl ?_
   have o1 : Off (fun k => k = w.heap.size + 1) wr (wr.setCell ⟨w.heap.size + 1, 0,none⟩ (.slice oa (tdel id tb).length oc)) := Off.one wr _
   exact ⟨_,rfl,own_offv HR.out o1 (fun g hg e => own_ne HR.out k1 (by decide) g hg e),hbr.trans (o1.below hbr.size (fun k h => by omega))⟩
end
end Go.Proofs.YtdgbgmffpcooeaaGreat
