/- C1S -/
import Derived.Test.YtdgbgmffpcooeaaGreatU08
namespace Go.Proofs.YtdgbgmffpcooeaaGreat
open Go.RowKit Go.Lib
section
theorem infoS : (Tryz.prog.info? 234).map (fun i => (i.zero,i.size,i.bytes)) = some (some (.agg #[.int .i64 0, .int .i64 0, .int .i64 0]), 3, 24) := by kernel_rfl
set_option maxRecDepth 100000 in
set_option maxHeartbeats 2000000 in
theorem growS_any (w : World) (n : Nat) (hn : n ≤ 1000000) :
  Calls Tryz.prog 230 #[.slice none 0 0, .int .i64 (n : Int)] w fun e w' => ∃ v,e = .returned v ∧ w'.ownsRow w.heap.size 234 3 v 0 [] ∧ Below w.heap.size w w' := by
 obtain ⟨i0,hi0,hz0,hz1,hz2⟩ := info_parts infoS
 by_cases h0 : n = 0
 ·subst h0
  refine (Any8.slices_Grow_room Tryz.growP none 0 0 0 w (Nat.le_refl _) (by omega) (by omega) (by omega)).mono ?_
  rintro e w' ⟨rfl,rfl⟩
  exact ⟨_,rfl,World.ownsRow_nil ..,Below.refl _ _⟩
 ·refine (Any8.slices_Grow_grow Tryz.growP i0 _ hi0 hz0 (by omega) none 0 0 n [] w (Nat.le_refl _) (by omega) (by rw [hz2]; omega) (by omega) (by simp) (fun _ => rfl) (fun a h => by cases h)).mono ?_
  rintro e w' ⟨rfl,rfl⟩
  have hge := grownCap_ge w (0 + n) 0 (Tryz.growP_ren.t 25)
  have hle := grownCap_le_maxLen w (0 + n) 0 (Tryz.growP_ren.t 25) (by unfold maxLen; omega)
  generalize grownCap w (0 + n) 0 (Tryz.growP_ren.t 25) = cap at hge hle ⊢
  refine ⟨_,rfl,⟨rfl, .inr ⟨w.heap.size,cap,_,rfl,Nat.le_refl _,World.alloc_heap_new w.drew _,Nat.zero_le _,hle, ?_,by simp⟩⟩,((Below.refl _ w).drew).alloc (Nat.le_refl _) _⟩
  simp only [Array.size_append,size_zeroCells]
  simp [Value.cells]
  omega
set_option maxRecDepth 100000 in
set_option maxHeartbeats 4000000 in
theorem concatS_any (w : World) (p : Nat) (L : List SrcL) (n : Nat) (hn : n = L.length) (hp : ∀ i x,L[i]? = some x → p < w.heap.size ∧ w.cell? ⟨p,i,none⟩ = some x.v) (hL : ∀ x ∈ L,Src w 3 x.v x.m x.cs) (hs : lenS L ≤ 1000000) (hn3 : n ≤ 3) :
  Calls Tryz.prog 222 #[.slice (some ⟨p, 0,none⟩) n n] w fun e w' => ∃ v,e = .returned v ∧ w'.ownsRow w.heap.size 234 3 v (lenS L) (allS L) ∧ Below w.heap.size w w' := by
 obtain ⟨i0,hi0,hz0,hz1,hz2⟩ := info_parts infoS
 have HN : Hid (n = L.length) := hn
 clear hn
 go_enter Tryz.func222,Tryz.ntmps222
 go_wp2
 go_loopw [3, 11] (fun s x wr => wr = w ∧ ∃ i : Nat,x = .int .i64 (i : Int) ∧ i ≤ n ∧ s = .int .i64 (lenS (L.take i) : Int)) (fun _ x _ => n - (intOf x).toNat)
 case atStart => exact ⟨rfl, 0,rfl,Nat.zero_le _,by simp [lenS]⟩
 case round =>
  obtain ⟨rfl,i,rfl,hi,rfl⟩ := hrel
  by_cases hlt : i < n
  ·have hlt' : (i : Int) < (n : Int) := by omega
   obtain ⟨x,hx⟩ : ∃ x,L[i]? = some x := ⟨_,List.getElem?_eq_getElem (by have := HN.out; omega)⟩
   obtain ⟨hpl,hc⟩ := hp i x hx
   have hle := lenS_take_le L (i + 1)
   rw [take_snoc hx,lenS_snoc] at hle
   have HS : Hid (lenS (L.take (i + 1)) = lenS (L.take i) + x.m) := by show _ = _; rw [take_snoc hx,lenS_snoc]
   obtain ⟨a,cp,hv⟩ : ∃ a cp,x.v = .slice a x.m cp := by
    rcases (hL x (List.mem_of_getElem? hx)).at_ with ⟨h1,h2⟩ | ⟨ad,c,h1,_⟩
    ·exact ⟨none, 0,by rw [h1,h2]⟩
    ·exact ⟨_,c,h1⟩
   rw [hv] at hc
   generalize lenS (L.take i) = S at hle HS ⊢
   generalize x.m = M at hle HS hc ⊢
   have q1 : wrap64 ((S : Int) + (M : Int)) = ((S + M : Nat) : Int) := by unfold wrap64; omega
   have q2 : decide (((S + M : Nat) : Int) < 0) = false := by simp; omega
   have q3 : decide ((S : Int) + (M : Int) < 0) = false := by simp; omega
   clear hp hL hx hv
   go_wp2
   refine ⟨⟨trivial,i + 1,by go_num,by omega, ?_⟩,by simp [intOf]; omega⟩
   rw [HS.out]; go_num
  ·have hlt' : decide ((i : Int) < (n : Int)) = false := by simp; omega
   have hlt2 : decide (i < n) = false := by simp; omega
   have hall : L.take i = L := List.take_of_length_le (by have := HN.out; omega)
   rw [hall]
   rename World => W0
   have hcon := growS_any W0 (lenS L) hs
   clear hall
   go_wp2_with (go_at_call 230; refine hcon.mono ?_; rintro e w1 ⟨v1,rfl,hown1,hb1⟩)
   clear hcon
   go_loopw [6, 27] (fun s x ws => ∃ i : Nat,x = .int .i64 (i : Int) ∧ i ≤ n ∧ ws.ownsRow W0.heap.size 234 3 s (lenS (L.take i)) (allS (L.take i)) ∧ Below W0.heap.size W0 ws) (fun _ x _ => n - (intOf x).toNat)
   case atStart => exact ⟨0,rfl,Nat.zero_le _,hown1,hb1⟩
   case round =>
    clear hlt hlt' hlt2 hi hown1 hb1
    obtain ⟨i,rfl,hi,hown,hB⟩ := hrel
    by_cases hlt : i < n
    ·have hlt' : (i : Int) < (n : Int) := by omega
     obtain ⟨x,hx⟩ : ∃ x,L[i]? = some x := ⟨_,List.getElem?_eq_getElem (by have := HN.out; omega)⟩
     obtain ⟨hpl,hc0⟩ := hp i x hx
     have hc : wr.cell? ⟨p,i,none⟩ = some x.v := (hB.cell (p := ⟨p,i,none⟩) hpl).trans hc0
     have hle := lenS_take_le L (i + 1)
     rw [take_snoc hx,lenS_snoc] at hle
     have HS : Hid (lenS (L.take (i + 1)) = lenS (L.take i) + x.m ∧ allS (L.take (i + 1)) = allS (L.take i) ++ x.cs) := ⟨by rw [take_snoc hx,lenS_snoc],by rw [take_snoc hx,allS_snoc]⟩
     have hsrc := (hL x (List.mem_of_getElem? hx)).below hB
     obtain ⟨xv,xm,xc⟩ := x
     obtain ⟨hlen,hone,hat⟩ := hsrc
     simp only at hlen hone hat hc hle HS
     generalize lenS (L.take i) = S at hle HS hown
     generalize allS (L.take i) = A at HS hown
     have hpw : p < wr.heap.size := by have := hB.size; omega
     have hsB := hB.size
     clear hp hL hx hc0
     rcases hat with ⟨rfl,rfl⟩ | ⟨ad,cp,rfl,hcs⟩
     ·go_wp2_with (at_builtin; refine wpList_append_own_none rfl (.tmp 31) (.tmp 32) 212 rfl W0.heap.size 234 i0 3 Tryz.underlying212 hi0 _ S _ rfl hown rfl ?_)
      refine ⟨⟨i + 1,by go_num,by omega, ?_,hB⟩,by simp [intOf]; omega⟩
      have h0 : xc = [] := List.eq_nil_of_length_eq_zero (by simpa using hlen)
      rw [HS.out.1,HS.out.2,h0,List.append_nil]
      exact hown
     ·go_wp2_with (at_builtin; refine wpList_append_own _ rfl (.tmp 31) (.tmp 32) 212 rfl W0.heap.size 234 i0 _ 3 24 Tryz.underlying212 hi0 hz0 hz1 hz2 rfl (by omega) _ S _ rfl hown ad xm cp xc rfl hlen (fun j u hu => (hcs j u hu).2) hone (by unfold maxLen; omega) (by omega) hsB ?_; intro v2 w2 hown2 hg2 _)
      refine ⟨⟨i + 1,by go_num,by omega, ?_,hB.grown hg2 hB.size (fun k hk => (own_tagged hown hk).1)⟩,by simp [intOf]; omega⟩
      rw [HS.out.1,HS.out.2]
      exact hown2
    ·have hlt' : decide ((i : Int) < (n : Int)) = false := by simp; omega
     have hlt2 : decide (i < n) = false := by simp; omega
     have hall : L.take i = L := List.take_of_length_le (by have := HN.out; omega)
     rw [hall] at hown
     clear hall
     go_wp2
     go_ret
     exact ⟨_,rfl,hown,hB⟩
set_option maxRecDepth 100000 in
set_option maxHeartbeats 2000000 in
theorem swapS_any (w : World) (v : Value) (r : List (Key × Nat)) (h : RowS w v r) (i j : Nat) (hij : i ≤ j) (hj : j ≤ r.length) (u : Value) (q : List (Key × Nat)) (hu : Src w 3 u q.length (flat pkS q)) (hr : r.length ≤ 1000) (hq : q.length ≤ 1000) :
  Calls Tryz.prog 211 #[v, .int .i64 (i : Int), .int .i64 (j : Int),u] w fun e w' => ∃ v',e = .returned v' ∧ RowS w' v' (r.take i ++ q ++ r.drop j) ∧ Below w.heap.size w w' := by
 have hcon : ∀ v1 v3,RowS w v1 (r.take i) → RowS w v3 (r.drop j) → Calls Tryz.prog 222 #[.slice (some ⟨w.heap.size, 0,none⟩) 3 3] (w.alloc (.cells #[v1,u,v3] 212)).drew fun e w' => ∃ v',e = .returned v' ∧ RowS w' v' (r.take i ++ q ++ r.drop j) ∧ Below w.heap.size w w' := fun v1 v3 h1 h3 => by
  have hb0 : Below w.heap.size w (w.alloc (.cells #[v1,u,v3] 212)).drew := ((Below.refl _ w).alloc (Nat.le_refl _) _).drew
  have hbk := (Blk.new w 212 #[v1,u,v3]).drew
  have l1 : (r.take i).length ≤ 1000 := by rw [List.length_take]; omega
  have l3 : (r.drop j).length ≤ 1000 := by rw [List.length_drop]; omega
  refine (concatS_any _ w.heap.size [⟨v1,(r.take i).length,flat pkS (r.take i)⟩,⟨u,q.length,flat pkS q⟩,⟨v3,(r.drop j).length,flat pkS (r.drop j)⟩] 3 rfl (fun k x hx => ?_) (fun x hx => ?_) ?_ (Nat.le_refl _)).mono ?_
  ·have hk : k < 3 := (List.getElem?_eq_some_iff.1 hx).1
   refine ⟨hbk.lt, ?_⟩
   have := hbk.cell k
   rw [this]
   match k,hk,hx with
   | 0,_,hx => cases hx; rfl
   | 1,_,hx => cases hx; rfl
   | 2,_,hx => cases hx; rfl
  ·simp only [List.mem_cons,List.not_mem_nil,or_false] at hx
   rcases hx with rfl | rfl | rfl
   ·exact (Src.of_row h1 prC_one).below hb0
   ·exact hu.below hb0
   ·exact (Src.of_row h3 prC_one).below hb0
  ·rw [lenS3]; simp only; omega
  ·rintro e w' ⟨v',rfl,ho,hb⟩
   rw [lenS3,allS3] at ho
   refine ⟨v',rfl,Row.of_own pkS (base := (w.alloc (.cells #[v1,u,v3] 212)).drew.heap.size) ?_,hb0.trans (hb.mono hb0.size)⟩
   rw [flat_append,flat_append,List.length_append,List.length_append]
   exact ho
 obtain ⟨ua,um,uc,rfl⟩ : ∃ ua um uc,u = .slice ua um uc := by
  rcases hu.at_ with ⟨h1,_⟩ | ⟨ad,cp,h1,_⟩
  ·exact ⟨_,_,_,h1⟩
  ·exact ⟨_,_,_,h1⟩
 rcases h with ⟨rfl,rfl⟩ | ⟨b,o,c,cur,rfl,h2,h3,h4,h5⟩
 ·obtain rfl : j = 0 := by simpa using hj
  obtain rfl : i = 0 := by omega
  have hc := hcon (.slice none 0 0) (.slice none 0 0) (Row.nil pkS w) (Row.nil pkS w)
  clear hcon hu
  go_enter Tryz.func211,Tryz.ntmps211
  go_wp2
  go_region_held3 (fun _ => True) (trivial) ((go_at_call 222; refine hc.mono ?_; rintro e w1 ⟨v',rfl,ho,hb⟩))
  go_wp2
  go_ret
  exact ⟨v',rfl,ho,hb⟩
 ·have hrow : RowS w (.slice (some ⟨b,o,none⟩) r.length c) r := .inr ⟨b,o,c,cur,rfl,h2,h3,h4,h5⟩
  have hd : RowS w (.slice (if c = j then some ⟨b,o,none⟩ else some ⟨b,o + j * 3,none⟩) (r.length - j) (c - j)) (r.drop j) := by
   split
   ·have hl : (r.drop j).length = 0 := by rw [List.length_drop]; omega
    exact .inr ⟨b,o,c - j,cur,by rw [hl,show r.length - j = 0 by omega],by omega,by omega,h4,by rw [List.eq_nil_of_length_eq_zero hl]; simp [flat]⟩
   ·exact hrow.drop pkS (n := j) hj
  have hc := hcon _ _ (hrow.take pkS (n := i) (by omega)) hd
  unfold maxLen at h3
  have q1 : (i : Int) ≤ (c : Int) := by omega
  have q2 : (j : Int) ≤ (r.length : Int) := by omega
  clear hcon hu hrow h4 h5 hd
  by_cases hcj : c = j
  ·subst hcj
   rw [if_pos rfl,show r.length - c = 0 by omega,Nat.sub_self] at hc
   go_enter Tryz.func211,Tryz.ntmps211
   go_wp2
   go_region_held3 (fun _ => True) (trivial) ((go_at_call 222; refine hc.mono ?_; rintro e w1 ⟨v',rfl,ho,hb⟩))
   go_wp2
   go_ret
   exact ⟨v',rfl,ho,hb⟩
  ·rw [if_neg hcj] at hc
   go_enter Tryz.func211,Tryz.ntmps211
   go_wp2
   go_region_held3 (fun _ => True) (trivial) ((go_at_call 222; refine hc.mono ?_; rintro e w1 ⟨v',rfl,ho,hb⟩))
   go_wp2
   go_ret
   exact ⟨v',rfl,ho,hb⟩
end
end Go.Proofs.YtdgbgmffpcooeaaGreat
