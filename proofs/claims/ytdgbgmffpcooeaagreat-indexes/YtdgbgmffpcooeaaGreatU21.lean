/- Ch5S -/
import Derived.Test.YtdgbgmffpcooeaaGreatU20
namespace Go.Proofs.YtdgbgmffpcooeaaGreat
open Go.RowKit Go.Lib Go.Maps
section
--BEGIN
set_option maxRecDepth 100000 in
set_option maxHeartbeats 8000000 in
theorem keepBr_any (w : World) (base : Nat) (A : PA) (s0 : PS) (t : Nat) (f : Value) (cb c mb root : Nat) (s : CS Box) (fv lv : Value) (h : Cg w base A s0 t f cb c mb root s fv lv) (hlow : ∀ x ∈ s.free,x < 4096) (v : Value) (r : List (Key × Nat)) (hv : RowS w v r) (hr : r.length ≤ 1000) :
  Calls Tryz.prog 180 #[.pointer (some ⟨c, 0,none⟩), .iface 214 (.agg #[v])] w (KeepP w base A s0 t f cb c mb root s (keepL (Node.branch r : Node Box).parts s)) := by
 obtain ⟨i0,hi0,hz0,hz1,hz2⟩ := info_parts infoS
 obtain ⟨a,cc,rfl,hn,hc⟩ := hv.len pkS
 have hpa := bparts_any w _ r hv hr
 obtain ⟨hpl,hp2⟩ := branch_parts r
 generalize (Node.branch r : Node Box).parts = ps at hpa hpl hp2 ⊢
 have hm1 := m_bparts
 have hm2 := m_bfirst
 simp [nm] at hm1 hm2
 have HPL : Hid _ := hpl
 have HLOW : Hid _ := hlow
 clear hv hpl hlow
 go_enter Tryz.func180,Tryz.ntmps180
 go_wp2_with (go_at_call 271; refine hpa.mono ?_; clear hpa; rintro e w1 ⟨pv,rfl,hp,hb1⟩; obtain ⟨pa,rfl,hu⟩ := PU.of hp)
 have g1 := h.below hb1
 have HU : Hid (PU w1 pa ps) := hu
 have HG1 : Hid _ := g1
 have HB1 : Hid (Below w.heap.size w w1) := hb1
 clear hp hu h hb1 g1
 go_loopw [6, 14] (fun kv x wr => ∃ (i : Nat) (q : List (Key × Nat)) (si : CS Box) (fv' lv' : Value),x = .int .i64 (i : Int) ∧ i ≤ ps.length ∧ KeepI w1 wr base A s0 t f cb c mb root s ps i q si fv' lv' kv) (fun _ x _ => ps.length - (intOf x).toNat)
 case atStart => exact ⟨0, [],s,fv,lv,rfl,Nat.zero_le _,⟨rfl,HG1.out,HG1.out.ch.made,World.ownsRow_nil ..,Off.refl _ _,rfl,rfl,fun _ h => h⟩⟩
 case round =>
  obtain ⟨i,q,si,fv',lv',rfl,hi,K⟩ := hrel
  by_cases hlt : i < ps.length
  ·have hlt' : (i : Int) < (ps.length : Int) := by omega
   obtain ⟨p,hpi⟩ : ∃ p,ps[i]? = some p := ⟨_,List.getElem?_eq_getElem hlt⟩
   obtain ⟨x,y,rfl⟩ := HPL.out p (List.mem_of_getElem? hpi)
   obtain ⟨g,vs,v',rfl,hblk,hvi,hnv⟩ := HU.out i _ hpi
   have hNR := HG1.out.norow
   have hblk' : Blk wr g 175 vs := hblk.off K.off (fun hf => HG1.out.not175 (tg := 175) (by decide) (by decide) (by decide) (by decide) (by decide) g hf ⟨vs,hblk⟩)
   have HNV : Hid _ := hnv
   obtain ⟨sv,rfl,hrow⟩ := hnv
   obtain ⟨a2,c2,rfl,_,hc2⟩ := hrow.len pkS
   have ce : wr.cell? ⟨g,i,none⟩ = some (.iface 214 (.agg #[.slice a2 (x :: y).length c2])) := (hblk'.cell i).trans hvi
   have c2' : wr.cell? ⟨c, 2,none⟩ = some (.map (some mb)) := K.cg.ch.blk.cell 2
   have c3 : wr.cell? ⟨c, 3,none⟩ = some fv' := K.cg.ch.blk.cell 3
   have hfz : wr.frozen? ⟨c, 3,none⟩ = false := K.cg.ch.blk.frozen 3
   have hcl := K.cg.cl
   rcases List.eq_nil_or_concat si.free with hfe | ⟨l,sec,hfe⟩
   ·have hf := K.cg.ch.free
    rw [hfe] at hf
    obtain ⟨fa,fc,rfl,_⟩ := own_shape hf
    simp only [List.length_nil] at c3 K
    have hsp := keepL_space (ps.take i) _ (ps.drop (i + 1)) s _ K.run (keep1_none hfe (.branch (x :: y)))
    have hps : ps.take i ++ .branch (x :: y) :: ps.drop (i + 1) = ps := by
     have := List.take_append_drop i ps
     rw [List.drop_eq_getElem?_toList_append,hpi] at this
     simpa using this
    rw [hps] at hsp
    have HK : Hid _ := K
    have HSP : Hid (keepL ps s = .space) := hsp
    clear hps hsp hf hfe K hrow hpi hvi hblk hblk'
    go_wp2
    go_ret2
    unfold KeepP
    rw [HSP.out]
    exact ⟨ChF.trans (Off.of_below HB1.out) HK.out.off,rfl,si,_,_,HK.out.cg,HK.out.rd⟩
   ·rw [List.concat_eq_append] at hfe
    obtain ⟨fg,fc,rfl,hfc1,hfc2,hfs⟩ := K.cg.freeForm hfe
    have hsec : sec < 4096 := HLOW.out sec (free_sub hfe K.fr).2
    have hkey := key_of sec (by omega)
    have hfew := K.cg.ch.few
    rw [hfe] at hfew
    simp only [List.length_append,List.length_singleton] at hfew
    have hl0 : l.length ≤ 99999 := by omega
    have hl1 : ((l.length : Int) + 1 == 0) = false := by simp; omega
    have hl3 : (((l.length + 1 : Nat) : Int) == 0) = false := by simp; omega
    have hl2 : ¬ fc = 0 := by omega
    obtain ⟨h2,o2⟩ := K.cg.pop hfe
    obtain ⟨km,D,hmr,hkm,hmd⟩ := K.md
    have hm2 : (wr.setCell ⟨c, 3,none⟩ (.slice (some ⟨fg, 0,none⟩) l.length fc)).ownsMap Tryz.prog 3 nodR mb km D := nmap_off hmr (Off.one wr _) h2.ch.cne
    have hput : MadeIs w1 (D.put (kl sec) (.held (.iface 214 (.agg #[.slice a2 (x :: y).length c2])))) (upd2 si.made sec (some (.branch (x :: y)))) := hmd.put hmr.isMap hsec HNV.out
    obtain ⟨sa,sc,rfl,_,_,_⟩ := own_shape K.row
    have hq2 : q.length ≤ 2 := by have := K.qi; omega
    have d2 : (wr.setCell ⟨c, 3,none⟩ (.slice (some ⟨fg, 0,none⟩) l.length fc)).cell? ⟨c, 2,none⟩ = some (.map (some mb)) := h2.ch.blk.cell 2
    have HFE : Hid (si.free = l ++ [sec]) := hfe
    have HPI : Hid _ := hpi
    have HPUT : Hid _ := hput
    have HFC : Hid (∀ W',Off (ChF w1 A cb c mb) w1 W' → Calls Tryz.prog 266 #[.slice a2 (x :: y).length c2] W' fun e w' => e = .returned (keyV x.1) ∧ Below W'.heap.size W' w') := fun W' ho => firstS_any W' _ (x :: y) (hrow.off pkS ho (fun b hb ht => hNR b hb (.inr ht))) x y rfl
    clear hrow hpi hvi hblk hblk' hfe hfew hfc2 hmr hput
    go_upto_region 10 with fail
    obtain ⟨W2,hW2⟩ : ∃ W2,wr.setCell ⟨c, 3,none⟩ (.slice (some ⟨fg, 0,none⟩) l.length fc) = W2 := ⟨_,rfl⟩
    rw [hW2] at h2 o2 hm2 d2 ⊢
    have HT : Hid (∀ w3,w3.ownsMap Tryz.prog 3 nodR mb (km + 1) (D.put (kl sec) (.held (.iface 214 (.agg #[.slice a2 (x :: y).length c2])))) → W2.grownBy w3 (some mb) → w3.ownsMap Tryz.prog 3 nodR mb 4096 (D.put (kl sec) (.held (.iface 214 (.agg #[.slice a2 (x :: y).length c2])))) ∧ Cg w3 base A s0 t f cb c mb root { si with free := l,made := upd2 si.made sec (some (.branch (x :: y))) } (.slice (some ⟨fg, 0,none⟩) l.length fc) lv' ∧ Off (ChF wr A cb c mb) wr w3) := fun w3 hmap hg => by
     have ht := nmap_tight hmap HPUT.out
     have h3 := h2.turned hg ht (Nat.le_refl _) (HPUT.out.off (ChF.trans K.off o2) hNR)
     exact ⟨ht,h3.1,ChF.trans o2 h3.2⟩
    have HK : Hid _ := K
    have HO2 : Hid _ := o2
    clear hW2 o2 h2 K hmd ce c2' c3 hfz hfs hcl
    go_wp2_with (first
     | (at_mapUpdate; refine wpList_mapUpdate_own _ rfl (.tmp 49) (.tmp 50) (.tmp 51) 183 rfl 3 175 keyed3 Tryz.underlying183 nodR mb km D rfl hm2 (by unfold maxLen; omega) _ _ (kl sec) rfl rfl hkey (.held (.iface 214 (.agg #[.slice a2 (x :: y).length c2]))) [] rfl ?_; intro w3 hmap3 hg3; obtain ⟨hmap3',h3,o3⟩ := HT.out w3 hmap3 hg3; clear hmap3 hg3)
     | (go_at_call 266; refine (HFC.out w3 (ChF.trans HK.out.off o3)).mono ?_; rintro e w4 ⟨rfl,hb4⟩; have h4 := h3.below hb4; have o4 := ChF.trans o3 (Off.of_below (F := ChF w3 A cb c mb) hb4); have hown4 := own_offv HK.out.row o4 (fun g hg hf => HK.out.cg.norow g hf (.inr (own_tagged HK.out.row hg).2)); have hs4 : w1.heap.size ≤ w4.heap.size := (ChF.trans HK.out.off o4).size)
     | (at_builtin; refine wpList_append_lies _ rfl (.tmp 52) (.tmp 57) 212 rfl w1.heap.size 234 i0 _ 3 24 Tryz.underlying212 hi0 hz0 hz1 hz2 rfl (by omega) (.slice sa q.length sc) q.length _ rfl (hown4.alloc _) ⟨w4.heap.size, 0,none⟩ 1 1 [.int .i64 x.1.1, .int .i64 x.1.2, .int .i64 (sec : Int)] rfl rfl (World.news_of_block (cs := #[.int .i64 x.1.1, .int .i64 x.1.2, .int .i64 (sec : Int)]) (t := 234) (fr := (0, 0)) (heap_alloc_new w4 _)) (by simp [Value.oneCell']) (by omega) (by unfold maxLen; omega) (by omega) (by simp; omega) (w4.heap.size + 1) (by simp) ?_; intro gg capp w5 hown5 hgrow5 hat5 hlt5))
    have hoF : Off (fun k => (Value.slice sa q.length sc).ownBlock = some k) w4 w5 := ((Off.refl _ w4).alloc _).grown hgrow5 (fun j hj => .inl hj)
    have o14 := ChF.trans HK.out.off o4
    have o15 : Off (ChF w1 A cb c mb) w1 w5 := o14.step hoF (fun j hj hf => absurd (own_tagged hown4 hf).1 (by omega))
    have hmap4 := nmap_off hmap3' (Off.of_below (F := fun _ => False) hb4) (fun h => h)
    have h5 := (h4.rowApp hoF (fun k hk => .inl (own_tagged hown4 hk).2) hmap4 (Nat.le_refl _) (HPUT.out.off o15 hNR)).puts (si.puts + 1)
    have hmap5 : w5.ownsMap Tryz.prog 3 nodR mb 4096 (D.put (kl sec) (.held (.iface 214 (.agg #[.slice a2 (x :: y).length c2])))) := nmap_off hmap4 hoF (fun hf => by
     obtain ⟨es,cc5,h9,_⟩ := hmap4
     obtain ⟨_,cs,h8⟩ := own_tagged hown4 hf
     rw [h9] at h8; cases h8)
    refine ⟨⟨i + 1,q ++ [(x.1,sec)],_,_,_,by go_num,by omega,⟨?_,h5,⟨_,_,hmap5,Nat.le_refl _,HPUT.out⟩, ?_,o15, ?_,HK.out.rd,fun z hz => (free_sub HFE.out HK.out.fr).1 z hz⟩⟩,by simp [intOf]; omega⟩
    ·rw [take_snoc HPI.out,keepL_snoc,HK.out.run]
     simp only [Res.ok_bind]
     rw [keep1_some HFE.out]
     rfl
    ·rw [flat_append,List.length_append]
     exact hown5
    ·rw [List.length_append,HK.out.qi]; rfl
  ·have hlt' : decide ((i : Int) < (ps.length : Int)) = false := decide_eq_false (by omega)
   have hlt2 : decide (i < ps.length) = false := decide_eq_false (by omega)
   obtain ⟨sa,sc,rfl,_,_,_⟩ := own_shape K.row
   have hrun := K.run
   rw [List.take_of_length_le (by omega)] at hrun
   have HRUN : Hid _ := hrun
   have HK : Hid _ := K
   clear hrun K
   go_wp2
   go_ret2
   unfold KeepP
   rw [HRUN.out]
   exact ⟨ChF.trans (Off.of_below HB1.out) HK.out.off,_,_,_,rfl,Row.of_own pkS HK.out.row,HK.out.cg⟩
--END
end
end Go.Proofs.YtdgbgmffpcooeaaGreat
