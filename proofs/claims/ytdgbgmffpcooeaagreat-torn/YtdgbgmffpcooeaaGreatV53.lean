/- Tn3 -/
import Derived.Test.YtdgbgmffpcooeaaGreatV51
import Derived.Test.YtdgbgmffpcooeaaGreatV52
namespace Go.Proofs.YtdgbgmffpcooeaaGreat
open Go.RowKit Go.Lib
section
structure Fal (w : World) (N : Nat → Prop) (F : FallR) (G p n b0 b6 b7 X : Nat) (svg svb sva : Value) (tg tbb ta : List (Int × Box)) (W : World) : Prop where
 keep : Keep N w W
 fb : Blk W b0 75 (fallC F)
 gb : Blk W G 62 (gameC p X svg (((n - 200) / 4 : Nat) : Int))
 hb : Blk W b6 60 #[svb]
 ha : Blk W b7 60 #[sva]
 tvg : TabV W 0 svg tg
 tvb : TabV W 0 svb tbb
 tva : TabV W 0 sva ta
 lens : tg.length ≤ (n - 200) / 4 ∧ tbb.length ≤ (n - 200) / 4 ∧ ta.length ≤ (n - 200) / 4
 new : w.heap.size ≤ b0 ∧ w.heap.size ≤ b6 ∧ w.heap.size ≤ b7 ∧ b6 ≠ b7
 nG : ¬ N G
 nN : ∀ k,N k → k < w.heap.size
section
variable {w W W' : World} {N : Nat → Prop} {F : FallR} {G p n b0 b6 b7 X : Nat} {svg svb sva : Value} {tg tbb ta : List (Int × Box)}
theorem Fal.calm (h : Fal w N F G p n b0 b6 b7 X svg svb sva tg tbb ta W) (hc : CalmW N W W') : Fal w N F G p n b0 b6 b7 X svg svb sva tg tbb ta W' :=
 ⟨h.keep.trans hc.keep,hc.blk h.fb (by unfold own5; omega),hc.blk h.gb (by unfold own5; omega),hc.blk h.hb (by unfold own5; omega),hc.blk h.ha (by unfold own5; omega),hc.row h.tvg (by unfold own5; omega),hc.row h.tvb (by unfold own5; omega),hc.row h.tva (by unfold own5; omega),h.lens,h.new,h.nG,h.nN⟩
theorem Fal.below (h : Fal w N F G p n b0 b6 b7 X svg svb sva tg tbb ta W) (hb : Below W.heap.size W W') : Fal w N F G p n b0 b6 b7 X svg svb sva tg tbb ta W' := h.calm (CalmW.below hb)
theorem tab_off {B T : Nat} {vs : Array Value} {sv : Value} {tb : List (Int × Box)} (ht : TabV W 0 sv tb) (hB : Blk W B T vs) (hT : T ≠ 106) (ho : Off (fun k => k = B) W W') : TabV W' 0 sv tb := own_offv ht ho (fun g hg e => own_ne ht hB hT g hg e)
theorem Fal.setB (h : Fal w N F G p n b0 b6 b7 X svg svb sva tg tbb ta W) {sv' : Value} {tb' : List (Int × Box)} (ht : TabV W 0 sv' tb') (hl : tb'.length ≤ (n - 200) / 4) : Fal w N F G p n b0 b6 b7 X svg sv' sva tg tb' ta (W.setCell ⟨b6, 0,none⟩ sv') ∧ Off (fun k => k = b6) W (W.setCell ⟨b6, 0,none⟩ sv') := by
 have o : Off (fun k => k = b6) W (W.setCell ⟨b6, 0,none⟩ sv') := Off.one W _
 exact ⟨⟨h.keep.trans (Keep.off o (fun k hk hN => by have := h.nN k hN; have := h.new.2.1; omega)),h.fb.off o (fun e => blk_ne h.fb h.hb (by decide) e),h.gb.off o (fun e => blk_ne h.gb h.hb (by decide) e),h.hb.set 0 _,h.ha.off o (fun e => h.new.2.2.2 e.symm),tab_off h.tvg h.hb (by decide) o,tab_off ht h.hb (by decide) o,tab_off h.tva h.hb (by decide) o,⟨h.lens.1,hl,h.lens.2.2⟩,h.new,h.nG,h.nN⟩,o⟩
theorem Fal.setA (h : Fal w N F G p n b0 b6 b7 X svg svb sva tg tbb ta W) {sv' : Value} {tb' : List (Int × Box)} (ht : TabV W 0 sv' tb') (hl : tb'.length ≤ (n - 200) / 4) : Fal w N F G p n b0 b6 b7 X svg svb sv' tg tbb tb' (W.setCell ⟨b7, 0,none⟩ sv') ∧ Off (fun k => k = b7) W (W.setCell ⟨b7, 0,none⟩ sv') := by
 have o : Off (fun k => k = b7) W (W.setCell ⟨b7, 0,none⟩ sv') := Off.one W _
 exact ⟨⟨h.keep.trans (Keep.off o (fun k hk hN => by have := h.nN k hN; have := h.new.2.2.1; omega)),h.fb.off o (fun e => blk_ne h.fb h.ha (by decide) e),h.gb.off o (fun e => blk_ne h.gb h.ha (by decide) e),h.hb.off o (fun e => h.new.2.2.2 e),h.ha.set 0 _,tab_off h.tvg h.ha (by decide) o,tab_off h.tvb h.ha (by decide) o,tab_off ht h.ha (by decide) o,⟨h.lens.1,h.lens.2.1,hl⟩,h.new,h.nG,h.nN⟩,o⟩
theorem Fal.setG (h : Fal w N F G p n b0 b6 b7 X svg svb sva tg tbb ta W) {sv' : Value} {tb' : List (Int × Box)} (ht : TabV W 0 sv' tb') (hl : tb'.length ≤ (n - 200) / 4) : Fal w N F G p n b0 b6 b7 X sv' svb sva tb' tbb ta (W.setCell ⟨G, 2,none⟩ sv') ∧ Off (fun k => k = G) W (W.setCell ⟨G, 2,none⟩ sv') := by
 have o : Off (fun k => k = G) W (W.setCell ⟨G, 2,none⟩ sv') := Off.one W _
 exact ⟨⟨h.keep.trans (Keep.off o (fun k hk hN => h.nG (hk ▸ hN))),h.fb.off o (fun e => blk_ne h.fb h.gb (by decide) e),h.gb.set 2 _,h.hb.off o (fun e => blk_ne h.hb h.gb (by decide) e),h.ha.off o (fun e => blk_ne h.ha h.gb (by decide) e),tab_off ht h.gb (by decide) o,tab_off h.tvb h.gb (by decide) o,tab_off h.tva h.gb (by decide) o,⟨hl,h.lens.2⟩,h.new,h.nG,h.nN⟩,o⟩
theorem Fal.setX (h : Fal w N F G p n b0 b6 b7 X svg svb sva tg tbb ta W) (X' : Nat) : Fal w N F G p n b0 b6 b7 X' svg svb sva tg tbb ta (W.setCell ⟨G, 1,none⟩ (.pointer (some ⟨X', 0,none⟩))) ∧ Off (fun k => k = G) W (W.setCell ⟨G, 1,none⟩ (.pointer (some ⟨X', 0,none⟩))) := by
 have o : Off (fun k => k = G) W (W.setCell ⟨G, 1,none⟩ (.pointer (some ⟨X', 0,none⟩))) := Off.one W _
 exact ⟨⟨h.keep.trans (Keep.off o (fun k hk hN => h.nG (hk ▸ hN))),h.fb.off o (fun e => blk_ne h.fb h.gb (by decide) e),h.gb.set 1 _,h.hb.off o (fun e => blk_ne h.hb h.gb (by decide) e),h.ha.off o (fun e => blk_ne h.ha h.gb (by decide) e),tab_off h.tvg h.gb (by decide) o,tab_off h.tvb h.gb (by decide) o,tab_off h.tva h.gb (by decide) o,h.lens,h.new,h.nG,h.nN⟩,o⟩
def FSt (W : World) (N : Nat → Prop) (p X n : Nat) (z br : Bool) (tbb tb : List (Int × Box)) : Prop := (br = false ∧ ∃ σ,LiveB W N p X n σ tb ∧ (z = true → σ.brk = true)) ∨ (br = true ∧ Stt W N p X n true tbb tb)
theorem FSt.off {z br : Bool} {tb : List (Int × Box)} (h : FSt W N p X n z br tbb tb) {B T : Nat} {vs : Array Value} (hB : Blk W B T vs) (hT : ¬ own5 T) (hT2 : T ≠ 91) (hT3 : T ≠ 3) (ho : Off (fun k => k = B) W W') : FSt W' N p X n z br tbb tb := by
 rcases h with ⟨h1, σ,h2,h3⟩ | ⟨h1,h2⟩
 ·exact .inl ⟨h1, σ,h2.off hB hT hT2 hT3 ho,h3⟩
 ·exact .inr ⟨h1,h2.off hB hT hT2 hT3 ho⟩
theorem Keep.cell {a : Addr} (h : Keep N w W) (hN : N a.block) (hl : a.block < w.heap.size) : W.cell? a = w.cell? a := World.cell?_of_block (h.block _ hN hl)
theorem DiskF.off {tb : List (Int × Box)} (h : DiskF W N p n tbb tb) {B T : Nat} {vs : Array Value} (hB : Blk W B T vs) (hT : ¬ own5 T) (ho : Off (fun k => k = B) W W') : DiskF W' N p n tbb tb := by
 obtain ⟨A, σ,h1,h2,h3,h4,h5,h6⟩ := h
 exact ⟨A, σ,h1,h2,h3.off ho (fun k hk e => by subst e; exact hT (h3.tags _ _ _ _ hk hB)),h4,h5,fun k hk => Nat.lt_of_lt_of_le (h6 k hk) ho.size⟩
theorem DiskF.below {tb : List (Int × Box)} (h : DiskF W N p n tbb tb) (hb : Below W.heap.size W W') : DiskF W' N p n tbb tb := by
 obtain ⟨A, σ,h1,h2,h3,h4,h5,h6⟩ := h
 exact ⟨A, σ,h1,h2,h3.below hb,h4,h5,fun k hk => Nat.lt_of_lt_of_le (h6 k hk) hb.size⟩
theorem DiskQ.below {P : PS → Prop} {tb : List (Int × Box)} (h : DiskQ W N p n P tb) (hb : Below W.heap.size W W') : DiskQ W' N p n P tb := by
 obtain ⟨A, σ,root,es,us,h1,h2,h3,h4,h5,h6,h7,h8,h9⟩ := h
 exact ⟨A, σ,root,es,us,h1,h2,h3.below hb,h4,h5,h6,h7,h8,fun k hk => Nat.lt_of_lt_of_le (h9 k hk) hb.size⟩
theorem KAt.keep {ak : Option Addr} {lk : Nat} {K : Nat → Int} (h : KAt w ak lk K) (hk : Keep N w W) (hN : ∀ a,ak = some a → 0 < lk → N a.block) : KAt W ak lk K :=
 ⟨fun i hi => by
  obtain ⟨a,e,l,c⟩ := h.at_ i hi
  have hbk : (a.add i).block = a.block := by unfold Addr.add; split <;> rfl
  have hNa := hN a e (by omega)
  exact ⟨a,e,Nat.lt_of_lt_of_le l hk.size,(hk.cell (a := a.add i) (by rw [hbk]; exact hNa) (by rw [hbk]; exact l)).trans c⟩⟩
theorem KAt.low {ak : Option Addr} {lk : Nat} {K : Nat → Int} (h : KAt W ak lk K) (hb : Below W.heap.size W W') : KAt W' ak lk K :=
 ⟨fun i hi => by
  obtain ⟨a,e,l,c⟩ := h.at_ i hi
  have hbk : (a.add i).block = a.block := by unfold Addr.add; split <;> rfl
  exact ⟨a,e,Nat.lt_of_lt_of_le l hb.size,(hb.cell (p := a.add i) (by rw [hbk]; exact l)).trans c⟩⟩
theorem want_cases (F : FallR) : wantE false F = 8 ∨ wantE false F = 6 ∨ wantE false F = 4 := by
 unfold wantE rawE
 rw [if_neg (by decide)]
 split
 ·exact .inl rfl
 ·split
  ·exact .inr (.inl rfl)
  ·exact .inr (.inr rfl)
end
set_option maxRecDepth 100000 in
set_option maxHeartbeats 16000000 in
theorem falls_any (w : World) (N : Nat → Prop) (G p X n : Nat) (σ : PS) (tb : List (Int × Box)) (h : GameX w N G p X n σ (((n - 200) / 4 : Nat) : Int) tb) (hrm : tb.length ≤ (n - 200) / 4) (F : FallR) (wn : (Lit.int .i64 F.nn).wf = true) (we : (Lit.int .i64 F.early).wf = true) (wk : (Lit.int .i64 F.kind).wf = true) (O : Nat → MvR) (hM : MAt w F.ma F.ml O) (hMN : ∀ a,F.ma = some a → 0 < F.ml → N a.block) (hml : F.ml ≤ 9223372036854775807) (K : Nat → Int) (hK : KAt w F.ka F.kl K) (hKN : ∀ a,F.ka = some a → 0 < F.kl → N a.block) (hkl : F.kl ≤ 9223372036854775807) :
  Calls Tryz.prog 23 #[.pointer (some ⟨G, 0,none⟩), .agg (fallC F)] w fun e w' => e = .returned (.bool true) ∧ Keep N w w' ∧ ∃ X' σ' tb',GameX w' N G p X' n σ' (((n - 200) / 4 : Nat) : Int) tb' ∧ tb'.length ≤ (n - 200) / 4 := by
 obtain ⟨sv,hGw,hTw,hLw,hbG⟩ := h
 obtain ⟨sa,sc,rfl,_,_,_⟩ := own_shape hTw
 have hnN : ∀ k,N k → k < w.heap.size := by
  obtain ⟨A,x,t,f,fr,root,es,us,h1,h2,h3,h4,h5,h6⟩ := hLw
  exact h6.2.2.2.2
 have hnn := hLw.up.2
 have hmx : Tryz.prog.follows .mixedOrders = true := by kernel_rfl
 obtain ⟨W0,hW0⟩ : ∃ W0,w.alloc (.cells (fallC F) 75) = W0 := ⟨_,rfl⟩
 have hb0 : Below w.heap.size w W0 := by rw [← hW0]; exact (Below.refl _ w).alloc (Nat.le_refl _) _
 have B0 : Blk W0 w.heap.size 75 (fallC F) := by rw [← hW0]; exact Blk.new w 75 _
 have hs0 : W0.heap.size = w.heap.size + 1 := by rw [← hW0]; simp
 have hG : Blk W0 G 62 (gameC p X (.slice sa tb.length sc) (((n - 200) / 4 : Nat) : Int)) := (hb0.block G hGw.lt).trans hGw
 have hT := own_below hTw hb0
 have HW0 : Hid (w.alloc (.cells (fallC F) 75) = W0) := hW0
 have hbd : Below W0.heap.size W0 W0.drew := (Below.refl _ W0).drew
 have hpk := pick_eq F.nn 400 W0.drew (by omega) wn
 have hv := pickI_lt F.nn 400 (by omega)
 obtain ⟨v,hve⟩ : ∃ v,pickI F.nn 400 = v := ⟨_,rfl⟩
 rw [hve] at hpk hv
 have hbr := live_break ((hLw.below hb0).below hbd) hv
 obtain ⟨z,hz⟩ : ∃ z,decide (v = 0) = z := ⟨_,rfl⟩
 rw [hz] at hbr
 have q0 : W0.cell? ⟨G, 0,none⟩ = some (.pointer (some ⟨p, 0,none⟩)) := hG.cell 0
 have q1 : W0.cell? ⟨w.heap.size, 1,none⟩ = some (.int .i64 F.nn) := B0.cell 1
 have HB0 : Hid (Blk W0 w.heap.size 75 (fallC F)) := B0
 have HG0 : Hid (Blk W0 G 62 (gameC p X (.slice sa tb.length sc) (((n - 200) / 4 : Nat) : Int))) := hG
 have HT0 : Hid (TabV W0 0 (.slice sa tb.length sc) tb) := hT
 have HK0 : Hid (Keep N w W0) := Keep.below hb0
 have HV : Hid (pickI F.nn 400 = v ∧ decide (v = 0) = z ∧ 0 ≤ v ∧ v < 400) := ⟨hve,hz,hv⟩
 have HN : Hid (∀ k,N k → k < w.heap.size) := hnN
 have HM : Hid (MAt w F.ma F.ml O ∧ ∀ a,F.ma = some a → 0 < F.ml → N a.block) := ⟨hM,hMN⟩
 have HKK : Hid (KAt w F.ka F.kl K ∧ (∀ a,F.ka = some a → 0 < F.kl → N a.block) ∧ F.kl ≤ 9223372036854775807) := ⟨hK,hKN,hkl⟩
 have HWS : Hid (W0.heap.size = w.heap.size + 1) := hs0
 have HNN : Hid (256 ≤ n ∧ n ≤ 4096 ∧ tb.length ≤ (n - 200) / 4) := ⟨hnn.1,hnn.2.1,hrm⟩
 clear hW0 hGw hTw hLw hG B0 hb0 hve hz hv hT hnN hM hMN hK hKN hkl hs0 hnn hrm
 go_enter Tryz.func23,Tryz.ntmps23
 go_upto_region 1 with fail
 rw [HW0.out]
 clear HW0
 go_cut [5] (fun s5 wx => s5 = .int .i64 0 ∧ CalmW N W0 wx ∧ ∃ σ',LiveB wx N p X n σ' tb ∧ (z = true → σ'.brk = true))
 case first =>
  as_aux_lemma =>
  go_region_held3 (fun W' => W'.cell? ⟨G, 0,none⟩ = some (.pointer (some ⟨p, 0,none⟩)) ∧ W'.cell? ⟨w.heap.size, 1,none⟩ = some (.int .i64 F.nn))
   (first
    | exact ⟨q0,q1⟩
    | exact ⟨Blk.cell (hC1.blk HG0.out (by unfold own5; omega)) 0,Blk.cell (hC1.blk HB0.out (by unfold own5; omega)) 1⟩
    | go_keep)
   (first
    | (go_at_call 24; refine hpk.mono ?_; rintro e w8 ⟨rfl,rfl⟩)
    | (go_at_call 52; refine hbr.mono ?_; rintro e w1 ⟨rfl,hC1', σ1,hL1,hz1⟩; have hC1 : CalmW N W0 w1 := (CalmW.below hbd).trans hC1'))
  go_wp2
  go_meet
  exact ⟨rfl,hC1, σ1,hL1,hz1⟩
 case rest =>
 as_aux_lemma =>
 obtain ⟨rfl,hC1, σ1,hL1,hz1⟩ := hcut
 obtain ⟨W1,rfl⟩ : ∃ W1,W1 = wc := ⟨_,rfl⟩
 have g1 := hC1.blk HG0.out (by unfold own5; omega)
 have b1 := hC1.blk HB0.out (by unfold own5; omega)
 have t1 := hC1.row HT0.out (by unfold own5; omega)
 have hs1 := hC1.size
 have r2 : W1.cell? ⟨G, 2,none⟩ = some (.slice sa tb.length sc) := g1.cell 2
 obtain ⟨V1,hV1⟩ : ∃ V1,W1.alloc (.cells #[.slice sa tb.length sc] 60) = V1 := ⟨_,rfl⟩
 have hbV1 : Below W1.heap.size W1 V1 := by rw [← hV1]; exact (Below.refl _ W1).alloc (Nat.le_refl _) _
 have hsV1 : V1.heap.size = W1.heap.size + 1 := by rw [← hV1]; simp
 have B6 : Blk V1 W1.heap.size 60 #[.slice sa tb.length sc] := by rw [← hV1]; exact Blk.new W1 60 _
 have gV := g1.below hbV1 g1.lt
 have r2' : V1.cell? ⟨G, 2,none⟩ = some (.slice sa tb.length sc) := gV.cell 2
 obtain ⟨V,hV⟩ : ∃ V,V1.alloc (.cells #[.slice sa tb.length sc] 60) = V := ⟨_,rfl⟩
 have hbV : Below V1.heap.size V1 V := by rw [← hV]; exact (Below.refl _ V1).alloc (Nat.le_refl _) _
 have B7 : Blk V V1.heap.size 60 #[.slice sa tb.length sc] := by rw [← hV]; exact Blk.new V1 60 _
 have tV := own_below (own_below t1 hbV1) hbV
 have hws := HWS.out
 have HF : Hid (Fal w N F G p n w.heap.size W1.heap.size V1.heap.size X (.slice sa tb.length sc) (.slice sa tb.length sc) (.slice sa tb.length sc) tb tb tb V) := ⟨((HK0.out.trans hC1.keep).trans (Keep.below hbV1)).trans (Keep.below hbV),(b1.below hbV1 b1.lt).below hbV (b1.below hbV1 b1.lt).lt,gV.below hbV gV.lt,B6.below hbV B6.lt,B7,tV,tV,tV,⟨HNN.out.2.2,HNN.out.2.2,HNN.out.2.2⟩,⟨Nat.le_refl _,by omega,by omega,by omega⟩,hbG,HN.out⟩
 have HS : Hid (FSt V N p X n z false tb tb) := .inl ⟨rfl, σ1,(hL1.below hbV1).below hbV,hz1⟩
 have HV1 : Hid (W1.alloc (.cells #[.slice sa tb.length sc] 60) = V1) := hV1
 have HVV : Hid (V1.alloc (.cells #[.slice sa tb.length sc] 60) = V) := hV
 clear hpk hbr q0 q1 HB0 HG0 HT0 HK0 hC1 hL1 hz1 g1 b1 t1 hs1 hV1 hbV1 hsV1 B6 gV hV hbV B7 tV hws HWS hbd
 go_upto_region 5 with fail
 rw [HV1.out]
 go_upto_region 6 with fail
 rw [HVV.out]
 clear HV1 HVV r2 r2'
 go_upto_block 0 with fail
 go_cut [8] (fun s8 wx => ∃ (br : Bool) (svb sv : Value) (tbb tc : List (Int × Box)),s8 = .bool br ∧ Fal w N F G p n w.heap.size W1.heap.size V1.heap.size X sv svb sv tc tbb tc wx ∧ FSt wx N p X n z br tbb tc)
 case first =>
  as_aux_lemma =>
  go_wp2
  go_loopw [8, 9] (fun x8 x9 wr => ∃ (i : Nat) (br : Bool) (svb sv : Value) (tbb tc : List (Int × Box)),x8 = .bool br ∧ x9 = .int .i64 (i : Int) ∧ i ≤ F.ml ∧ Fal w N F G p n w.heap.size W1.heap.size V1.heap.size X sv svb sv tc tbb tc wr ∧ FSt wr N p X n z br tbb tc) (fun _ x9 _ => F.ml - (intOf x9).toNat)
  case atStart => exact ⟨0,false,_,_,tb,tb,rfl,rfl,Nat.zero_le _,HF.out,HS.out⟩
  case round =>
   as_aux_lemma =>
   obtain ⟨i,br,svb,sv,tbb,tc,rfl,rfl,hi,hF,hS⟩ := hrel
   have HFr : Hid (Fal w N F G p n w.heap.size W1.heap.size V1.heap.size X sv svb sv tc tbb tc wr) := hF
   have HSr : Hid (FSt wr N p X n z br tbb tc) := hS
   have cm : wr.cell? ⟨w.heap.size, 0,none⟩ = some (.slice F.ma F.ml F.mc) := hF.fb.cell 0
   clear hF hS HF HS
   by_cases hlt : i < F.ml
   rotate_left
   ·have hlt' : ¬ (i : Int) < (F.ml : Int) := by omega
    cases br
    all_goals
     go_wp2
     go_meet
     exact ⟨_,svb,sv,tbb,tc,rfl,HFr.out,HSr.out⟩
   have hlt' : (i : Int) < (F.ml : Int) := by omega
   cases br with
   | true =>
    go_wp2
    go_meet
    exact ⟨true,svb,sv,tbb,tc,rfl,HFr.out,HSr.out⟩
   | false =>
   obtain ⟨a,hma,hab,p0,p1,p2⟩ := HM.out.1.at_ i hlt
   obtain ⟨v0,v1,v2⟩ := HM.out.1.wf i hlt
   have hNa := HM.out.2 a hma (by omega)
   have hbk : (a.add (i * 3)).block = a.block := by unfold Addr.add; split <;> rfl
   have r0 : wr.cell? (a.add (i * 3)) = some (.int .i64 (O i).k) := (HFr.out.keep.cell (a := a.add (i * 3)) (by rw [hbk]; exact hNa) (by rw [hbk]; exact hab)).trans p0
   have r1 : wr.cell? ⟨(a.add (i * 3)).block,(a.add (i * 3)).off + 1,none⟩ = some (.int .i64 (O i).a) := (HFr.out.keep.cell (a := ⟨(a.add (i * 3)).block,(a.add (i * 3)).off + 1,none⟩) (by show N (a.add (i * 3)).block; rw [hbk]; exact hNa) (by show (a.add (i * 3)).block < _; rw [hbk]; exact hab)).trans p1
   have r2 : wr.cell? ⟨(a.add (i * 3)).block,(a.add (i * 3)).off + 2,none⟩ = some (.int .i64 (O i).b) := (HFr.out.keep.cell (a := ⟨(a.add (i * 3)).block,(a.add (i * 3)).off + 2,none⟩) (by show N (a.add (i * 3)).block; rw [hbk]; exact hNa) (by show (a.add (i * 3)).block < _; rw [hbk]; exact hab)).trans p2
   rw [hma] at cm
   obtain ⟨σr,hLr,hzr⟩ : ∃ σ,LiveB wr N p X n σ tc ∧ (z = true → σ.brk = true) := by
    rcases HSr.out with ⟨_,h⟩ | ⟨h,_⟩
    ·exact h
    ·cases h
   obtain ⟨ga,gc,rfl,_,_,_⟩ := own_shape HFr.out.tvg
   obtain ⟨W2,hW2⟩ : ∃ W2,wr.alloc (.cells #[.int .i64 (O i).k, .int .i64 (O i).a, .int .i64 (O i).b] 56) = W2 := ⟨_,rfl⟩
   have hb2 : Below wr.heap.size wr W2 := by rw [← hW2]; exact (Below.refl _ wr).alloc (Nat.le_refl _) _
   have B10 : Blk W2 wr.heap.size 56 #[.int .i64 (O i).k, .int .i64 (O i).a, .int .i64 (O i).b] := by rw [← hW2]; exact Blk.new wr 56 _
   have HF2 : Hid (Fal w N F G p n w.heap.size W1.heap.size V1.heap.size X (.slice ga tc.length gc) svb (.slice ga tc.length gc) tc tbb tc W2) := HFr.out.below hb2
   have HL2 : Hid (LiveB W2 N p X n σr tc ∧ (z = true → σr.brk = true)) := ⟨hLr.below hb2,hzr⟩
   have HB10 : Hid (Blk W2 wr.heap.size 56 #[.int .i64 (O i).k, .int .i64 (O i).a, .int .i64 (O i).b]) := B10
   have HUP : Hid (Ups tc ∧ tc.length ≤ 1000000) := hLr.up
   have c1 : W2.cell? ⟨wr.heap.size, 1,none⟩ = some (.int .i64 (O i).a) := B10.cell 1
   have cG : W2.cell? ⟨G, 2,none⟩ = some (.slice ga tc.length gc) := HF2.out.gb.cell 2
   have hnum := number_any (O i).a W2 v1
   have HW2 : Hid (wr.alloc (.cells #[.int .i64 (O i).k, .int .i64 (O i).a, .int .i64 (O i).b] 56) = W2) := hW2
   clear hW2 hb2 B10 hLr hzr HFr HSr p0 p1 p2 hNa hab v1 hbk hma
   go_upto_region 11 with fail
   rw [HW2.out]
   clear HW2 cm r0 r1 r2
   go_upto_region 12 with (go_at_call 43; refine hnum.mono ?_; rintro e w9 ⟨⟨id,hid,rfl⟩,rfl⟩)
   have hge := mget_any w9 0 (.slice ga tc.length gc) tc HF2.out.tvg HUP.out.1 HUP.out.2 (id : Int)
   have hid2 : 0 ≤ (id : Int) ∧ (id : Int) ≤ 4611686018427387904 := by omega
   clear hnum c1
   go_upto_region 13 with (go_at_call 44; refine hge.mono ?_; rintro e w3 ⟨rfl,hb3⟩)
   obtain ⟨W3,hW3⟩ : ∃ W3,w3.alloc (.cells #[.int .i64 ((rectOf (tget (id : Int) tc)).a : Int), .int .i64 ((rectOf (tget (id : Int) tc)).b : Int), .int .i64 ((rectOf (tget (id : Int) tc)).c : Int), .int .i64 ((rectOf (tget (id : Int) tc)).d : Int)] 34) = W3 := ⟨_,rfl⟩
   have hbW : Below w9.heap.size w9 W3 := by rw [← hW3]; exact hb3.alloc hb3.size _
   rw [hW3]
   have hF3 := HF2.out.below hbW
   have hL3 := HL2.out.1.below hbW
   have hB3 := HB10.out.below hbW HB10.out.lt
   have cG3 : W3.cell? ⟨G, 2,none⟩ = some (.slice ga tc.length gc) := hF3.gb.cell 2
   have c6 : W3.cell? ⟨W1.heap.size, 0,none⟩ = some svb := hF3.hb.cell 0
   have f6 : W3.frozen? ⟨W1.heap.size, 0,none⟩ = false := hF3.hb.frozen 0
   obtain ⟨hF4,o4⟩ := hF3.setB hF3.tvg hF3.lens.1
   have hL4 := hL3.off hF3.hb (by unfold own5; omega) (by decide) (by decide) o4
   have hB4 := hB3.off o4 (fun e => blk_ne hB3 hF3.hb (by decide) e)
   obtain ⟨W4,hW4⟩ : ∃ W4,W3.setCell ⟨W1.heap.size, 0,none⟩ (.slice ga tc.length gc) = W4 := ⟨_,rfl⟩
   rw [hW4] at hF4 o4 hL4 hB4
   have cG4 : W4.cell? ⟨G, 2,none⟩ = some (.slice ga tc.length gc) := hF4.gb.cell 2
   have c7 : W4.cell? ⟨V1.heap.size, 0,none⟩ = some (.slice ga tc.length gc) := hF4.ha.cell 0
   have f7 : W4.frozen? ⟨V1.heap.size, 0,none⟩ = false := hF4.ha.frozen 0
   obtain ⟨hF5,o5⟩ := hF4.setA hF4.tvg hF4.lens.1
   have hL5 := hL4.off hF4.ha (by unfold own5; omega) (by decide) (by decide) o5
   have hB5 := hB4.off o5 (fun e => blk_ne hB4 hF4.ha (by decide) e)
   obtain ⟨W5,hW5⟩ : ∃ W5,W4.setCell ⟨V1.heap.size, 0,none⟩ (.slice ga tc.length gc) = W5 := ⟨_,rfl⟩
   rw [hW5] at hF5 o5 hL5 hB5
   have HW4 : Hid (W3.setCell ⟨W1.heap.size, 0,none⟩ (.slice ga tc.length gc) = W4) := hW4
   have HW5 : Hid (W4.setCell ⟨V1.heap.size, 0,none⟩ (.slice ga tc.length gc) = W5) := hW5
   have HF5 : Hid (Fal w N F G p n w.heap.size W1.heap.size V1.heap.size X (.slice ga tc.length gc) (.slice ga tc.length gc) (.slice ga tc.length gc) tc tc tc W5) := hF5
   have HL5 : Hid (LiveB W5 N p X n σr tc ∧ (z = true → σr.brk = true)) := ⟨hL5,HL2.out.2⟩
   have HB5 : Hid (Blk W5 wr.heap.size 56 #[.int .i64 (O i).k, .int .i64 (O i).a, .int .i64 (O i).b]) := hB5
   clear hW3 hbW hb3 hge hF3 hL3 hB3 hF4 o4 hL4 hB4 hF5 o5 hL5 hB5 hW4 hW5 HF2 HL2 HB10 cG
   go_upto_region 14 with fail
   rw [HW4.out]
   clear HW4 cG3 c6 f6
   go_upto_region 15 with fail
   rw [HW5.out]
   clear HW5 cG4 c7 f7
   obtain ⟨th,hth⟩ : ∃ th,(tget (id : Int) tc).isSome = th := ⟨_,rfl⟩
   have HTH : Hid ((tget (id : Int) tc).isSome = th) := hth
   rw [hth]
   clear hth
   go_upto_block 2 with fail
   go_cut [14] (fun s14 wx => ∃ (er : Int) (s2 : Value) (t2 : List (Int × Box)),s14 = .int .i64 er ∧ Fal w N F G p n w.heap.size W1.heap.size V1.heap.size X (.slice ga tc.length gc) (.slice ga tc.length gc) s2 tc tc t2 wx ∧ ((er = 0 ∧ ∃ σ',LiveB wx N p X n σ' t2 ∧ (z = true → σ'.brk = true)) ∨ (er = 4 ∧ Stt wx N p X n true tc t2)))
   case first =>
    as_aux_lemma =>
    have hk3 := pickI_lt (O i).k 3 (by omega)
    obtain ⟨k3,hk3e⟩ : ∃ k3,pickI (O i).k 3 = k3 := ⟨_,rfl⟩
    have hpk3 : ∀ m,Calls Tryz.prog 24 #[.int .i64 (O i).k, .int .i64 3] (W5.drewN m) fun e w' => e = .returned (.int .i64 k3) ∧ w' = W5.drewN m := fun m => by rw [← hk3e]; exact pick_eq (O i).k 3 _ (by omega) v0
    obtain ⟨rm,hrme⟩ : ∃ rm,(n - 200) / 4 = rm := ⟨_,rfl⟩
    have HRM : Hid ((n - 200) / 4 = rm) := hrme
    have e0 : W5.cell? ⟨wr.heap.size, 0,none⟩ = some (.int .i64 (O i).k) := HB5.out.cell 0
    have eS : W5.cell? ⟨G, 2,none⟩ = some (.slice ga tc.length gc) := HF5.out.gb.cell 2
    have eR : W5.cell? ⟨G, 3,none⟩ = some (.int .i64 (rm : Int)) := by rw [← hrme]; exact HF5.out.gb.cell 3
    clear hrme hk3e hk3
    go_upto_region 16 with fail
    go_cut [90] (fun s90 wx => s90 = .bool (decide (0 < k3) && (th || decide (tc.length < rm))) ∧ Below W5.heap.size W5 wx)
    case first =>
     as_aux_lemma =>
     by_cases h1 : 0 < k3
     ·cases th with
      | true =>
       go_quiet ((go_at_call 24; exact Calls.quiet_of_same (hpk3 _)))
       go_wp2
       go_meet
       exact ⟨by simp [h1],below_drewN W5 nq _⟩
      | false =>
       by_cases h2 : tc.length < rm
       ·have h2' : (tc.length : Int) < (rm : Int) := by omega
        go_quiet ((go_at_call 24; exact Calls.quiet_of_same (hpk3 _)))
        go_wp2
        go_meet
        exact ⟨by simp [h1,h2],below_drewN W5 nq _⟩
       ·have h2' : decide ((tc.length : Int) < (rm : Int)) = false := by simp; omega
        go_quiet ((go_at_call 24; exact Calls.quiet_of_same (hpk3 _)))
        go_wp2
        go_meet
        exact ⟨by simp [h1,h2],below_drewN W5 nq _⟩
     ·have h1' : decide (0 < k3) = false := by simpa using h1
      go_quiet ((go_at_call 24; exact Calls.quiet_of_same (hpk3 _)))
      go_wp2
      go_meet
      exact ⟨by rw [h1',Bool.false_and],below_drewN W5 nq _⟩
    case rest =>
     as_aux_lemma =>
     obtain ⟨rfl,hb6⟩ := hcut
     obtain ⟨W6,rfl⟩ : ∃ W6,W6 = wc := ⟨_,rfl⟩
     have HF6 : Hid (Fal w N F G p n w.heap.size W1.heap.size V1.heap.size X (.slice ga tc.length gc) (.slice ga tc.length gc) (.slice ga tc.length gc) tc tc tc W6) := HF5.out.below hb6
     have HL6 : Hid (LiveB W6 N p X n σr tc ∧ (z = true → σr.brk = true)) := ⟨HL5.out.1.below hb6,HL5.out.2⟩
     have hB6 := HB5.out.below hb6 HB5.out.lt
     have e2 : W6.cell? ⟨wr.heap.size, 2,none⟩ = some (.int .i64 (O i).b) := hB6.cell 2
     have eS6 : W6.cell? ⟨G, 2,none⟩ = some (.slice ga tc.length gc) := HF6.out.gb.cell 2
     have eX6 : W6.cell? ⟨G, 1,none⟩ = some (.pointer (some ⟨X, 0,none⟩)) := HF6.out.gb.cell 1
     clear hb6 HF5 HL5 HB5 e0 eS eR hpk3 hB6
     cases hbP : (decide (0 < k3) && (th || decide (tc.length < rm))) with
     | true =>
      have HTL : Hid (∀ v,(tput (id : Int) v tc).length ≤ (n - 200) / 4) := fun v => by
       simp only [Bool.and_eq_true,Bool.or_eq_true,decide_eq_true_eq] at hbP
       cases hg : tget (id : Int) tc with
       | none =>
        rw [tput_len_new hg,HRM.out]
        rcases hbP.2 with h | h
        ·rw [← HTH.out,hg] at h; cases h
        ·omega
       | some v0 => rw [tput_len HUP.out.1 hg]; exact HF6.out.lens.1
      have hrc := rect_any W6 (O i).b v2
      clear hbP
      go_upto_region 18 with (go_at_call 26; refine hrc.mono ?_; rintro e w7 ⟨⟨v,hv,rfl⟩,hb7⟩)
      obtain ⟨W8,hW8⟩ : ∃ W8,w7.alloc (.cells #[.int .i64 (v.a : Int), .int .i64 (v.b : Int), .int .i64 (v.c : Int), .int .i64 (v.d : Int)] 34) = W8 := ⟨_,rfl⟩
      have hb68 : Below W6.heap.size W6 W8 := by rw [← hW8]; exact hb7.alloc hb7.size _
      have B15 : Blk W8 w7.heap.size 34 (boxC v) := by rw [← hW8]; exact Blk.new w7 34 _
      rw [hW8]
      have HF8 : Hid (Fal w N F G p n w.heap.size W1.heap.size V1.heap.size X (.slice ga tc.length gc) (.slice ga tc.length gc) (.slice ga tc.length gc) tc tc tc W8) := HF6.out.below hb68
      have HL8 : Hid (LiveB W8 N p X n σr tc ∧ (z = true → σr.brk = true)) := ⟨HL6.out.1.below hb68,HL6.out.2⟩
      have HB8 : Hid (Blk W8 w7.heap.size 34 (boxC v)) := B15
      have hmp := mput_any W8.drew 0 (.slice ga tc.length gc) tc (own_below HF8.out.tvg ((Below.refl _ W8).drew)) HUP.out.1 HUP.out.2 (id : Int) v
      have p0 : W8.cell? ⟨w7.heap.size, 0,none⟩ = some (.int .i64 (v.a : Int)) := B15.cell 0
      have p1 : W8.cell? ⟨w7.heap.size, 1,none⟩ = some (.int .i64 (v.b : Int)) := B15.cell 1
      have p2 : W8.cell? ⟨w7.heap.size, 2,none⟩ = some (.int .i64 (v.c : Int)) := B15.cell 2
      have p3 : W8.cell? ⟨w7.heap.size, 3,none⟩ = some (.int .i64 (v.d : Int)) := B15.cell 3
      have pS : W8.cell? ⟨G, 2,none⟩ = some (.slice ga tc.length gc) := HF8.out.gb.cell 2
      clear hW8 hb68 B15 hb7 hrc HF6 HL6 e2 eS6 eX6
      go_cut [] (fun wx => ∃ ov,Fal w N F G p n w.heap.size W1.heap.size V1.heap.size X (.slice ga tc.length gc) (.slice ga tc.length gc) ov tc tc (tput (id : Int) v tc) wx ∧ LiveB wx N p X n σr tc ∧ Blk wx w7.heap.size 34 (boxC v))
      case first =>
       as_aux_lemma =>
       go_region_with_o (first
        | (go_at_call 53; refine hmp.mono ?_; rintro e w10 ⟨ov,rfl,hT10,hb10⟩; obtain ⟨oa,oc,rfl,_,_,_⟩ := own_shape hT10; have hb10' : Below W8.heap.size W8 w10 := ((Below.refl _ W8).drew).trans hb10; have hF10 := HF8.out.below hb10'; have d7 : w10.cell? ⟨V1.heap.size, 0,none⟩ = some (.slice ga tc.length gc) := hF10.ha.cell 0; have f7 : w10.frozen? ⟨V1.heap.size, 0,none⟩ = false := hF10.ha.frozen 0))
       all_goals
        go_wp2
        go_meet
        obtain ⟨hF11,o11⟩ := hF10.setA (own_mono hT10 (Nat.zero_le _)) (HTL.out v)
        have hb15 := HB8.out.below hb10' HB8.out.lt
        exact ⟨_,hF11,(HL8.out.1.below hb10').off hF10.ha (by unfold own5; omega) (by decide) (by decide) o11,hb15.off o11 (fun e => blk_ne hb15 hF10.ha (by decide) e)⟩
      case rest =>
       as_aux_lemma =>
       obtain ⟨ov,hF11,hL11,hB11⟩ := hcut
       obtain ⟨W11,rfl⟩ : ∃ W11,W11 = wc := ⟨_,rfl⟩
       have hbd : Below W11.heap.size W11 W11.drew := (Below.refl _ W11).drew
       have hput := x_put (hL11.below hbd) HL8.out.2 hid2 hv hF11.lens.1 (HTL.out v)
       have s0 : W11.cell? ⟨w7.heap.size, 0,none⟩ = some (.int .i64 (v.a : Int)) := hB11.cell 0
       have s1 : W11.cell? ⟨w7.heap.size, 1,none⟩ = some (.int .i64 (v.b : Int)) := hB11.cell 1
       have s2 : W11.cell? ⟨w7.heap.size, 2,none⟩ = some (.int .i64 (v.c : Int)) := hB11.cell 2
       have s3 : W11.cell? ⟨w7.heap.size, 3,none⟩ = some (.int .i64 (v.d : Int)) := hB11.cell 3
       have sX : W11.cell? ⟨G, 1,none⟩ = some (.pointer (some ⟨X, 0,none⟩)) := hF11.gb.cell 1
       have HF11 : Hid (Fal w N F G p n w.heap.size W1.heap.size V1.heap.size X (.slice ga tc.length gc) (.slice ga tc.length gc) ov tc tc (tput (id : Int) v tc) W11) := hF11
       have HB11 : Hid (Blk W11 w7.heap.size 34 (boxC v)) := hB11
       have HKs : Hid (∀ W',CalmW N W11 W' → W'.cell? ⟨G, 1,none⟩ = some (.pointer (some ⟨X, 0,none⟩)) ∧ W'.cell? ⟨w7.heap.size, 0,none⟩ = some (.int .i64 (v.a : Int)) ∧ W'.cell? ⟨w7.heap.size, 1,none⟩ = some (.int .i64 (v.b : Int)) ∧ W'.cell? ⟨w7.heap.size, 2,none⟩ = some (.int .i64 (v.c : Int)) ∧ W'.cell? ⟨w7.heap.size, 3,none⟩ = some (.int .i64 (v.d : Int))) := fun W' hC => by
        have a := hC.blk HF11.out.gb (by unfold own5; omega)
        have b := hC.blk HB11.out (by unfold own5; omega)
        exact ⟨a.cell 1,b.cell 0,b.cell 1,b.cell 2,b.cell 3⟩
       clear hF11 hL11 hB11 hmp p0 p1 p2 p3 pS HF8 HB8
       go_upto_region 19 with fail
       go_region_held3 (fun W' => W'.cell? ⟨G, 1,none⟩ = some (.pointer (some ⟨X, 0,none⟩)) ∧ W'.cell? ⟨w7.heap.size, 0,none⟩ = some (.int .i64 (v.a : Int)) ∧ W'.cell? ⟨w7.heap.size, 1,none⟩ = some (.int .i64 (v.b : Int)) ∧ W'.cell? ⟨w7.heap.size, 2,none⟩ = some (.int .i64 (v.c : Int)) ∧ W'.cell? ⟨w7.heap.size, 3,none⟩ = some (.int .i64 (v.d : Int)))
        (first
         | exact ⟨sX,s0,s1,s2,s3⟩
         | exact HKs.out _ hC12
         | go_keep)
        ((go_at_call 10; refine hput.mono ?_; rintro e w12 ⟨hC12',er,rfl,hcase⟩; have hC12 : CalmW N W11 w12 := (CalmW.below hbd).trans hC12'))
       go_wp2
       go_meet
       exact ⟨er,ov,_,rfl,HF11.out.calm hC12,hcase⟩
     | false =>
      clear hbP
      cases th with
      | true =>
       obtain ⟨v0,hg⟩ := Option.isSome_iff_exists.1 HTH.out
       have HG : Hid (tget (id : Int) tc = some v0) := hg
       clear hg
       have hmd := mdel_any W6 0 (.slice ga tc.length gc) tc HF6.out.tvg HUP.out.2 (id : Int)
       have HTL : Hid ((tdel (id : Int) tc).length ≤ (n - 200) / 4) := Nat.le_trans tdel_len HF6.out.lens.1
       go_upto_region 22 with (go_at_call 45; refine hmd.mono ?_; rintro e w10 ⟨ov,rfl,hT10,hb10⟩; obtain ⟨oa,oc,rfl,_,_,_⟩ := own_shape hT10; have hF10 := HF6.out.below hb10; have d7 : w10.cell? ⟨V1.heap.size, 0,none⟩ = some (.slice ga tc.length gc) := hF10.ha.cell 0; have f7 : w10.frozen? ⟨V1.heap.size, 0,none⟩ = false := hF10.ha.frozen 0)
       obtain ⟨hF11,o11⟩ := hF10.setA (own_mono hT10 (Nat.zero_le _)) HTL.out
       have hL11 := (HL6.out.1.below hb10).off hF10.ha (by unfold own5; omega) (by decide) (by decide) o11
       obtain ⟨W11,hW11⟩ : ∃ W11,w10.setCell ⟨V1.heap.size, 0,none⟩ (.slice oa (tdel (id : Int) tc).length oc) = W11 := ⟨_,rfl⟩
       rw [hW11] at hF11 hL11
       rw [hW11]
       have hdl := x_del hL11 HL6.out.2 hid2 HG.out hF11.lens.1
       have sX : W11.cell? ⟨G, 1,none⟩ = some (.pointer (some ⟨X, 0,none⟩)) := hF11.gb.cell 1
       have HF11 : Hid (Fal w N F G p n w.heap.size W1.heap.size V1.heap.size X (.slice ga tc.length gc) (.slice ga tc.length gc) (.slice oa (tdel (id : Int) tc).length oc) tc tc (tdel (id : Int) tc) W11) := hF11
       clear hF11 hL11 o11 hF10 d7 f7 hT10 hb10 hW11 hmd HF6 e2 eS6 eX6
       go_wp2_with (go_at_call 35; refine hdl.mono ?_; rintro e w12 ⟨hC12,er,rfl,hcase⟩)
       go_meet
       exact ⟨er,_,_,rfl,HF11.out.calm hC12,hcase⟩
      | false =>
       go_wp2
       go_meet
       exact ⟨0,_,tc,rfl,HF6.out, .inl ⟨rfl, σr,HL6.out⟩⟩
   case rest =>
    as_aux_lemma =>
    obtain ⟨er,s2,t2,rfl,hF6,hcase⟩ := hcut
    obtain ⟨W6,rfl⟩ : ∃ W6,W6 = wc := ⟨_,rfl⟩
    obtain ⟨xa,xc,rfl,_,_,_⟩ := own_shape hF6.tva
    have d7 : W6.cell? ⟨V1.heap.size, 0,none⟩ = some (.slice xa t2.length xc) := hF6.ha.cell 0
    have dG : W6.cell? ⟨G, 2,none⟩ = some (.slice ga tc.length gc) := hF6.gb.cell 2
    have fG : W6.frozen? ⟨G, 2,none⟩ = false := hF6.gb.frozen 2
    have HF7 : Hid (Fal w N F G p n w.heap.size W1.heap.size V1.heap.size X (.slice xa t2.length xc) (.slice ga tc.length gc) (.slice xa t2.length xc) t2 tc t2 (W6.setCell ⟨G, 2,none⟩ (.slice xa t2.length xc))) := (hF6.setG hF6.tva hF6.lens.2.2).1
    have HO7 : Hid (Off (fun k => k = G) W6 (W6.setCell ⟨G, 2,none⟩ (.slice xa t2.length xc))) := (hF6.setG hF6.tva hF6.lens.2.2).2
    have HF6 : Hid (Fal w N F G p n w.heap.size W1.heap.size V1.heap.size X (.slice ga tc.length gc) (.slice ga tc.length gc) (.slice xa t2.length xc) tc tc t2 W6) := hF6
    clear hF6 HF5 HL5 HB5
    rcases hcase with ⟨rfl, σ',hL',hz'⟩ | ⟨rfl,hS'⟩
    ·have HL6 : Hid (LiveB W6 N p X n σ' t2 ∧ (z = true → σ'.brk = true)) := ⟨hL',hz'⟩
     clear hL' hz'
     go_wp2
     exact ⟨⟨i + 1,false,_,_,tc,t2,rfl,by go_num,by omega,HF7.out, .inl ⟨rfl, σ',HL6.out.1.off HF6.out.gb (by unfold own5; omega) (by decide) (by decide) HO7.out,HL6.out.2⟩⟩,by simp [intOf]; omega⟩
    ·have HS6 : Hid (Stt W6 N p X n true tc t2) := hS'
     clear hS'
     go_wp2
     exact ⟨⟨i + 1,true,_,_,tc,t2,rfl,by go_num,by omega,HF7.out, .inr ⟨rfl,HS6.out.off HF6.out.gb (by unfold own5; omega) (by decide) (by decide) HO7.out⟩⟩,by simp [intOf]; omega⟩
 case rest =>
 as_aux_lemma =>
 obtain ⟨br,svb,sv,tbb,tc,rfl,hF,hS⟩ := hcut
 obtain ⟨W9,rfl⟩ : ∃ W9,W9 = wc := ⟨_,rfl⟩
 obtain ⟨ga,gc,rfl,_,_,_⟩ := own_shape hF.tvg
 obtain ⟨ua,uc,rfl,_,_,_⟩ := own_shape hF.tvb
 have HF9 : Hid (Fal w N F G p n w.heap.size W1.heap.size V1.heap.size X (.slice ga tc.length gc) (.slice ua tbb.length uc) (.slice ga tc.length gc) tc tbb tc W9) := hF
 have HS9 : Hid (FSt W9 N p X n z br tbb tc) := hS
 have hpk := pick_eq F.nn 400 W9 (by omega) wn
 rw [HV.out.1] at hpk
 have c1 : W9.cell? ⟨w.heap.size, 1,none⟩ = some (.int .i64 F.nn) := hF.fb.cell 1
 clear hF hS HF HS
 go_upto_region 27 with fail
 go_cut [161] (fun s wx => s = .bool (!br && z) ∧ W9 = wx)
 case first =>
  as_aux_lemma =>
  cases br with
  | true =>
   go_wp2
   go_meet
   exact ⟨rfl,rfl⟩
  | false =>
   by_cases hv0 : v = 0
   ·have hz0 : z = true := by rw [← HV.out.2.1]; simp [hv0]
    go_wp2_with (go_at_call 24; refine hpk.mono ?_; rintro e w8 ⟨rfl,rfl⟩)
    go_meet
    exact ⟨by simp [hz0],rfl⟩
   ·have hz0 : z = false := by rw [← HV.out.2.1]; simp [hv0]
    go_wp2_with (go_at_call 24; refine hpk.mono ?_; rintro e w8 ⟨rfl,rfl⟩)
    go_meet
    exact ⟨by simp [hz0,hv0],rfl⟩
 case rest =>
 as_aux_lemma =>
 obtain ⟨rfl,rfl⟩ := hcut
 clear hpk c1 HV
 obtain ⟨bz,hbz⟩ : ∃ bz,(!br && z) = bz := ⟨_,rfl⟩
 have HBZ : Hid ((!br && z) = bz) := hbz
 rw [hbz]
 clear hbz
 go_upto_if 161 with fail
 go_cut [] (fun wx => Fal w N F G p n w.heap.size W1.heap.size V1.heap.size X (.slice ga tc.length gc) (.slice ua tbb.length uc) (.slice ga tc.length gc) tc tbb tc wx ∧ ((br = true ∧ Stt wx N p X n true tbb tc) ∨ (br = false ∧ DiskF wx N p n tc tc)))
 case first =>
  as_aux_lemma =>
  cases bz with
  | false =>
   go_wp2
   go_meet
   refine ⟨HF9.out, ?_⟩
   rcases HS9.out with ⟨rfl, σ9,hL9,_⟩ | ⟨rfl,hS9⟩
   ·exact .inr ⟨rfl,hL9.f⟩
   ·exact .inl ⟨rfl,hS9⟩
  | true =>
   obtain ⟨hb1,hz1⟩ : br = false ∧ z = true := by simpa using HBZ.out
   have hst : Stt W9 N p X n false tc tc := by
    rcases HS9.out with ⟨_, σ9,hL9,hz9⟩ | ⟨h,_⟩
    ·exact hL9.stt (hz9 hz1)
    ·rw [hb1] at h; cases h
   have HB1 : Hid (br = false) := hb1
   have hrf := refused_any W9 N G p X n _ _ HF9.out.gb false tc tc hst F wk
   have d0 : W9.cell? ⟨w.heap.size, 0,none⟩ = some (.slice F.ma F.ml F.mc) := HF9.out.fb.cell 0
   have d1 : W9.cell? ⟨w.heap.size, 1,none⟩ = some (.int .i64 F.nn) := HF9.out.fb.cell 1
   have d2 : W9.cell? ⟨w.heap.size, 2,none⟩ = some (.slice F.ka F.kl F.kc) := HF9.out.fb.cell 2
   have d3 : W9.cell? ⟨w.heap.size, 3,none⟩ = some (.int .i64 F.early) := HF9.out.fb.cell 3
   have d4 : W9.cell? ⟨w.heap.size, 4,none⟩ = some (.int .i64 F.kind) := HF9.out.fb.cell 4
   have d5 : W9.cell? ⟨w.heap.size, 5,none⟩ = some (.int .i64 F.id) := HF9.out.fb.cell 5
   have d6 : W9.cell? ⟨w.heap.size, 6,none⟩ = some (.int .i64 F.a) := HF9.out.fb.cell 6
   have d7 : W9.cell? ⟨w.heap.size, 7,none⟩ = some (.int .i64 F.b) := HF9.out.fb.cell 7
   have d8 : W9.cell? ⟨w.heap.size, 8,none⟩ = some (.int .i64 F.c) := HF9.out.fb.cell 8
   have d9 : W9.cell? ⟨w.heap.size, 9,none⟩ = some (.int .i64 F.d) := HF9.out.fb.cell 9
   clear hst hb1 hz1
   go_upto_region 29 with (go_at_call 54; refine hrf.mono ?_; rintro e w10 ⟨rfl,hC10,hS10⟩)
   have HF10 : Hid (Fal w N F G p n w.heap.size W1.heap.size V1.heap.size X (.slice ga tc.length gc) (.slice ua tbb.length uc) (.slice ga tc.length gc) tc tbb tc w10) := HF9.out.calm hC10
   clear d0 d1 d2 d3 d4 d5 d6 d7 d8 d9 hrf
   by_cases hd : wantE false F = 4
   ·have hd8 : (!decide (wantE false F = 8) && !decide (wantE false F = 6)) = true := by rw [hd]; decide
    have hS10' : Stt w10 N p X n true tc tc := by rw [hd] at hS10; exact hS10
    have hrf2 := refused_any w10 N G p X n _ _ HF10.out.gb true tc tc hS10' F wk
    have d0 : w10.cell? ⟨w.heap.size, 0,none⟩ = some (.slice F.ma F.ml F.mc) := HF10.out.fb.cell 0
    have d1 : w10.cell? ⟨w.heap.size, 1,none⟩ = some (.int .i64 F.nn) := HF10.out.fb.cell 1
    have d2 : w10.cell? ⟨w.heap.size, 2,none⟩ = some (.slice F.ka F.kl F.kc) := HF10.out.fb.cell 2
    have d3 : w10.cell? ⟨w.heap.size, 3,none⟩ = some (.int .i64 F.early) := HF10.out.fb.cell 3
    have d4 : w10.cell? ⟨w.heap.size, 4,none⟩ = some (.int .i64 F.kind) := HF10.out.fb.cell 4
    have d5 : w10.cell? ⟨w.heap.size, 5,none⟩ = some (.int .i64 F.id) := HF10.out.fb.cell 5
    have d6 : w10.cell? ⟨w.heap.size, 6,none⟩ = some (.int .i64 F.a) := HF10.out.fb.cell 6
    have d7 : w10.cell? ⟨w.heap.size, 7,none⟩ = some (.int .i64 F.b) := HF10.out.fb.cell 7
    have d8 : w10.cell? ⟨w.heap.size, 8,none⟩ = some (.int .i64 F.c) := HF10.out.fb.cell 8
    have d9 : w10.cell? ⟨w.heap.size, 9,none⟩ = some (.int .i64 F.d) := HF10.out.fb.cell 9
    rw [hd8]
    clear hS10 hS10' hd hd8 hC10
    go_wp2_with (go_at_call 54; refine hrf2.mono ?_; rintro e w11 ⟨rfl,hC11,hS11⟩)
    go_meet
    exact ⟨HF10.out.calm hC11, .inr ⟨HB1.out,hS11.f⟩⟩
   ·have hd8 : (!decide (wantE false F = 8) && !decide (wantE false F = 6)) = false := by rcases want_cases F with h | h | h <;> simp [h] at hd ⊢
    have hS10' : Stt w10 N p X n false tc tc := by rw [show (false || decide (wantE false F = 4)) = false by simp [hd]] at hS10; exact hS10
    have hct := raw_cnt hS10' 0 true
    have eX : w10.cell? ⟨G, 1,none⟩ = some (.pointer (some ⟨X, 0,none⟩)) := HF10.out.gb.cell 1
    have e4 : rawE false 4 0 true = 4 := by decide
    rw [e4] at hct
    rw [hd8]
    clear hS10 hS10' hd hd8 hC10 e4
    go_upto_region 35 with (go_at_call 38; refine hct.mono ?_; rintro e w12 ⟨rfl,hC12,hS12⟩)
    have HF12 : Hid (Fal w N F G p n w.heap.size W1.heap.size V1.heap.size X (.slice ga tc.length gc) (.slice ua tbb.length uc) (.slice ga tc.length gc) tc tbb tc w12) := HF10.out.calm hC12
    have hS12' : Stt w12 N p X n true tc tc := hS12
    have hrf2 := refused_any w12 N G p X n _ _ HF12.out.gb true tc tc hS12' F wk
    have d0 : w12.cell? ⟨w.heap.size, 0,none⟩ = some (.slice F.ma F.ml F.mc) := HF12.out.fb.cell 0
    have d1 : w12.cell? ⟨w.heap.size, 1,none⟩ = some (.int .i64 F.nn) := HF12.out.fb.cell 1
    have d2 : w12.cell? ⟨w.heap.size, 2,none⟩ = some (.slice F.ka F.kl F.kc) := HF12.out.fb.cell 2
    have d3 : w12.cell? ⟨w.heap.size, 3,none⟩ = some (.int .i64 F.early) := HF12.out.fb.cell 3
    have d4 : w12.cell? ⟨w.heap.size, 4,none⟩ = some (.int .i64 F.kind) := HF12.out.fb.cell 4
    have d5 : w12.cell? ⟨w.heap.size, 5,none⟩ = some (.int .i64 F.id) := HF12.out.fb.cell 5
    have d6 : w12.cell? ⟨w.heap.size, 6,none⟩ = some (.int .i64 F.a) := HF12.out.fb.cell 6
    have d7 : w12.cell? ⟨w.heap.size, 7,none⟩ = some (.int .i64 F.b) := HF12.out.fb.cell 7
    have d8 : w12.cell? ⟨w.heap.size, 8,none⟩ = some (.int .i64 F.c) := HF12.out.fb.cell 8
    have d9 : w12.cell? ⟨w.heap.size, 9,none⟩ = some (.int .i64 F.d) := HF12.out.fb.cell 9
    clear hS12 hS12' hct eX hC12
    go_wp2_with (go_at_call 54; refine hrf2.mono ?_; rintro e w11 ⟨rfl,hC11,hS11⟩)
    go_meet
    exact ⟨HF12.out.calm hC11, .inr ⟨HB1.out,hS11.f⟩⟩
 case rest =>
 as_aux_lemma =>
 obtain ⟨hF,hor⟩ := hcut
 obtain ⟨W10,rfl⟩ : ∃ W10,W10 = wc := ⟨_,rfl⟩
 have HF10 : Hid (Fal w N F G p n w.heap.size W1.heap.size V1.heap.size X (.slice ga tc.length gc) (.slice ua tbb.length uc) (.slice ga tc.length gc) tc tbb tc W10) := hF
 clear hF HF9 HS9
 go_upto_if 190 with fail
 go_cut [] (fun wx => ∃ svb' tbb',Fal w N F G p n w.heap.size W1.heap.size V1.heap.size X (.slice ga tc.length gc) svb' (.slice ga tc.length gc) tc tbb' tc wx ∧ DiskF wx N p n tbb' tc)
 case first =>
  as_aux_lemma =>
  rcases hor with ⟨rfl,hst⟩ | ⟨rfl,hdf⟩
  ·have hget := raw_get hst 5 true
   have hz : boxC zeroBox = #[.int .i64 0, .int .i64 0, .int .i64 0, .int .i64 0] := rfl
   have e1 : rawE true 2 5 true = 11 := rfl
   rw [hz,e1] at hget
   have eX : W10.cell? ⟨G, 1,none⟩ = some (.pointer (some ⟨X, 0,none⟩)) := HF10.out.gb.cell 1
   clear hst hz e1
   go_upto_region 40 with (go_at_call 37; refine hget.mono ?_; rintro e w11 ⟨rfl,hC11,hS11⟩)
   obtain ⟨W11,hW11⟩ : ∃ W11,w11.alloc (.cells #[.int .i64 0, .int .i64 0, .int .i64 0, .int .i64 0] 34) = W11 := ⟨_,rfl⟩
   have hb11 : Below w11.heap.size w11 W11 := by rw [← hW11]; exact (Below.refl _ w11).alloc (Nat.le_refl _) _
   rw [hW11]
   have HF11 : Hid (Fal w N F G p n w.heap.size W1.heap.size V1.heap.size X (.slice ga tc.length gc) (.slice ua tbb.length uc) (.slice ga tc.length gc) tc tbb tc W11) := (HF10.out.calm hC11).below hb11
   have hS11' : Stt W11 N p X n true tbb tc := Stt.below hS11 hb11
   have hput := raw_put hS11' 5 0 0 0 0
   have e2 : rawE true 0 5 (rightB 0 0 0 0) = 11 := rfl
   rw [e2] at hput
   have eX11 : W11.cell? ⟨G, 1,none⟩ = some (.pointer (some ⟨X, 0,none⟩)) := HF11.out.gb.cell 1
   clear hget eX hS11 hS11' hb11 hW11 hC11 e2
   go_upto_region 41 with (go_at_call 10; refine hput.mono ?_; rintro e w12 ⟨rfl,hC12,hS12⟩)
   have HF12 : Hid (Fal w N F G p n w.heap.size W1.heap.size V1.heap.size X (.slice ga tc.length gc) (.slice ua tbb.length uc) (.slice ga tc.length gc) tc tbb tc w12) := HF11.out.calm hC12
   have hS12' : Stt w12 N p X n true tbb tc := hS12
   have hct := raw_cnt hS12' 0 true
   have e3 : rawE true 4 0 true = 11 := rfl
   rw [e3] at hct
   have eX12 : w12.cell? ⟨G, 1,none⟩ = some (.pointer (some ⟨X, 0,none⟩)) := HF12.out.gb.cell 1
   clear hput eX11 hS12 hS12' hC12 e3
   go_upto_region 42 with (go_at_call 38; refine hct.mono ?_; rintro e w13 ⟨rfl,hC13,hS13⟩)
   have HF13 : Hid (Fal w N F G p n w.heap.size W1.heap.size V1.heap.size X (.slice ga tc.length gc) (.slice ua tbb.length uc) (.slice ga tc.length gc) tc tbb tc w13) := HF12.out.calm hC13
   have hS13' : Stt w13 N p X n true tbb tc := hS13
   have hrf2 := refused_any w13 N G p X n _ _ HF13.out.gb true tbb tc hS13' F wk
   have d0 : w13.cell? ⟨w.heap.size, 0,none⟩ = some (.slice F.ma F.ml F.mc) := HF13.out.fb.cell 0
   have d1 : w13.cell? ⟨w.heap.size, 1,none⟩ = some (.int .i64 F.nn) := HF13.out.fb.cell 1
   have d2 : w13.cell? ⟨w.heap.size, 2,none⟩ = some (.slice F.ka F.kl F.kc) := HF13.out.fb.cell 2
   have d3 : w13.cell? ⟨w.heap.size, 3,none⟩ = some (.int .i64 F.early) := HF13.out.fb.cell 3
   have d4 : w13.cell? ⟨w.heap.size, 4,none⟩ = some (.int .i64 F.kind) := HF13.out.fb.cell 4
   have d5 : w13.cell? ⟨w.heap.size, 5,none⟩ = some (.int .i64 F.id) := HF13.out.fb.cell 5
   have d6 : w13.cell? ⟨w.heap.size, 6,none⟩ = some (.int .i64 F.a) := HF13.out.fb.cell 6
   have d7 : w13.cell? ⟨w.heap.size, 7,none⟩ = some (.int .i64 F.b) := HF13.out.fb.cell 7
   have d8 : w13.cell? ⟨w.heap.size, 8,none⟩ = some (.int .i64 F.c) := HF13.out.fb.cell 8
   have d9 : w13.cell? ⟨w.heap.size, 9,none⟩ = some (.int .i64 F.d) := HF13.out.fb.cell 9
   clear hct eX12 hS13 hS13' hC13
   go_wp2_with (go_at_call 54; refine hrf2.mono ?_; rintro e w14 ⟨rfl,hC14,hS14⟩)
   go_meet
   exact ⟨_,tbb,HF13.out.calm hC14,hS14.f⟩
  ·have eG : W10.cell? ⟨G, 2,none⟩ = some (.slice ga tc.length gc) := HF10.out.gb.cell 2
   have e6 : W10.cell? ⟨W1.heap.size, 0,none⟩ = some (.slice ua tbb.length uc) := HF10.out.hb.cell 0
   have f6 : W10.frozen? ⟨W1.heap.size, 0,none⟩ = false := HF10.out.hb.frozen 0
   go_wp2
   go_meet
   obtain ⟨hF11,o11⟩ := HF10.out.setB HF10.out.tvg HF10.out.lens.1
   exact ⟨_,tc,hF11,hdf.off HF10.out.hb (by unfold own5; omega) o11⟩
 case rest =>
 as_aux_lemma =>
 obtain ⟨svb',tbb',hF,hdf⟩ := hcut
 obtain ⟨W12,rfl⟩ : ∃ W12,W12 = wc := ⟨_,rfl⟩
 obtain ⟨xa,xc,rfl,_,_,_⟩ := own_shape hF.tvb
 have HF12 : Hid (Fal w N F G p n w.heap.size W1.heap.size V1.heap.size X (.slice ga tc.length gc) (.slice xa tbb'.length xc) (.slice ga tc.length gc) tc tbb' tc W12) := hF
 have hbd : Below W12.heap.size W12 W12.drew := (Below.refl _ W12).drew
 have hcr := f_crash (hdf.below hbd) F.ka F.kl F.kc K ((HKK.out.1.keep hF.keep HKK.out.2.1).low hbd) HKK.out.2.2 HKK.out.2.1
 have q0 : W12.cell? ⟨G, 0,none⟩ = some (.pointer (some ⟨p, 0,none⟩)) := hF.gb.cell 0
 have q2 : W12.cell? ⟨w.heap.size, 2,none⟩ = some (.slice F.ka F.kl F.kc) := hF.fb.cell 2
 clear hF hdf HF10 hor
 go_upto_region 46 with fail
 go_cut [] (fun wx => CalmW N W12 wx ∧ ∃ td,(td = tbb' ∨ td = tc) ∧ DiskQ wx N p n Free td)
 case first =>
  as_aux_lemma =>
  go_region_held3 (fun W' => W'.cell? ⟨G, 0,none⟩ = some (.pointer (some ⟨p, 0,none⟩)) ∧ W'.cell? ⟨w.heap.size, 2,none⟩ = some (.slice F.ka F.kl F.kc))
   (first
    | exact ⟨q0,q2⟩
    | exact ⟨Blk.cell (hC1.blk HF12.out.gb (by unfold own5; omega)) 0,Blk.cell (hC1.blk HF12.out.fb (by unfold own5; omega)) 2⟩
    | go_keep)
   ((go_at_call 20; refine hcr.mono ?_; rintro e w13 ⟨rfl,hC1',td,htd,hQ⟩; have hC1 : CalmW N W12 w13 := (CalmW.below hbd).trans hC1'))
  go_wp2
  go_meet
  exact ⟨hC1,td,htd,hQ⟩
 case rest =>
 as_aux_lemma =>
 obtain ⟨hC13,td,htd,hQ13⟩ := hcut
 obtain ⟨W13,rfl⟩ : ∃ W13,W13 = wc := ⟨_,rfl⟩
 have HF13 : Hid (Fal w N F G p n w.heap.size W1.heap.size V1.heap.size X (.slice ga tc.length gc) (.slice xa tbb'.length xc) (.slice ga tc.length gc) tc tbb' tc W13) := HF12.out.calm hC13
 have HTD : Hid (td = tbb' ∨ td = tc) := htd
 have HQ13 : Hid (DiskQ W13 N p n Free td) := hQ13
 have e3 : W13.cell? ⟨w.heap.size, 3,none⟩ = some (.int .i64 F.early) := HF13.out.fb.cell 3
 clear hcr q0 q2 hC13 HF12 htd hQ13 hbd
 go_upto_if 246 with fail
 obtain ⟨be,hbe⟩ : ∃ be,decide (0 < F.early) = be := ⟨_,rfl⟩
 rw [hbe]
 have HBE : Hid (decide (0 < F.early) = be) := hbe
 clear hbe
 go_cut [] (fun wx => CalmW N W13 wx ∧ DiskQ wx N p n Free td)
 case first =>
  as_aux_lemma =>
  cases be with
  | false =>
   go_wp2
   go_meet
   exact ⟨CalmW.refl _ _,HQ13.out⟩
  | true =>
  have hbd : Below W13.heap.size W13 W13.drew := (Below.refl _ W13).drew
  have hpk := pick_eq F.early 6 W13.drew (by omega) we
  have hv6 := pickI_lt F.early 6 (by omega)
  obtain ⟨v6,hve⟩ : ∃ v6,pickI F.early 6 = v6 := ⟨_,rfl⟩
  rw [hve] at hpk hv6
  have hbr := q_break (HQ13.out.below hbd) (v := v6) (by omega)
  have q0 : W13.cell? ⟨G, 0,none⟩ = some (.pointer (some ⟨p, 0,none⟩)) := HF13.out.gb.cell 0
  clear hve hv6
  go_upto_region 48 with fail
  go_cut [] (fun wx => CalmW N W13 wx ∧ DiskQ wx N p n Brks td)
  case first =>
   as_aux_lemma =>
   go_region_held3 (fun W' => W'.cell? ⟨G, 0,none⟩ = some (.pointer (some ⟨p, 0,none⟩)) ∧ W'.cell? ⟨w.heap.size, 3,none⟩ = some (.int .i64 F.early))
    (first
     | exact ⟨q0,e3⟩
     | exact ⟨Blk.cell (hC1.blk HF13.out.gb (by unfold own5; omega)) 0,Blk.cell (hC1.blk HF13.out.fb (by unfold own5; omega)) 3⟩
     | go_keep)
    (first
     | (go_at_call 24; refine hpk.mono ?_; rintro e w8 ⟨rfl,rfl⟩)
     | (go_at_call 52; refine hbr.mono ?_; rintro e w14 ⟨rfl,hC1',hQ⟩; have hC1 : CalmW N W13 w14 := (CalmW.below hbd).trans hC1'))
   go_wp2
   go_meet
   exact ⟨hC1,hQ⟩
  case rest =>
  as_aux_lemma =>
  obtain ⟨hC14,hQ14⟩ := hcut
  obtain ⟨W14,rfl⟩ : ∃ W14,W14 = wc := ⟨_,rfl⟩
  have hF14 := HF13.out.calm hC14
  have hop := q_open hQ14
  have q14 : W14.cell? ⟨G, 0,none⟩ = some (.pointer (some ⟨p, 0,none⟩)) := hF14.gb.cell 0
  have HC14 : Hid (CalmW N W13 W14) := hC14
  clear hpk hbr q0 hQ14 hF14 hC14 hbd
  go_upto_region 50 with (go_at_call 21; refine hop.mono ?_; rintro e w15 ⟨pv,er,rfl,hpv,hC15,hD15⟩)
  have HC15 : Hid (CalmW N W13 w15) := HC14.out.trans hC15
  have HF15 : Hid (Fal w N F G p n w.heap.size W1.heap.size V1.heap.size X (.slice ga tc.length gc) (.slice xa tbb'.length xc) (.slice ga tc.length gc) tc tbb' tc w15) := HF13.out.calm HC15.out
  have hbd : Below w15.heap.size w15 w15.drew := (Below.refl _ w15).drew
  have hcr := f_crash (hD15.below hbd) F.ka F.kl F.kc K ((HKK.out.1.keep HF15.out.keep HKK.out.2.1).low hbd) HKK.out.2.2 HKK.out.2.1
  have q0 : w15.cell? ⟨G, 0,none⟩ = some (.pointer (some ⟨p, 0,none⟩)) := HF15.out.gb.cell 0
  have q2 : w15.cell? ⟨w.heap.size, 2,none⟩ = some (.slice F.ka F.kl F.kc) := HF15.out.fb.cell 2
  clear hop q14 hC15 hD15 HC14
  rcases hpv with ⟨X',rfl,rfl⟩ | ⟨rfl,rfl⟩
  all_goals
   go_upto_region 52 with fail
   go_region_held3 (fun W' => W'.cell? ⟨G, 0,none⟩ = some (.pointer (some ⟨p, 0,none⟩)) ∧ W'.cell? ⟨w.heap.size, 2,none⟩ = some (.slice F.ka F.kl F.kc))
    (first
     | exact ⟨q0,q2⟩
     | exact ⟨Blk.cell (hC1.blk HF15.out.gb (by unfold own5; omega)) 0,Blk.cell (hC1.blk HF15.out.fb (by unfold own5; omega)) 2⟩
     | go_keep)
    ((go_at_call 20; refine hcr.mono ?_; rintro e w16 ⟨rfl,hC1',te,hte,hQ⟩; have hC1 : CalmW N w15 w16 := (CalmW.below hbd).trans hC1'))
   go_wp2
   go_meet
   exact ⟨HC15.out.trans hC1,by rcases hte with h | h <;> (rw [← h]; exact hQ)⟩
 case rest =>
 as_aux_lemma =>
 obtain ⟨hC16,hQ16⟩ := hcut
 obtain ⟨W16,rfl⟩ : ∃ W16,W16 = wc := ⟨_,rfl⟩
 have HF16 : Hid (Fal w N F G p n w.heap.size W1.heap.size V1.heap.size X (.slice ga tc.length gc) (.slice xa tbb'.length xc) (.slice ga tc.length gc) tc tbb' tc W16) := HF13.out.calm hC16
 have hop := disk_open hQ16.x
 have q0 : W16.cell? ⟨G, 0,none⟩ = some (.pointer (some ⟨p, 0,none⟩)) := HF16.out.gb.cell 0
 clear hC16 hQ16 HF13 HQ13 e3
 go_upto_region 54 with (go_at_call 21; refine hop.mono ?_; rintro e w17 ⟨X',rfl,hC17, σ17,hL17⟩)
 have hF17 := HF16.out.calm hC17
 have c17 : w17.cell? ⟨G, 1,none⟩ = some (.pointer (some ⟨X, 0,none⟩)) := hF17.gb.cell 1
 have f17 : w17.frozen? ⟨G, 1,none⟩ = false := hF17.gb.frozen 1
 obtain ⟨hF18,o18⟩ := hF17.setX X'
 have hL18 := hL17.off hF17.gb (by unfold own5; omega) (by decide) (by decide) o18
 obtain ⟨W18,hW18⟩ : ∃ W18,w17.setCell ⟨G, 1,none⟩ (.pointer (some ⟨X', 0,none⟩)) = W18 := ⟨_,rfl⟩
 rw [hW18] at hF18 hL18
 have HW18 : Hid (w17.setCell ⟨G, 1,none⟩ (.pointer (some ⟨X', 0,none⟩)) = W18) := hW18
 have HF18 : Hid (Fal w N F G p n w.heap.size W1.heap.size V1.heap.size X' (.slice ga tc.length gc) (.slice xa tbb'.length xc) (.slice ga tc.length gc) tc tbb' tc W18) := hF18
 have hal := alike_gen W18 N G p X' n σ17 _ _ td hF18.gb hL18 (.slice xa tbb'.length xc) tbb' hF18.tvb
 have c6 : W18.cell? ⟨W1.heap.size, 0,none⟩ = some (.slice xa tbb'.length xc) := hF18.hb.cell 0
 clear hop q0 hC17 hL17 hF17 o18 hW18 hF18 hL18 HF16
 go_upto_region 57 with fail
 rw [HW18.out]
 clear HW18 c17 f17
 go_upto_region 58 with (go_at_call 17; refine hal.mono ?_; rintro e w19 ⟨⟨r,rfl,hr⟩,hC19, σ19,hL19⟩)
 have hF19 := HF18.out.calm hC19
 have c19 : w19.cell? ⟨G, 2,none⟩ = some (.slice ga tc.length gc) := hF19.gb.cell 2
 have f19 : w19.frozen? ⟨G, 2,none⟩ = false := hF19.gb.frozen 2
 have a19 : w19.cell? ⟨V1.heap.size, 0,none⟩ = some (.slice ga tc.length gc) := hF19.ha.cell 0
 obtain ⟨hF20,o20⟩ := hF19.setG hF19.tva hF19.lens.2.2
 have hL20 := hL19.off hF19.gb (by unfold own5; omega) (by decide) (by decide) o20
 obtain ⟨W20,hW20⟩ : ∃ W20,w19.setCell ⟨G, 2,none⟩ (.slice ga tc.length gc) = W20 := ⟨_,rfl⟩
 rw [hW20] at hF20 hL20
 have HW20 : Hid (w19.setCell ⟨G, 2,none⟩ (.slice ga tc.length gc) = W20) := hW20
 have HF20 : Hid (Fal w N F G p n w.heap.size W1.heap.size V1.heap.size X' (.slice ga tc.length gc) (.slice xa tbb'.length xc) (.slice ga tc.length gc) tc tbb' tc W20) := hF20
 have HL20 : Hid (LiveX W20 N p X' n σ19 td) := hL20
 have HR : Hid (r = true ↔ td = tbb') := hr
 clear hal c6 hC19 hL19 hF19 o20 hW20 hF20 hL20 HF18 hr
 go_upto_region 59 with fail
 rw [HW20.out]
 clear HW20 c19 f19 a19
 go_upto_if 308 with fail
 go_cut [] (fun wx => ∃ svx,Fal w N F G p n w.heap.size W1.heap.size V1.heap.size X' svx (.slice xa tbb'.length xc) (.slice ga tc.length gc) td tbb' tc wx ∧ ∃ σ',LiveX wx N p X' n σ' td)
 case first =>
  as_aux_lemma =>
  have c20 : W20.cell? ⟨G, 2,none⟩ = some (.slice ga tc.length gc) := HF20.out.gb.cell 2
  have f20 : W20.frozen? ⟨G, 2,none⟩ = false := HF20.out.gb.frozen 2
  have b20 : W20.cell? ⟨W1.heap.size, 0,none⟩ = some (.slice xa tbb'.length xc) := HF20.out.hb.cell 0
  cases r with
  | true =>
   have HF22 : Hid (Fal w N F G p n w.heap.size W1.heap.size V1.heap.size X' (.slice xa tbb'.length xc) (.slice xa tbb'.length xc) (.slice ga tc.length gc) td tbb' tc (W20.setCell ⟨G, 2,none⟩ (.slice xa tbb'.length xc))) := by
    have e : td = tbb' := HR.out.1 rfl
    have h := (HF20.out.setG HF20.out.tvb HF20.out.lens.2.1).1
    rw [← e] at h ⊢
    exact h
   have HL22 : Hid (LiveX (W20.setCell ⟨G, 2,none⟩ (.slice xa tbb'.length xc)) N p X' n σ19 td) := HL20.out.off HF20.out.gb (by unfold own5; omega) (by decide) (by decide) (HF20.out.setG HF20.out.tvb HF20.out.lens.2.1).2
   go_wp2
   go_meet
   exact ⟨_,HF22.out, σ19,HL22.out⟩
  | false =>
   have HF22 : Hid (Fal w N F G p n w.heap.size W1.heap.size V1.heap.size X' (.slice ga tc.length gc) (.slice xa tbb'.length xc) (.slice ga tc.length gc) td tbb' tc W20) := by
    have e : td = tc := HTD.out.resolve_left (fun h => by have := HR.out.2 h; cases this)
    have h := HF20.out
    rw [← e] at h ⊢
    exact h
   go_wp2
   go_meet
   exact ⟨_,HF22.out, σ19,HL20.out⟩
 case rest =>
 as_aux_lemma =>
 obtain ⟨svx,hF21, σ21,hL21⟩ := hcut
 obtain ⟨W21,rfl⟩ : ∃ W21,W21 = wc := ⟨_,rfl⟩
 obtain ⟨ya,yc,rfl,_,_,_⟩ := own_shape hF21.tvg
 have HF21 : Hid (Fal w N F G p n w.heap.size W1.heap.size V1.heap.size X' (.slice ya td.length yc) (.slice xa tbb'.length xc) (.slice ga tc.length gc) td tbb' tc W21) := hF21
 have hal := alike_gen W21 N G p X' n σ21 _ _ td hF21.gb hL21 (.slice ya td.length yc) td hF21.tvg
 have c21 : W21.cell? ⟨G, 2,none⟩ = some (.slice ya td.length yc) := hF21.gb.cell 2
 clear hF21 hL21 HF20 HL20
 go_upto_region 62 with (go_at_call 17; refine hal.mono ?_; rintro e w22 ⟨⟨r2,rfl,hr2⟩,hC22, σ22,hL22⟩; obtain rfl : r2 = true := hr2.2 rfl)
 have HF22 : Hid (Fal w N F G p n w.heap.size W1.heap.size V1.heap.size X' (.slice ya td.length yc) (.slice xa tbb'.length xc) (.slice ga tc.length gc) td tbb' tc w22) := HF21.out.calm hC22
 have hcp := copies_any w22 N G p X' n σ22 (.slice ya td.length yc) td HF22.out.gb hL22 (.slice ya td.length yc) HF22.out.tvg HF22.out.lens.1
 have c22 : w22.cell? ⟨G, 2,none⟩ = some (.slice ya td.length yc) := HF22.out.gb.cell 2
 have HL22 : Hid (LiveX w22 N p X' n σ22 td) := hL22
 clear hal c21 hC22 hL22 HF21 hr2
 go_wp2_with (go_at_call 22; refine hcp.mono ?_; rintro e w23 ⟨rfl,hb23⟩)
 go_ret
 have hF23 := HF22.out.below hb23
 exact ⟨rfl,hF23.keep,X', σ22,td,⟨_,hF23.gb,hF23.tvg,HL22.out.below hb23,hF23.nG⟩,hF23.lens.1⟩
end
end Go.Proofs.YtdgbgmffpcooeaaGreat
