/- No1 Kq1 Tn1 -/
import Derived.Test.YtdgbgmffpcooeaaGreatV49
namespace Go.Proofs.YtdgbgmffpcooeaaGreat
open Go.RowKit Go.Lib
section
theorem PD.base0 {W : World} {base : Nat} {A : PA} {s : PS} (h : PD W base A s) : PD W 0 A s := ⟨⟨Nat.zero_le _,Nat.zero_le _,Nat.zero_le _,Nat.zero_le _⟩,h.blkP,h.blkQ,h.sec,h.map,h.n1,h.n2⟩
theorem PD.les {W : World} {base : Nat} {A : PA} {s : PS} (h : PD W base A s) : ∀ k,A.F k → base ≤ k := fun k hk => by
 obtain ⟨a,b,c,d⟩ := h.le
 rcases hk with rfl | rfl | rfl | rfl
 ·exact a
 ·exact b
 ·exact c
 ·exact d
theorem tput_nil (id : Int) (v : Box) : tput id v [] = [(id,v)] := rfl
theorem win_one : winL ⟨9, 9, 20, 20⟩ [(5,⟨3, 4, 9, 9⟩)] = [5] := by decide +kernel
theorem win_two : winL ⟨10, 9, 20, 20⟩ [(5,⟨3, 4, 9, 9⟩)] = [] := by decide +kernel
set_option maxRecDepth 100000 in
set_option maxHeartbeats 4000000 in
theorem begun_any (w : World) (c : Int) (wc : (Lit.int .i64 c).wf = true) :
  Calls Tryz.prog 15 #[.int .i64 c] w fun e w' => ∃ G p X n σ,e = .returned (.pointer (some ⟨G, 0,none⟩)) ∧ GameX w' (fun k => k < w.heap.size) G p X n σ (((n - 200) / 4 : Nat) : Int) [(5,⟨3, 4, 9, 9⟩)] ∧ 256 ≤ n ∧ Below w.heap.size w w' ∧ (n : Int) = 256 + pickI c 1200 ∧ 0 ≤ σ.steps ∧ σ.steps ≤ 5000000000000 := by
 have hpk := pick_eq c 1200 w (by omega) wc
 obtain ⟨r,hre,hr⟩ : ∃ r : Nat,pickI c 1200 = (r : Int) ∧ r < 1200 := by
  have := pickI_lt c 1200 (by omega)
  exact ⟨(pickI c 1200).toNat,by omega,by omega⟩
 have HRE : Hid (pickI c 1200 = (r : Int)) := hre
 rw [hre] at hpk
 clear hre
 go_enter Tryz.func15,Tryz.ntmps15
 go_upto_region 2 with (go_at_call 24; refine hpk.mono ?_; rintro e w9 ⟨rfl,rfl⟩)
 have hnew := qnewd_ok w9 (256 + r) (by omega) (by omega)
 rw [show ((256 + r : Nat) : Int) = 256 + (r : Int) from by omega] at hnew
 go_upto_region 5 with (go_at_call 29; refine hnew.mono ?_; rintro e w1 ⟨A,rfl,hP,hb1⟩)
 have hop := open_on (N := fun k => k < w9.heap.size) (hP.base0) (tr_fresh (256 + r)) idx_nil ⟨rfl,rfl⟩ ⟨fun k hk h => by have := hP.les k hk; omega,fun k hk => by have := hb1.size; omega⟩
 clear hnew hpk
 go_upto_region 8 with (go_at_call 21; refine hop.mono ?_; rintro e w2 ⟨X,rfl,hC2, σ2,hL2,hA2⟩)
 have HA2 : Hid (0 ≤ σ2.steps ∧ σ2.steps ≤ 12000000) := by
  obtain ⟨j,hj,e⟩ := (hA2 (by simp)).eq (show (0 : Int) ≤ 0 from by omega) (show (0 : Int) + _ < _ from by decide)
  have e' : σ2.steps = 0 + (j : Int) := e
  have : (1 + (1 + 15 ^ 6) : Nat) = 11390627 := by decide
  show _ ∧ _
  omega
 clear hA2
 have hs1 := hb1.size
 have hs2 := hC2.size
 have hdv : (256 + (r : Int) - 200) / 4 = ((((256 + r) - 200) / 4 : Nat) : Int) := by omega
 obtain ⟨W3,hW3⟩ : ∃ W3,w2.alloc (.cells #[.pointer (some ⟨A.p, 0,none⟩), .pointer (some ⟨X, 0,none⟩), .slice none 0 0, .int .i64 ((((256 + r) - 200) / 4 : Nat) : Int)] 62) = W3 := ⟨_,rfl⟩
 have hb3 : Below w2.heap.size w2 W3 := by rw [← hW3]; exact (Below.refl _ w2).alloc (Nat.le_refl _) _
 have G3 : Blk W3 w2.heap.size 62 (gameC A.p X (.slice none 0 0) ((((256 + r) - 200) / 4 : Nat) : Int)) := by rw [← hW3]; exact Blk.new w2 62 _
 have HW3 : Hid (w2.alloc (.cells #[.pointer (some ⟨A.p, 0,none⟩), .pointer (some ⟨X, 0,none⟩), .slice none 0 0, .int .i64 ((((256 + r) - 200) / 4 : Nat) : Int)] 62) = W3) := hW3
 have hGX : GameX W3 (fun k => k < w9.heap.size) w2.heap.size A.p X (256 + r) σ2 ((((256 + r) - 200) / 4 : Nat) : Int) [] := ⟨_,G3,⟨rfl, .inl ⟨rfl,rfl⟩⟩,hL2.below hb3,by omega⟩
 have HB3 : Hid (Below w9.heap.size w9 W3) := (hb1.trans (hC2.keep.lows hs1)).trans (hb3.mono (by omega))
 have hgp := gput_any W3 (fun k => k < w9.heap.size) w2.heap.size A.p X (256 + r) σ2 _ [] hGX 5 (by omega) ⟨3, 4, 9, 9⟩ ⟨by simp,by simp,by simp,by simp⟩ (by simp) (by rw [tput_nil]; simp; omega)
 simp only [boxC] at hgp
 rw [tput_nil] at hgp
 clear hW3 hGX hop hP hL2 hb1 hC2 hb3 G3
 go_upto_region 9 with fail
 have hdv2 : ((256 + r - 200 : Nat) : Int) / 4 = (((256 + r - 200) / 4 : Nat) : Int) := by omega
 rw [hdv2,HW3.out]
 clear hdv hdv2
 go_upto_region 10 with (go_at_call 25; refine hgp.mono ?_; rintro e w4 ⟨rfl,hb4, σ4,hG4,hA4⟩)
 have HB4 : Hid (Below w9.heap.size w9 w4) := HB3.out.trans (hb4.lows HB3.out.size)
 have HA4 : Hid (0 ≤ σ4.steps ∧ σ4.steps ≤ 13000000) := by
  have := HA2.out
  obtain ⟨j,hj,e⟩ := hA4.eq this.1 (by omega)
  show _ ∧ _
  omega
 clear hA4
 obtain ⟨sv,g4,t4,hL4,hbG⟩ := hG4
 have hwn := live_win hL4 (r := ⟨9, 9, 20, 20⟩) ⟨by simp,by simp,by simp,by simp⟩
 rw [win_one] at hwn
 simp only [boxC] at hwn
 have HG4 : Hid (Blk w4 w2.heap.size 62 (gameC A.p X sv ((((256 + r) - 200) / 4 : Nat) : Int))) := g4
 have HT4 : Hid (TabV w4 0 sv [(5,⟨3, 4, 9, 9⟩)]) := t4
 clear hgp hb4 g4 t4 hL4 HB3 HW3
 go_upto_region 11 with (go_at_call 11; refine hwn.mono ?_; rintro e w5 ⟨lv,rfl,hrow5,hC5, σ5,hL5,hA5⟩; obtain ⟨lg,lc,rfl⟩ := own_int_form (l := [5]) hrow5 (by simp))
 have hwn2 := live_win hL5 (r := ⟨10, 9, 20, 20⟩) ⟨by simp,by simp,by simp,by simp⟩
 rw [win_two] at hwn2
 simp only [boxC] at hwn2
 have HR5 : Hid (w5.ownsRow w4.heap.size 3 1 (.slice (some ⟨lg, 0,none⟩) 1 lc) 1 (intsV [5])) := hrow5
 have HA5 : Hid (0 ≤ σ5.steps ∧ σ5.steps ≤ 2100000000000) := by
  have := HA4.out
  obtain ⟨j,hj,e⟩ := hA5.eq this.1 (by omega)
  show _ ∧ _
  omega
 clear hA5
 have HC5 : Hid (CalmW (fun k => k < w9.heap.size) w4 w5) := hC5
 clear hwn hrow5 hC5 hL5
 go_upto_region 12 with (go_at_call 11; refine hwn2.mono ?_; rintro e w6 ⟨ov,rfl,hrow6,hC6, σ6,hL6,hA6⟩; obtain ⟨oa,oc,rfl,_,_,_⟩ := own_shape hrow6)
 have hr6 := hC6.row HR5.out (by unfold own5; omega)
 have z0 : w6.cell? ⟨lg, 0,none⟩ = some (.int .i64 5) := own_int (l := [5]) hr6 rfl
 have HC6 : Hid (CalmW (fun k => k < w9.heap.size) w4 w6) := HC5.out.trans hC6
 have HA6 : Hid (0 ≤ σ6.steps ∧ σ6.steps ≤ 5000000000000) := by
  have := HA5.out
  obtain ⟨j,hj,e⟩ := hA6.eq this.1 (by omega)
  show _ ∧ _
  omega
 clear hA6
 have HL6 : Hid (LiveX w6 (fun k => k < w9.heap.size) A.p X (256 + r) σ6 [(5,⟨3, 4, 9, 9⟩)]) := hL6
 clear hwn2 hrow6 hC6 hL6 hr6 HR5 HC5
 go_wp2
 go_ret
 have hs4 := HB4.out.size
 exact ⟨_,A.p,X, 256 + r, σ6,rfl,⟨sv,HC6.out.blk HG4.out (by unfold own5; omega),HC6.out.row HT4.out (by unfold own5; omega),HL6.out,hbG⟩,by omega,HB4.out.trans (HC6.out.keep.lows hs4),by rw [HRE.out]; omega,HA6.out⟩
end
section
theorem joined_cut (f : Nat → ByteArray) : ∀ (n t : Nat),(∀ t,t < n → (f t).size = 256) → t < n → ((joined f n).drop (t * 256)).take 256 = (f t).data.toList
 | 0,t,_,ht => by omega
 | n + 1,t,h,ht => by
  have hl := length_joined f n (fun t ht => h t (by omega))
  rw [joined_succ]
  by_cases e : t = n
  ·subst e
   rw [List.drop_append_of_le_length (by omega),List.drop_eq_nil_of_le (by omega),List.nil_append,List.take_of_length_le (by rw [length_data,h t (by omega)]; omega)]
  ·rw [List.drop_append_of_le_length (by omega),List.take_append_of_le_length (by rw [List.length_drop]; omega)]
   exact joined_cut f n t (fun t ht => h t (by omega)) (by omega)
def ImgOf (img : ByteArray) (n : Nat) (tb : List (Int × Box)) : Prop := img.size = n * 256 ∧ 256 ≤ n ∧ n ≤ 4096 ∧ ∃ root es us,Tr (PS.fresh n (loadNow img n)) root es us ∧ Idx plc tb es
theorem ba_ext {a b : ByteArray} (h : a.data.toList = b.data.toList) : a = b := by
 cases a; cases b
 simp only at h
 rw [Array.toList_inj.1 h]
theorem cut_joined (f : Nat → ByteArray) (n t : Nat) (h : ∀ t,t < n → (f t).size = 256) (ht : t < n) : cut ⟨(joined f n).toArray⟩ t = f t := by
 have := joined_cut f n t h ht
 refine ba_ext ?_
 unfold cut
 rw [ByteArray.data_extract,Array.toList_extract,List.extract_eq_take_drop]
 rw [show (t + 1) * 256 - t * 256 = 256 by omega]
 exact this
theorem tr_load {s : PS} {root : Nat} {es : List (Key × Box)} {us : List Nat} (hT : Tr s root es us) (h : ∀ t,t < s.n → (s.now t).size = 256) (hn : 1 ≤ s.n) : Tr (PS.fresh s.n (loadNow ⟨(joined s.now s.n).toArray⟩ s.n)) root es us := by
 have e : ∀ t,t < s.n → loadNow ⟨(joined s.now s.n).toArray⟩ s.n t = s.now t := fun t ht => by
  unfold loadNow
  rw [if_pos ht,cut_joined s.now s.n t h ht]
 exact hT.congr rfl (e 0 (by omega)) (fun t ht => e t (hT.ins t ht).2)
def DiskX (W : World) (N : Nat → Prop) (p n : Nat) (tb : List (Int × Box)) : Prop :=
 ∃ (A : PA) (σ : PS) (root : Nat) (es : List (Key × Box)) (us : List Nat),A.p = p ∧ σ.n = n ∧ PD W 0 A σ ∧ Tr σ root es us ∧ Idx plc tb es ∧ Free σ ∧ (∀ k,A.F k → ¬ N k) ∧ ∀ k,N k → k < W.heap.size
section
variable {w : World} {N : Nat → Prop} {p X n : Nat} {σ : PS} {tb : List (Int × Box)}
theorem LiveX.disk (h : LiveX w N p X n σ tb) : DiskX w N p n tb := by
 obtain ⟨A,x,t,f,fr,root,es,us,h1,h2,h3,h4,h5,h6,h7,h8,h9,h10⟩ := h
 exact ⟨A, σ,root,es,us,h1,h2,h4.pd,h5.tr,h5.idx,h6,h7,h10⟩
theorem disk_open (h : DiskX w N p n tb) :
  Calls Tryz.prog 21 #[.pointer (some ⟨p, 0,none⟩)] w fun e w' => ∃ X',e = .returned (.tuple #[.pointer (some ⟨X', 0,none⟩), .int .i64 0]) ∧ CalmW N w w' ∧ ∃ σ',LiveX w' N p X' n σ' tb := by
 obtain ⟨A, σ,root,es,us,rfl,rfl,h3,h4,h5,h6,h7,h8⟩ := h
 refine (open_on h3 h4 h5 h6 ⟨h7,h8⟩).mono ?_
 rintro e w' ⟨X',rfl,hC, σ',hL,_⟩
 exact ⟨X',rfl,hC, σ',hL⟩
theorem qimage_ok (w : World) (base : Nat) (A : PA) (s : PS) (h : PD w base A s) :
  Calls Tryz.prog 18 #[.pointer (some ⟨A.p, 0,none⟩)] w fun e w' => e = .returned (.tuple #[.string ⟨(joined s.safe s.n).toArray⟩, .int .i64 0]) ∧ Below w.heap.size w w' := by
 have cp : w.cell? ⟨A.p, 0,none⟩ = some (.pointer (some ⟨A.q, 0,none⟩)) := h.blkP.cell 0
 have hcon := pimage_any w base A s h
 clear h
 go_enter Tryz.func18,Tryz.ntmps18
 go_wp2_with (go_at_call 47; refine hcon.mono ?_; rintro e w1 ⟨rfl,hb⟩)
 go_ret2
 exact ⟨rfl,hb⟩
theorem live_image (h : LiveX w N p X n σ tb) :
  Calls Tryz.prog 18 #[.pointer (some ⟨p, 0,none⟩)] w fun e w' => ∃ img,e = .returned (.tuple #[.string img, .int .i64 0]) ∧ Below w.heap.size w w' ∧ ImgOf img n tb := by
 obtain ⟨A,x,t,f,fr,root,es,us,rfl,rfl,h3,h4,h5,h6⟩ := h
 refine (qimage_ok w 0 A σ h4.pd).mono ?_
 rintro e w' ⟨rfl,hb⟩
 have hs : σ.safe = σ.now := by funext t; unfold PS.safe; rw [h5.old t]; rfl
 have hsz : ∀ t,t < σ.n → (σ.now t).size = 256 := fun t ht => h4.pd.sec.size t ht
 have hn1 := h4.pd.n1
 rw [hs]
 refine ⟨_,rfl,hb, ?_,h4.pd.n1,h4.pd.n2,root,es,us,tr_load h5.tr hsz (by omega),h5.idx⟩
 have := length_joined σ.now σ.n hsz
 show (joined σ.now σ.n).toArray.size = _
 simpa using this
theorem qload_ok (w : World) (b : ByteArray) (n : Nat) (hn : b.size = n * 256) (h1 : 256 ≤ n) (h2 : n ≤ 4096) :
  Calls Tryz.prog 19 #[.string b] w fun e w' => ∃ A : PA,e = .returned (.tuple #[.pointer (some ⟨A.p, 0,none⟩), .int .i64 0]) ∧ PD w' w.heap.size A (PS.fresh n (loadNow b n)) ∧ Below w.heap.size w w' := by
 have hcon := pload_ok w b n hn h1 h2
 clear hn h1 h2
 go_enter Tryz.func19,Tryz.ntmps19
 go_wp2_with (first
  | (go_at_call 49; refine hcon.mono ?_; rintro e w1 ⟨q,g,m,rfl,hI,hb1⟩; have hcon2 := qhold_ok w1 w.heap.size q g m _ hI hb1.size)
  | (go_at_call 48; refine hcon2.mono ?_; rintro e w2 ⟨A,rfl,hR,hb2⟩))
 go_ret2
 exact ⟨A,rfl,hR,hb1.trans (hb2.mono hb1.size)⟩
theorem img_load {img : ByteArray} (h : ImgOf img n tb) (w : World) :
  Calls Tryz.prog 19 #[.string img] w fun e w' => ∃ p,e = .returned (.tuple #[.pointer (some ⟨p, 0,none⟩), .int .i64 0]) ∧ DiskX w' (fun k => k < w.heap.size) p n tb ∧ Below w.heap.size w w' := by
 obtain ⟨h1,h2,h3,root,es,us,h4,h5⟩ := h
 refine (qload_ok w img n h1 h2 h3).mono ?_
 rintro e w' ⟨A,rfl,hP,hb⟩
 exact ⟨A.p,rfl,⟨A,_,root,es,us,rfl,rfl,hP.base0,h4,h5,⟨rfl,rfl⟩,fun k hk h => by have := hP.les k hk; omega,fun k hk => by have := hb.size; omega⟩,hb⟩
theorem qcrash_ok (w : World) (base : Nat) (A : PA) (s : PS) (h : PD w base A s) (ak : Option Addr) (lk ck : Nat) (K : Nat → Int) (hK : KAt w ak lk K) (hlk : lk ≤ 9223372036854775807) (hout : ∀ a,ak = some a → 0 < lk → ¬ A.F a.block) :
  Calls Tryz.prog 20 #[.pointer (some ⟨A.p, 0,none⟩), .slice ak lk ck] w fun e w' => ∃ A' : PA,e = .returned (.int .i64 0) ∧ PD w' base A' (s.crash lk K) ∧ Off A.F w w' ∧ A'.p = A.p ∧ ∀ k,A'.F k → A.F k ∨ w.heap.size ≤ k := by
 have cp : w.cell? ⟨A.p, 0,none⟩ = some (.pointer (some ⟨A.q, 0,none⟩)) := h.blkP.cell 0
 have hcon := pcrash_any w base A s h ak lk ck K hK hlk hout
 clear hlk h hout
 go_enter Tryz.func20,Tryz.ntmps20
 go_wp2_with (go_at_call 50; refine hcon.mono ?_; rintro e w1 ⟨A',rfl,hP,ho,hp,hF⟩)
 go_ret
 exact ⟨A',rfl,hP,ho,hp,hF⟩
end
end
section
theorem IxS.high {w1 w2 : World} {A : PA} {s : PS} {x t : Nat} {dd : Bool} {f : Value} {fr : List Nat} (h : IxS w1 0 A s x t dd f fr) {b : Nat} (hF : ∀ k,A.F k → k < b) (ht : t < b) (hx : x < b) (hf : ∀ g,f.ownBlock = some g → g < b) (ho : Off (fun k => b ≤ k) w1 w2) : IxS w2 0 A s x t dd f fr :=
 ⟨h.pd.off ho (fun k hk e => by have := hF k hk; omega),h.tr.off ho (by omega),own_offv h.row ho (fun g hg e => by have := hf g hg; omega),h.ix.off ho (by omega)⟩
theorem CalmW.high {N : Nat → Prop} {a b c : World} {n : Nat} (h : CalmW N a b) (hn : a.heap.size ≤ n) (ho : Off (fun k => n ≤ k) b c) : CalmW N a c :=
 ⟨ho.os.trans h.os,ho.tape.trans h.tape,ho.output.trans h.output,Nat.le_trans h.size ho.size,fun k cs t fr e m => (ho.block k (Array.getElem?_eq_some_iff.1 (h.block k cs t fr e m)).1 (by have := (Array.getElem?_eq_some_iff.1 e).1; omega)).trans (h.block k cs t fr e m),fun k h1 h2 => (ho.block k (Nat.lt_of_lt_of_le h2 h.size) (by omega)).trans (h.low k h1 h2)⟩
def Stt (W : World) (N : Nat → Prop) (p X n : Nat) (dd : Bool) (tb tb' : List (Int × Box)) : Prop :=
 ∃ (A : PA) (σ : PS) (x t : Nat) (f : Value) (fr : List Nat),A.p = p ∧ σ.n = n ∧ Blk W X 91 #[.pointer (some ⟨x, 0,none⟩)] ∧ IxS W 0 A σ x t dd f fr ∧ Torn2 σ tb tb' ∧ (dd = false → σ.brk = true) ∧ (∀ k,A.F k → ¬ N k) ∧ ¬ N t ∧ ¬ N x ∧ ∀ k,N k → k < W.heap.size
def DiskF (W : World) (N : Nat → Prop) (p n : Nat) (tb tb' : List (Int × Box)) : Prop :=
 ∃ (A : PA) (σ : PS),A.p = p ∧ σ.n = n ∧ PD W 0 A σ ∧ Torn2 σ tb tb' ∧ (∀ k,A.F k → ¬ N k) ∧ ∀ k,N k → k < W.heap.size
def DiskQ (W : World) (N : Nat → Prop) (p n : Nat) (P : PS → Prop) (tb : List (Int × Box)) : Prop :=
 ∃ (A : PA) (σ : PS) (root : Nat) (es : List (Key × Box)) (us : List Nat),A.p = p ∧ σ.n = n ∧ PD W 0 A σ ∧ Tr σ root es us ∧ Idx plc tb es ∧ (∀ t, σ.old t = none) ∧ P σ ∧ (∀ k,A.F k → ¬ N k) ∧ ∀ k,N k → k < W.heap.size
def rawE (dd : Bool) (k : Int) (id : Int) (ri : Bool) : Int := if dd = true then 11 else if k < 3 ∧ idB id = false then 8 else if (k = 0 ∨ k = 3) ∧ ri = false then 6 else 4
section
variable {w W : World} {N : Nat → Prop} {p X n : Nat} {dd : Bool} {σ : PS} {tb tb' : List (Int × Box)}
theorem Stt.high (h : Stt w N p X n dd tb tb') (ho : Off (fun k => w.heap.size ≤ k) w W) : Stt W N p X n dd tb tb' := by
 obtain ⟨A, σ,x,t,f,fr,h1,h2,h3,h4,h5,h6,h7,h8,h9,h10⟩ := h
 have h3l := h3.lt
 exact ⟨A, σ,x,t,f,fr,h1,h2,h3.off ho (by omega),h4.high (fun k hk => (h4.pd.lt k hk).2) h4.tr.lt h4.ix.lt (fun g hg => own_lt2 h4.row hg) ho,h5,h6,h7,h8,h9,fun k hk => Nat.lt_of_lt_of_le (h10 k hk) ho.size⟩
theorem Stt.below (h : Stt w N p X n dd tb tb') (hb : Below w.heap.size w W) : Stt W N p X n dd tb tb' := h.high (Off.of_below hb)
theorem Stt.lt (h : Stt w N p X n dd tb tb') : X < w.heap.size := by
 obtain ⟨A, σ,x,t,f,fr,h1,h2,h3,h4⟩ := h
 exact h3.lt
theorem Stt.off (h : Stt w N p X n dd tb tb') {B T : Nat} {vs : Array Value} (hB : Blk w B T vs) (hT : ¬ own5 T) (hT2 : T ≠ 91) (hT3 : T ≠ 3) (ho : Off (fun k => k = B) w W) : Stt W N p X n dd tb tb' := by
 obtain ⟨A, σ,x,t,f,fr,h1,h2,h3,h4,h5,h6,h7,h8,h9,h10⟩ := h
 have nB : ∀ k cs ty g,w.heap[k]? = some (.cells cs ty g) → own5 ty → k ≠ B := fun k cs ty g e h e' => by
  subst e'
  have hb' : w.heap[k]? = _ := hB
  rw [hb'] at e; simp at e
  exact hT (e.2.1 ▸ h)
 have nF : ∀ k,A.F k → k ≠ B := fun k hk e' => by
  subst e'
  exact hT (h4.pd.tags _ _ _ _ hk hB)
 exact ⟨A, σ,x,t,f,fr,h1,h2,h3.off ho (fun e => blk_ne h3 hB (Ne.symm hT2) e),⟨h4.pd.off ho (fun k hk e => nF k hk e),h4.tr.off ho (nB t _ _ _ h4.tr (.inr (.inr (.inr (.inl rfl))))),own_offv h4.row ho (fun g hg e => own_ne h4.row hB hT3 g hg e),h4.ix.off ho (nB x _ _ _ h4.ix (.inr (.inr (.inr (.inr rfl)))))⟩,h5,h6,h7,h8,h9,fun k hk => Nat.lt_of_lt_of_le (h10 k hk) ho.size⟩
theorem Stt.f (h : Stt w N p X n dd tb tb') : DiskF w N p n tb tb' := by
 obtain ⟨A, σ,x,t,f,fr,h1,h2,h3,h4,h5,h6,h7,h8,h9,h10⟩ := h
 exact ⟨A, σ,h1,h2,h4.pd,h5,h7,h10⟩
theorem Torn2.wide (h : Torn2 σ tb tb) : Torn2 σ tb tb' := fun c hc => by
 obtain ⟨root,es,us,h1,h2⟩ := h c hc
 exact ⟨root,es,us,h1, .inl (h2.elim id id)⟩
theorem Stt.wide (h : Stt w N p X n dd tb tb) : Stt w N p X n dd tb tb' := by
 obtain ⟨A, σ,x,t,f,fr,h1,h2,h3,h4,h5,h6⟩ := h
 exact ⟨A, σ,x,t,f,fr,h1,h2,h3,h4,h5.wide,h6⟩
theorem DeadB.stt (h : DeadB w N p X n tb tb') : Stt w N p X n true tb tb' := by
 obtain ⟨A, σ,x,t,f,fr,h1,h2,h3,h4,h5,h6⟩ := h
 exact ⟨A, σ,x,t,f,fr,h1,h2,h3,h4,h5,fun h => (by cases h),h6⟩
theorem LiveB.stt (h : LiveB w N p X n σ tb) (hb : σ.brk = true) : Stt w N p X n false tb tb := by
 obtain ⟨A,x,t,f,fr,root,es,us,h1,h2,h3,h4,h5,h6,h7⟩ := h
 exact ⟨A, σ,x,t,f,fr,h1,h2,h3,h4,fun c hc => h5.still tb c hc,fun _ => hb,h7⟩
theorem LiveB.f (h : LiveB w N p X n σ tb) : DiskF w N p n tb tb := by
 obtain ⟨A,x,t,f,fr,root,es,us,h1,h2,h3,h4,h5,h6,h7,h8,h9,h10⟩ := h
 exact ⟨A, σ,h1,h2,h4.pd,fun c hc => h5.still tb c hc,h7,h10⟩
theorem LiveB.below (h : LiveB w N p X n σ tb) (hb : Below w.heap.size w W) : LiveB W N p X n σ tb := by
 obtain ⟨A,x,t,f,fr,root,es,us,h1,h2,h3,h4,h5,h6⟩ := h
 exact ⟨A,x,t,f,fr,root,es,us,h1,h2,(hb.block X h3.lt).trans h3,h4.below hb,h5,h6.1,h6.2.1,h6.2.2.1,h6.2.2.2.1,fun k hk => Nat.lt_of_lt_of_le (h6.2.2.2.2 k hk) hb.size⟩
theorem LiveB.off (h : LiveB w N p X n σ tb) {B T : Nat} {vs : Array Value} (hB : Blk w B T vs) (hT : ¬ own5 T) (hT2 : T ≠ 91) (hT3 : T ≠ 3) (ho : Off (fun k => k = B) w W) : LiveB W N p X n σ tb := by
 obtain ⟨A,x,t,f,fr,root,es,us,h1,h2,h3,h4,h5,h6,h7,h8,h9,h10⟩ := h
 have nB : ∀ k cs ty g,w.heap[k]? = some (.cells cs ty g) → own5 ty → k ≠ B := fun k cs ty g e h e' => by
  subst e'
  have hb' : w.heap[k]? = _ := hB
  rw [hb'] at e; simp at e
  exact hT (e.2.1 ▸ h)
 have nF : ∀ k,A.F k → k ≠ B := fun k hk e' => by
  subst e'
  exact hT (h4.pd.tags _ _ _ _ hk hB)
 exact ⟨A,x,t,f,fr,root,es,us,h1,h2,h3.off ho (fun e => blk_ne h3 hB (Ne.symm hT2) e),⟨h4.pd.off ho (fun k hk e => nF k hk e),h4.tr.off ho (nB t _ _ _ h4.tr (.inr (.inr (.inr (.inl rfl))))),own_offv h4.row ho (fun g hg e => own_ne h4.row hB hT3 g hg e),h4.ix.off ho (nB x _ _ _ h4.ix (.inr (.inr (.inr (.inr rfl)))))⟩,h5,h6,h7,h8,h9,fun k hk => Nat.lt_of_lt_of_le (h10 k hk) ho.size⟩
theorem LiveB.up (h : LiveB w N p X n σ tb) : Ups tb ∧ tb.length ≤ 1000000 := by
 obtain ⟨A,x,t,f,fr,root,es,us,h1,rfl,h3,h4,h5,h6⟩ := h
 refine ⟨h5.idx.up, ?_⟩
 have h7 := h5.tr.few h4.pd.n2
 have h8 : tb.length ≤ es.length := by
  have := h5.idx.count
  have h9 := congrArg List.length this
  unfold nums at h9
  rw [List.length_map] at h9
  have h10 := frm_len (NUM, 0) es
  omega
 omega
theorem DiskQ.x (h : DiskQ w N p n Free tb) : DiskX w N p n tb := by
 obtain ⟨A, σ,root,es,us,h1,h2,h3,h4,h5,h6,h7,h8⟩ := h
 exact ⟨A, σ,root,es,us,h1,h2,h3,h4,h5,h7,h8⟩
theorem DiskQ.f {P : PS → Prop} (h : DiskQ w N p n P tb) : DiskF w N p n tb tb := by
 obtain ⟨A, σ,root,es,us,h1,h2,h3,h4,h5,h6,h7,h8⟩ := h
 refine ⟨A, σ,h1,h2,h3,fun c hc => ?_,h8⟩
 have h9 : ∀ t,c.now t = σ.now t := fun t => (hc.2 t).elim id (fun h => by have := h6 t; rw [this] at h; cases h)
 exact ⟨root,es,us,h4.congr hc.1 (h9 0) (fun t _ => h9 t), .inl h5⟩
theorem fell {W' : World} {A : PA} {x t : Nat} {f : Value} {fr : List Nat} (hX : Blk W X 91 #[.pointer (some ⟨x, 0,none⟩)]) (_hI : IxS W 0 A σ x t false f fr) (hT : Torn2 σ tb tb') (hN : (∀ k,A.F k → ¬ N k) ∧ ¬ N t ∧ ¬ N x ∧ ∀ k,N k → k < W.heap.size) (hp : A.p = p) (hn : σ.n = n) (ho : CalmW N W W') (hI' : IxS W' 0 A σ.asked x t false f fr) :
  CalmW N W (mindW W' x 4) ∧ Stt (mindW W' x 4) N p X n true tb tb' := by
 obtain ⟨i1,o1⟩ := hI'.minded 4
 have hc2 : CalmW N W' (mindW W' x 4) := CalmW.off o1 (fun k cs ty g hk e => hI'.tags k cs ty g (.inr (.inr hk)) e) (fun k hk h => hN.2.2.1 (hk ▸ h))
 have hc := ho.trans hc2
 exact ⟨hc,A, σ.asked,x,t,f,fr,hp,hn,hc.blk hX (by unfold own5; omega),i1,fun c h => hT c h,fun h => (by cases h),hN.1,hN.2.1,hN.2.2.1,fun k hk => Nat.lt_of_lt_of_le (hN.2.2.2 k hk) hc.size⟩
theorem box_of {a b c d : Int} (h : rightB a b c d = true) : ∃ v : Box,v.ok ∧ a = (v.a : Int) ∧ b = (v.b : Int) ∧ c = (v.c : Int) ∧ d = (v.d : Int) := by
 unfold rightB at h
 have h := of_decide_eq_true h
 exact ⟨⟨a.toNat,b.toNat,c.toNat,d.toNat⟩,⟨by simp only; omega,by simp only; omega,by simp only; omega,by simp only; omega⟩,by simp only; omega,by simp only; omega,by simp only; omega,by simp only; omega⟩
theorem raw_dd {k id : Int} {ri : Bool} (h : rawE dd k id ri ≠ 4) : (dd || decide (rawE dd k id ri = 4)) = dd := by simp [h]
theorem raw_ref {k id : Int} {ri : Bool} (hk : k = 1 ∨ k = 2) : rawE dd k id ri = if refuseE dd id = 0 then 4 else refuseE dd id := by
 unfold rawE refuseE
 rcases hk with rfl | rfl <;> cases dd <;> cases idB id <;> simp
theorem raw_put (h : Stt w N p X n dd tb tb') (id a b c d : Int) :
  Calls Tryz.prog 10 #[.pointer (some ⟨X, 0,none⟩), .int .i64 id, .agg #[.int .i64 a, .int .i64 b, .int .i64 c, .int .i64 d]] w fun e w' => e = .returned (.int .i64 (rawE dd 0 id (rightB a b c d))) ∧ CalmW N w w' ∧ Stt w' N p X n (dd || decide (rawE dd 0 id (rightB a b c d) = 4)) tb tb' := by
 have hS := h
 obtain ⟨A, σ,x,t,f,fr,h1,h2,h3,h4,h5,h6,h7⟩ := h
 refine qput_go w N X x h3 id a b c d _ (fun W hb => ?_)
 have h4W := h4.below hb
 have h3W : Blk W X 91 #[.pointer (some ⟨x, 0,none⟩)] := (hb.block X h3.lt).trans h3
 by_cases hno : dd = true ∨ idB id = false ∨ rightB a b c d = false
 ·refine (iput_no W x t dd h4W.ix id a b c d hno).mono ?_
  rintro e w' ⟨rfl,hb'⟩
  have he : (if refuseE dd id = 0 then 6 else refuseE dd id) = rawE dd 0 id (rightB a b c d) ∧ rawE dd 0 id (rightB a b c d) ≠ 4 := by
   unfold refuseE rawE
   revert hno
   cases dd <;> cases idB id <;> cases rightB a b c d <;> simp
  rw [raw_dd he.2, ← he.1]
  exact ⟨_,rfl,CalmW.below hb',rfl,(CalmW.below hb).trans (CalmW.below hb'),(hS.below hb).below hb'⟩
 ·cases dd with
  | true => exact (hno (.inl rfl)).elim
  | false =>
   have hid : idB id = true := by simpa using fun h => hno (.inr (.inl h))
   have hri : rightB a b c d = true := by simpa using fun h => hno (.inr (.inr h))
   have he : rawE false 0 id (rightB a b c d) = 4 := by unfold rawE; rw [hid,hri]; simp
   rw [he]
   obtain ⟨v,hv,rfl,rfl,rfl,rfl⟩ := box_of hri
   refine iput_go W x t h4W.ix id hid v hv _ (fun V hv' => ?_)
   have h4V := h4W.below hv'
   have h3V : Blk V X 91 #[.pointer (some ⟨x, 0,none⟩)] := (hv'.block X h3W.lt).trans h3W
   refine (put_dead V 0 A σ x t false f fr h4V (h6 rfl) id v).mono ?_
   rintro e w' ⟨rfl,ho,hI⟩
   obtain ⟨c1,c2⟩ := fell h3V h4V h5 ⟨h7.1,h7.2.1,h7.2.2.1,fun k hk => by have := h7.2.2.2 k hk; have := hb.size; have := hv'.size; omega⟩ h1 h2 (CalmW.off ho h4V.pd.tags h7.1) hI
   exact ⟨4,rfl,⟨_,hI.ix⟩, 4,rfl,(CalmW.below hv').trans c1,rfl,((CalmW.below hb).trans (CalmW.below hv')).trans c1,c2⟩
theorem raw_del (h : Stt w N p X n dd tb tb') (id : Int) (ri : Bool) :
  Calls Tryz.prog 35 #[.pointer (some ⟨X, 0,none⟩), .int .i64 id] w fun e w' => e = .returned (.int .i64 (rawE dd 1 id ri)) ∧ CalmW N w w' ∧ Stt w' N p X n (dd || decide (rawE dd 1 id ri = 4)) tb tb' := by
 have hS := h
 obtain ⟨A, σ,x,t,f,fr,h1,h2,h3,h4,h5,h6,h7⟩ := h
 by_cases hno : refuseE dd id ≠ 0
 ·have he : rawE dd 1 id ri = refuseE dd id ∧ rawE dd 1 id ri ≠ 4 := by
   rw [raw_ref (.inl rfl),if_neg hno]
   refine ⟨rfl, ?_⟩
   unfold refuseE
   cases dd <;> cases idB id <;> simp
  rw [raw_dd he.2,he.1]
  refine qdel_go w X x h3 id _ ((idel_no w x t dd h4.ix id hno).mono ?_)
  rintro e w' ⟨rfl,rfl⟩
  exact ⟨_,rfl,rfl,CalmW.refl _ _,hS⟩
 ·have hno' : refuseE dd id = 0 := Classical.not_not.1 hno
  have he : rawE dd 1 id ri = 4 := by rw [raw_ref (.inl rfl),if_pos hno']
  have hdd : dd = false ∧ idB id = true := by
   unfold refuseE at hno'
   revert hno'
   cases dd <;> cases idB id <;> simp
  obtain ⟨rfl,hid⟩ := hdd
  rw [he]
  refine qdel_go w X x h3 id _ (idel_go w x t h4.ix id hid _ ?_)
  refine (remove_dead w 0 A σ x t false f fr h4 (h6 rfl) id).mono ?_
  rintro e w' ⟨rfl,ho,hI⟩
  obtain ⟨c1,c2⟩ := fell h3 h4 h5 h7 h1 h2 (CalmW.off ho h4.pd.tags h7.1) hI
  exact ⟨4,rfl,⟨_,hI.ix⟩, 4,rfl,rfl,c1,c2⟩
theorem raw_cnt (h : Stt w N p X n dd tb tb') (id : Int) (ri : Bool) :
  Calls Tryz.prog 38 #[.pointer (some ⟨X, 0,none⟩)] w fun e w' => e = .returned (.tuple #[.int .i64 0, .int .i64 (rawE dd 4 id ri)]) ∧ CalmW N w w' ∧ Stt w' N p X n (dd || decide (rawE dd 4 id ri = 4)) tb tb' := by
 have hS := h
 obtain ⟨A, σ,x,t,f,fr,h1,h2,h3,h4,h5,h6,h7⟩ := h
 cases dd with
 | true =>
  refine qcount_go w X x h3 _ ((icount_no w x t h4.ix).mono ?_)
  rintro e w' ⟨rfl,rfl⟩
  exact ⟨0, 11,rfl,rfl,CalmW.refl _ _,hS⟩
 | false =>
  have he : rawE false 4 id ri = 4 := by unfold rawE; simp
  rw [he]
  refine qcount_go w X x h3 _ ((icount_go w x t h4.ix 0 4 (fun w' => Off A.F w w' ∧ PD w' 0 A σ.asked ∧ TreeB w' t A f) ?_).mono ?_)
  ·refine (count_dead w 0 A σ t x false f h4.pd h4.tr h4.ix (h6 rfl)).mono ?_
   rintro e w' ⟨rfl,ho,hp,ht⟩
   exact ⟨rfl,h4.ix.off ho h4.nx.1,ho,hp,ht⟩
  ·rintro e w' ⟨rfl,w1,⟨ho,hp,ht⟩,rfl⟩
   obtain ⟨c1,c2⟩ := fell h3 h4 h5 h7 h1 h2 (CalmW.off ho h4.pd.tags h7.1) (h4.off (ho.mono (fun k _ hk => .inl hk)) hp ht)
   exact ⟨0, 4,rfl,rfl,c1,c2⟩
theorem raw_win (h : Stt w N p X n dd tb tb') (id a b c d : Int) :
  Calls Tryz.prog 11 #[.pointer (some ⟨X, 0,none⟩), .agg #[.int .i64 a, .int .i64 b, .int .i64 c, .int .i64 d]] w fun e w' => e = .returned (.tuple #[.slice none 0 0, .int .i64 (rawE dd 3 id (rightB a b c d))]) ∧ CalmW N w w' ∧ Stt w' N p X n (dd || decide (rawE dd 3 id (rightB a b c d) = 4)) tb tb' := by
 have hS := h
 obtain ⟨A, σ,x,t,f,fr,h1,h2,h3,h4,h5,h6,h7⟩ := h
 refine qwin_go w N X x h3 a b c d _ (fun W hb => ?_)
 have h4W := h4.below hb
 have h3W : Blk W X 91 #[.pointer (some ⟨x, 0,none⟩)] := (hb.block X h3.lt).trans h3
 cases dd with
 | true =>
  refine (iwin_dead W x t h4W.ix a b c d).mono ?_
  rintro e w' ⟨rfl,hb'⟩
  exact ⟨none, 0, 0, 11,rfl,CalmW.below hb',rfl,(CalmW.below hb).trans (CalmW.below hb'),(hS.below hb).below hb'⟩
 | false =>
  cases hri : rightB a b c d with
  | false =>
   refine (iwin_no W x t h4W.ix a b c d hri).mono ?_
   rintro e w' ⟨rfl,hb'⟩
   have he : rawE false 3 id false = 6 := by unfold rawE; simp
   rw [he]
   exact ⟨none, 0, 0, 6,rfl,CalmW.below hb',rfl,(CalmW.below hb).trans (CalmW.below hb'),(hS.below hb).below hb'⟩
  | true =>
   have he : rawE false 3 id true = 4 := by unfold rawE; simp
   rw [he]
   obtain ⟨v,hv,rfl,rfl,rfl,rfl⟩ := box_of hri
   refine iwin_go W x t h4W.ix v hv _ (fun V hv' => ?_)
   have h4V := h4W.below hv'
   have h3V : Blk V X 91 #[.pointer (some ⟨x, 0,none⟩)] := (hv'.block X h3W.lt).trans h3W
   refine (search_dead h4V (h6 rfl) v hv).mono ?_
   rintro e w' ⟨rfl,ho,hI⟩
   obtain ⟨c1,c2⟩ := fell h3V h4V h5 ⟨h7.1,h7.2.1,h7.2.2.1,fun k hk => by have := h7.2.2.2 k hk; have := hb.size; have := hv'.size; omega⟩ h1 h2 (CalmW.off ho h4V.pd.tags h7.1) hI
   exact ⟨none, 0, 0, 4,rfl,hI.ix,none, 0, 0, 4,rfl,(CalmW.below hv').trans c1,rfl,((CalmW.below hb).trans (CalmW.below hv')).trans c1,c2⟩
theorem raw_get (h : Stt w N p X n dd tb tb') (id : Int) (ri : Bool) :
  Calls Tryz.prog 37 #[.pointer (some ⟨X, 0,none⟩), .int .i64 id] w fun e w' => e = .returned (.tuple #[.agg (boxC zeroBox), .int .i64 (rawE dd 2 id ri)]) ∧ CalmW N w w' ∧ Stt w' N p X n (dd || decide (rawE dd 2 id ri = 4)) tb tb' := by
 have hS := h
 obtain ⟨A, σ,x,t,f,fr,h1,h2,h3,h4,h5,h6,h7⟩ := h
 refine qget_go w N X x h3 id _ (fun W hb => ?_)
 have h4W := h4.below hb
 have hs := hb.size
 have h3W : Blk W X 91 #[.pointer (some ⟨x, 0,none⟩)] := (hb.block X h3.lt).trans h3
 by_cases hno : refuseE dd id ≠ 0
 ·have he : rawE dd 2 id ri = refuseE dd id ∧ rawE dd 2 id ri ≠ 4 := by
   rw [raw_ref (.inr rfl),if_neg hno]
   refine ⟨rfl, ?_⟩
   unfold refuseE
   cases dd <;> cases idB id <;> simp
  rw [raw_dd he.2,he.1]
  refine (iget_no W x t dd h4W.ix id hno).mono ?_
  rintro e w' ⟨rfl,hb'⟩
  refine ⟨zeroBox,_,rfl,CalmW.below hb',fun W' hW' => ?_⟩
  have ho : Off (fun k => w.heap.size ≤ k) w W' := ((Off.of_below hb).trans (Off.of_below (by exact hb'))).trans (hW'.mono (fun k _ h => by omega))
  exact ⟨rfl,(CalmW.refl _ _).high (Nat.le_refl _) ho,hS.high ho⟩
 ·have hno' : refuseE dd id = 0 := Classical.not_not.1 hno
  have he : rawE dd 2 id ri = 4 := by rw [raw_ref (.inr rfl),if_pos hno']
  have hdd : dd = false ∧ idB id = true := by
   unfold refuseE at hno'
   revert hno'
   cases dd <;> cases idB id <;> simp
  obtain ⟨rfl,hid⟩ := hdd
  rw [he]
  have hFw : ∀ k,A.F k → k < w.heap.size := fun k hk => (h4.pd.lt k hk).2
  have h4t := h4.tr.lt
  have h4x := h4.ix.lt
  refine (iget_go W A x t h4W.ix (fun k hk => (h4W.pd.lt k hk).2) h4W.nx.1 id hid zeroBox 4 (fun w' => PD w' 0 A σ.asked ∧ TreeB w' t A f) (fun V hv => ?_)).mono ?_
  ·have h4V := h4W.below hv
   exact find_dead V 0 A σ t x false f h4V.pd h4V.tr h4V.ix (h6 rfl) id
  ·rintro e w' ⟨rfl,w1,w2,⟨hp1,ht1⟩,ho1,ho2,ho3⟩
   have hI1 : IxS w1 0 A σ.asked x t false f fr := h4W.off (ho1.mono (fun k _ hk => .inl hk)) hp1 ht1
   have hf : ∀ g,f.ownBlock = some g → g < w.heap.size := fun g hg => own_lt2 h4.row hg
   have hI2 := hI1.high (b := W.heap.size) (fun k hk => by have := hFw k hk; omega) (by omega) (by omega) (fun g hg => by have := hf g hg; omega) ho2
   have hc2 : CalmW N W w2 := (CalmW.off ho1 h4W.pd.tags h7.1).high (Nat.le_refl _) ho2
   obtain ⟨c1,c2⟩ := fell h3W h4W h5 ⟨h7.1,h7.2.1,h7.2.2.1,fun k hk => by have := h7.2.2.2 k hk; omega⟩ h1 h2 hc2 hI2
   refine ⟨zeroBox, 4,rfl,c1.high (Nat.le_refl _) ho3,fun W' hW' => ?_⟩
   have ho4 : Off (fun k => w.heap.size ≤ k) (mindW w2 x 4) W' := (ho3.mono (fun k _ h => by omega)).trans (hW'.mono (fun k _ h => by omega))
   have cw : CalmW N w (mindW w2 x 4) := (CalmW.below hb).trans c1
   obtain ⟨i1,_⟩ := hI2.minded 4
   have hcc := cw.high (Nat.le_refl _) ho4
   exact ⟨rfl,hcc,A, σ.asked,x,t,f,fr,h1,h2,hcc.blk h3 (by unfold own5; omega),i1.high (fun k hk => hFw k hk) h4t h4x hf ho4,fun c h => h5 c h,fun h => (by cases h),h7.1,h7.2.1,h7.2.2.1,fun k hk => Nat.lt_of_lt_of_le (h7.2.2.2 k hk) hcc.size⟩
theorem x_put (h : LiveB w N p X n σ tb) {z : Bool} (hz : z = true → σ.brk = true) {id : Int} (hid : 0 ≤ id ∧ id ≤ 4611686018427387904) {v : Box} (hv : v.ok) (hr1 : tb.length ≤ (n - 200) / 4) (hr2 : (tput id v tb).length ≤ (n - 200) / 4) :
  Calls Tryz.prog 10 #[.pointer (some ⟨X, 0,none⟩), .int .i64 id, .agg (boxC v)] w fun e w' => CalmW N w w' ∧ ∃ er : Int,e = .returned (.int .i64 er) ∧ ((er = 0 ∧ ∃ σ',LiveB w' N p X n σ' (tput id v tb) ∧ (z = true → σ'.brk = true)) ∨ (er = 4 ∧ Stt w' N p X n true tb (tput id v tb))) := by
 cases hb : σ.brk with
 | true =>
  refine (raw_put (h.stt hb) id v.a v.b v.c v.d).mono ?_
  rintro e w' ⟨rfl,hc,hS⟩
  have he : rawE false 0 id (rightB (v.a : Int) (v.b : Int) (v.c : Int) (v.d : Int)) = 4 := by unfold rawE; rw [idB_of hid,right_of_ok hv]; simp
  rw [he] at hS ⊢
  exact ⟨hc, 4,rfl, .inr ⟨rfl,hS.wide⟩⟩
 | false =>
  refine (b_put h hid hv (full := False) (.inr ⟨hr1,hr2⟩)).mono ?_
  rintro e w' ⟨hc,⟨e1, σ',hL,_⟩ | ⟨e1,hD,_⟩ | ⟨_,hn,_⟩⟩
  ·exact ⟨hc, 0,e1, .inl ⟨rfl, σ',hL,fun h => by rw [hz h] at hb; cases hb⟩⟩
  ·exact ⟨hc, 4,e1, .inr ⟨rfl,hD.stt⟩⟩
  ·exact hn.elim
theorem x_del (h : LiveB w N p X n σ tb) {z : Bool} (hz : z = true → σ.brk = true) {id : Int} (hid : 0 ≤ id ∧ id ≤ 4611686018427387904) {v0 : Box} (hg : tget id tb = some v0) (hr1 : tb.length ≤ (n - 200) / 4) :
  Calls Tryz.prog 35 #[.pointer (some ⟨X, 0,none⟩), .int .i64 id] w fun e w' => CalmW N w w' ∧ ∃ er : Int,e = .returned (.int .i64 er) ∧ ((er = 0 ∧ ∃ σ',LiveB w' N p X n σ' (tdel id tb) ∧ (z = true → σ'.brk = true)) ∨ (er = 4 ∧ Stt w' N p X n true tb (tdel id tb))) := by
 cases hb : σ.brk with
 | true =>
  refine (raw_del (h.stt hb) id true).mono ?_
  rintro e w' ⟨rfl,hc,hS⟩
  have he : rawE false 1 id true = 4 := by unfold rawE; rw [idB_of hid]; simp
  rw [he] at hS ⊢
  exact ⟨hc, 4,rfl, .inr ⟨rfl,hS.wide⟩⟩
 | false =>
  refine (b_del h hid hg (full := False) (.inr hr1)).mono ?_
  rintro e w' ⟨hc,⟨e1, σ',hL,_⟩ | ⟨e1,hD,_⟩ | ⟨_,hn,_⟩⟩
  ·exact ⟨hc, 0,e1, .inl ⟨rfl, σ',hL,fun h => by rw [hz h] at hb; cases hb⟩⟩
  ·exact ⟨hc, 4,e1, .inr ⟨rfl,hD.stt⟩⟩
  ·exact hn.elim
theorem qbreak_ok (w : World) (base : Nat) (A : PA) (s : PS) (h : PD w base A s) (v : Int) (hv : 0 ≤ v) :
  Calls Tryz.prog 52 #[.pointer (some ⟨A.p, 0,none⟩), .int .i64 v] w fun e w' => e = .returned (.int .i64 0) ∧ PD w' base A { s with left := v } ∧ Off A.F w w' := by
 have cp : w.cell? ⟨A.p, 0,none⟩ = some (.pointer (some ⟨A.q, 0,none⟩)) := h.blkP.cell 0
 have hcon := pbreak_any w base A s h v
 have e : s.break_ v = (0, { s with left := v }) := by unfold PS.break_; rw [if_neg (by omega)]
 rw [e] at hcon
 clear h hv e
 go_enter Tryz.func52,Tryz.ntmps52
 go_wp2_with (go_at_call 77; refine hcon.mono ?_; rintro e w1 ⟨rfl,hP,ho⟩)
 go_ret
 exact ⟨rfl,hP,ho⟩
theorem live_break (h : LiveX w N p X n σ tb) {v : Int} (hv : 0 ≤ v ∧ v < 400) :
  Calls Tryz.prog 52 #[.pointer (some ⟨p, 0,none⟩), .int .i64 v] w fun e w' => e = .returned (.int .i64 0) ∧ CalmW N w w' ∧ ∃ σ',LiveB w' N p X n σ' tb ∧ (decide (v = 0) = true → σ'.brk = true) := by
 obtain ⟨A,x,t,f,fr,root,es,us,rfl,rfl,h3,h4,h5,h6,h7,h8,h9,h10⟩ := h
 refine (qbreak_ok w 0 A σ h4.pd v hv.1).mono ?_
 rintro e w' ⟨rfl,hP,ho⟩
 have hc : CalmW N w w' := CalmW.off ho h4.pd.tags h7
 have ht : TreeB w' t A f := h4.tr.off ho (fun hf => h4.pd.notTag hf h4.tr (by decide) (by decide) (by decide))
 refine ⟨rfl,hc, { σ with left := v },⟨A,x,t,f,fr,root,es,us,rfl,rfl,hc.blk h3 (by unfold own5; omega),h4.off (ho.mono (fun k _ hk => .inl hk)) hP ht,⟨h5.tr.congr rfl rfl (fun _ _ => rfl),h5.frs,h5.idx,h5.old,by simp only; omega⟩,h6.2,h7,h8,h9,fun k hk => Nat.lt_of_lt_of_le (h10 k hk) hc.size⟩,fun h => ?_⟩
 have : v = 0 := by simpa using h
 unfold PS.brk
 simp [this]
theorem f_crash (h : DiskF w N p n tb tb') (ak : Option Addr) (lk ck : Nat) (K : Nat → Int) (hK : KAt w ak lk K) (hlk : lk ≤ 9223372036854775807) (hout : ∀ a,ak = some a → 0 < lk → N a.block) :
  Calls Tryz.prog 20 #[.pointer (some ⟨p, 0,none⟩), .slice ak lk ck] w fun e w' => e = .returned (.int .i64 0) ∧ CalmW N w w' ∧ ∃ tc,(tc = tb ∨ tc = tb') ∧ DiskQ w' N p n Free tc := by
 obtain ⟨A, σ,rfl,rfl,h3,h4,h5,h6⟩ := h
 refine (qcrash_ok w 0 A σ h3 ak lk ck K hK hlk (fun a e l hF => h5 _ hF (hout a e l))).mono ?_
 rintro e w' ⟨A',rfl,hP,ho,hp,hF⟩
 have hfalls : Falls σ (σ.crash lk K) := ⟨rfl,fun t => by
  show (keptOld σ.old K lk t).getD (σ.now t) = σ.now t ∨ σ.old t = some ((keptOld σ.old K lk t).getD (σ.now t))
  unfold keptOld
  split
  ·exact .inl rfl
  ·cases σ.old t with
   | none => exact .inl rfl
   | some b => exact .inr rfl⟩
 obtain ⟨root,es,us,hT,hI⟩ := h4 _ hfalls
 have hN : ∀ k,A'.F k → ¬ N k := fun k hk hN => by
  rcases hF k hk with g | g
  ·exact h5 k g hN
  ·have := h6 k hN; omega
 have hN2 : ∀ k,N k → k < w'.heap.size := fun k hk => Nat.lt_of_lt_of_le (h6 k hk) ho.size
 refine ⟨rfl,CalmW.off ho h3.tags h5, ?_⟩
 rcases hI with hI | hI
 ·exact ⟨tb, .inl rfl,A', σ.crash lk K,root,es,us,hp,rfl,hP,hT,hI,fun _ => rfl,⟨rfl,rfl⟩,hN,hN2⟩
 ·exact ⟨tb', .inr rfl,A', σ.crash lk K,root,es,us,hp,rfl,hP,hT,hI,fun _ => rfl,⟨rfl,rfl⟩,hN,hN2⟩
def Brks (σ : PS) : Prop := -1 ≤ σ.left ∧ σ.left ≤ 9223372036854775807
theorem q_break (h : DiskQ w N p n Free tb) {v : Int} (hv : 0 ≤ v ∧ v < 400) :
  Calls Tryz.prog 52 #[.pointer (some ⟨p, 0,none⟩), .int .i64 v] w fun e w' => e = .returned (.int .i64 0) ∧ CalmW N w w' ∧ DiskQ w' N p n Brks tb := by
 obtain ⟨A, σ,root,es,us,rfl,rfl,h3,h4,h5,h6,h7,h8,h9⟩ := h
 refine (qbreak_ok w 0 A σ h3 v hv.1).mono ?_
 rintro e w' ⟨rfl,hP,ho⟩
 exact ⟨rfl,CalmW.off ho h3.tags h8,A, { σ with left := v },root,es,us,rfl,rfl,hP,h4.congr rfl rfl (fun _ _ => rfl),h5,h6,⟨by simp only; omega,by simp only; omega⟩,h8,fun k hk => Nat.lt_of_lt_of_le (h9 k hk) ho.size⟩
theorem q_open (h : DiskQ w N p n Brks tb) :
  Calls Tryz.prog 21 #[.pointer (some ⟨p, 0,none⟩)] w fun e w' => ∃ (pv : Option Addr) (er : Int),e = .returned (.tuple #[.pointer pv, .int .i64 er]) ∧ ((∃ X',pv = some ⟨X', 0,none⟩ ∧ er = 0) ∨ (pv = none ∧ er = 4)) ∧ CalmW N w w' ∧ DiskF w' N p n tb tb := by
 obtain ⟨A, σ,root,es,us,rfl,rfl,h3,h4,h5,h6,h7,h8,h9⟩ := h
 cases hb : σ.brk with
 | true =>
  refine qopen_go w A.p A.q h3.blkP _ ((iopen_dead w 0 A σ h3 hb).mono ?_)
  rintro e w' ⟨rfl,ho,hP⟩
  refine .inr ⟨4,by decide,rfl,none, 4,rfl, .inr ⟨rfl,rfl⟩,CalmW.off ho h3.tags h8,DiskQ.f (P := fun _ => True) ⟨A, σ.asked,root,es,us,rfl,rfl,hP,h4.congr rfl rfl (fun _ _ => rfl),h5,h6,trivial,h8,fun k hk => Nat.lt_of_lt_of_le (h9 k hk) ho.size⟩⟩
 | false =>
  refine qopen_go w A.p A.q h3.blkP _ ((iopen_live w 0 A σ h3 hb h7).mono ?_)
  rintro e w' ⟨ho,⟨x,t,m',f,fr,root',es',us',tb',r,rfl,hm,ht,hx,hIx,hT',hfr,hI',hrb⟩ | ⟨rfl,_,hh⟩⟩
  ·have hc : CalmW N w w' := CalmW.off ho h3.tags h8
   have hb' : Below w'.heap.size w' (w'.alloc (.cells #[.pointer (some ⟨x, 0,none⟩)] 91)) := (Below.refl _ w').alloc (Nat.le_refl _) _
   have hfl : (σ.at_ r).flush.2 = (σ.at_ r).asked.spent.settled := by unfold PS.flush; rw [show (σ.at_ r).brk = false from hb]; rfl
   refine .inl ⟨x,rfl,_, 0,rfl, .inl ⟨_,rfl,rfl⟩,hc.trans (CalmW.below hb'),DiskQ.f (P := fun _ => True) ⟨{ A with m := m' },(σ.at_ r).flush.2,root,es,us,rfl, ?_,hIx.pd.below hb', ?_,h5, ?_,trivial,newm h8 h9 hm,fun k hk => by have := h9 k hk; have := hc.size; have := hb'.size; omega⟩⟩
   ·rw [hfl]; rfl
   ·rw [hfl]; exact h4.congr rfl rfl (fun _ _ => rfl)
   ·rw [hfl]; exact fun _ => rfl
  ·exfalso
   rcases hh with hh | ⟨root',es',us',hT',_,hno⟩
   ·exact hh root es us h4 (fromK_of h5)
   ·obtain ⟨rfl,rfl,rfl⟩ := h4.one hT'
    exact hno tb h5
end
end
end Go.Proofs.YtdgbgmffpcooeaaGreat
