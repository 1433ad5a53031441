/- No1 Kq1 Kq2 -/
import Derived.Test.YtdgbgmffpcooeaaGreatK48
import Derived.Test.YtdgbgmffpcooeaaGreatK49
import Derived.Test.YtdgbgmffpcooeaaGreatK50
import Derived.Test.YtdgbgmffpcooeaaGreatK51
section
/- How a game begins. -/
namespace Go.Proofs.YtdgbgmffpcooeaaGreat
open Go.RowKit Go.Lib
theorem PD.base0 {W : World} {base : Nat} {A : PA} {s : PS} (h : PD W base A s) : PD W 0 A s := ⟨⟨Nat.zero_le _, Nat.zero_le _, Nat.zero_le _, Nat.zero_le _⟩, h.blkP, h.blkQ, h.sec, h.map, h.n1, h.n2⟩
theorem PD.les {W : World} {base : Nat} {A : PA} {s : PS} (h : PD W base A s) : ∀ k, A.F k → base ≤ k := fun k hk => by
  obtain ⟨a, b, c, d⟩ := h.le
  rcases hk with rfl | rfl | rfl | rfl
  · exact a
  · exact b
  · exact c
  · exact d
theorem tput_nil (id : Int) (v : Box) : tput id v [] = [(id, v)] := rfl
theorem win_one : winL ⟨9, 9, 20, 20⟩ [(5, ⟨3, 4, 9, 9⟩)] = [5] := by decide +kernel
theorem win_two : winL ⟨10, 9, 20, 20⟩ [(5, ⟨3, 4, 9, 9⟩)] = [] := by decide +kernel
set_option maxRecDepth 100000 in
set_option maxHeartbeats 4000000 in
theorem begun_any (w : World) (c : Int) (wc : (Lit.int .i64 c).wf = true) :
    Calls Tryz.prog 15 #[.int .i64 c] w fun e w' => ∃ G p X n σ, e = .returned (.pointer (some ⟨G, 0, none⟩)) ∧ GameX w' (fun k => k < w.heap.size) G p X n σ (((n - 200) / 4 : Nat) : Int) [(5, ⟨3, 4, 9, 9⟩)] ∧ 256 ≤ n ∧ Below w.heap.size w w' := by
  have hpk := pick_any c 1200 w (by omega) wc
  rw [show ((1200 : Nat) : Int) = 1200 from rfl] at hpk
  go_enter Tryz.func15, Tryz.ntmps15
  go_upto_region 2 with (go_at_call 24; refine hpk.mono ?_; rintro e w9 ⟨⟨r, hr, rfl⟩, rfl⟩)
  have hnew := qnewd_ok w9 (256 + r) (by omega) (by omega)
  rw [show ((256 + r : Nat) : Int) = 256 + (r : Int) from by omega] at hnew
  go_upto_region 5 with (go_at_call 29; refine hnew.mono ?_; rintro e w1 ⟨A, rfl, hP, hb1⟩)
  have hop := open_on (N := fun k => k < w9.heap.size) (hP.base0) (tr_fresh (256 + r)) idx_nil ⟨rfl, rfl⟩ ⟨fun k hk h => by have := hP.les k hk; omega, fun k hk => by have := hb1.size; omega⟩
  clear hnew hpk
  go_upto_region 8 with (go_at_call 21; refine hop.mono ?_; rintro e w2 ⟨X, rfl, hC2, σ2, hL2⟩)
  have hs1 := hb1.size
  have hs2 := hC2.size
  have hdv : (256 + (r : Int) - 200) / 4 = ((((256 + r) - 200) / 4 : Nat) : Int) := by omega
  obtain ⟨W3, hW3⟩ : ∃ W3, w2.alloc (.cells #[.pointer (some ⟨A.p, 0, none⟩), .pointer (some ⟨X, 0, none⟩), .slice none 0 0, .int .i64 ((((256 + r) - 200) / 4 : Nat) : Int)] 62) = W3 := ⟨_, rfl⟩
  have hb3 : Below w2.heap.size w2 W3 := by rw [← hW3]; exact (Below.refl _ w2).alloc (Nat.le_refl _) _
  have G3 : Blk W3 w2.heap.size 62 (gameC A.p X (.slice none 0 0) ((((256 + r) - 200) / 4 : Nat) : Int)) := by rw [← hW3]; exact Blk.new w2 62 _
  have HW3 : Hid (w2.alloc (.cells #[.pointer (some ⟨A.p, 0, none⟩), .pointer (some ⟨X, 0, none⟩), .slice none 0 0, .int .i64 ((((256 + r) - 200) / 4 : Nat) : Int)] 62) = W3) := hW3
  have hGX : GameX W3 (fun k => k < w9.heap.size) w2.heap.size A.p X (256 + r) σ2 ((((256 + r) - 200) / 4 : Nat) : Int) [] := ⟨_, G3, ⟨rfl, .inl ⟨rfl, rfl⟩⟩, hL2.below hb3, by omega⟩
  have HB3 : Hid (Below w9.heap.size w9 W3) := (hb1.trans (hC2.keep.lows hs1)).trans (hb3.mono (by omega))
  have hgp := gput_any W3 (fun k => k < w9.heap.size) w2.heap.size A.p X (256 + r) σ2 _ [] hGX 5 (by omega) ⟨3, 4, 9, 9⟩ ⟨by simp, by simp, by simp, by simp⟩ (by simp) (by rw [tput_nil]; simp; omega)
  simp only [boxC] at hgp
  rw [tput_nil] at hgp
  clear hW3 hGX hop hP hL2 hb1 hC2 hb3 G3
  go_upto_region 9 with fail
  have hdv2 : ((256 + r - 200 : Nat) : Int) / 4 = (((256 + r - 200) / 4 : Nat) : Int) := by omega
  rw [hdv2, HW3.out]
  clear hdv hdv2
  go_upto_region 10 with (go_at_call 25; refine hgp.mono ?_; rintro e w4 ⟨rfl, hb4, σ4, hG4, _⟩)
  have HB4 : Hid (Below w9.heap.size w9 w4) := HB3.out.trans (hb4.lows HB3.out.size)
  obtain ⟨sv, g4, t4, hL4, hbG⟩ := hG4
  have hwn := live_win hL4 (r := ⟨9, 9, 20, 20⟩) ⟨by simp, by simp, by simp, by simp⟩
  rw [win_one] at hwn
  simp only [boxC] at hwn
  have HG4 : Hid (Blk w4 w2.heap.size 62 (gameC A.p X sv ((((256 + r) - 200) / 4 : Nat) : Int))) := g4
  have HT4 : Hid (TabV w4 0 sv [(5, ⟨3, 4, 9, 9⟩)]) := t4
  clear hgp hb4 g4 t4 hL4 HB3 HW3
  go_upto_region 11 with (go_at_call 11; refine hwn.mono ?_; rintro e w5 ⟨lv, rfl, hrow5, hC5, σ5, hL5⟩; obtain ⟨lg, lc, rfl⟩ := own_int_form (l := [5]) hrow5 (by simp))
  have hwn2 := live_win hL5 (r := ⟨10, 9, 20, 20⟩) ⟨by simp, by simp, by simp, by simp⟩
  rw [win_two] at hwn2
  simp only [boxC] at hwn2
  have HR5 : Hid (w5.ownsRow w4.heap.size 3 1 (.slice (some ⟨lg, 0, none⟩) 1 lc) 1 (intsV [5])) := hrow5
  have HC5 : Hid (CalmW (fun k => k < w9.heap.size) w4 w5) := hC5
  clear hwn hrow5 hC5 hL5
  go_upto_region 12 with (go_at_call 11; refine hwn2.mono ?_; rintro e w6 ⟨ov, rfl, hrow6, hC6, σ6, hL6⟩; obtain ⟨oa, oc, rfl, _, _, _⟩ := own_shape hrow6)
  have hr6 := hC6.row HR5.out (by unfold own5; omega)
  have z0 : w6.cell? ⟨lg, 0, none⟩ = some (.int .i64 5) := own_int (l := [5]) hr6 rfl
  have HC6 : Hid (CalmW (fun k => k < w9.heap.size) w4 w6) := HC5.out.trans hC6
  have HL6 : Hid (LiveX w6 (fun k => k < w9.heap.size) A.p X (256 + r) σ6 [(5, ⟨3, 4, 9, 9⟩)]) := hL6
  clear hwn2 hrow6 hC6 hL6 hr6 HR5 HC5
  go_wp2
  go_ret
  have hs4 := HB4.out.size
  exact ⟨_, A.p, X, 256 + r, σ6, rfl, ⟨sv, HC6.out.blk HG4.out (by unfold own5; omega), HC6.out.row HT4.out (by unfold own5; omega), HL6.out, hbG⟩, by omega, HB4.out.trans (HC6.out.keep.lows hs4)⟩
end Go.Proofs.YtdgbgmffpcooeaaGreat
end
section
/- Images of disks, disks of images, crashes: of a disk on which an index lies. -/
namespace Go.Proofs.YtdgbgmffpcooeaaGreat
open Go.RowKit Go.Lib
theorem joined_cut (f : Nat → ByteArray) : ∀ (n t : Nat), (∀ t, t < n → (f t).size = 256) → t < n → ((joined f n).drop (t * 256)).take 256 = (f t).data.toList
  | 0, t, _, ht => by omega
  | n + 1, t, h, ht => by
    have hl := length_joined f n (fun t ht => h t (by omega))
    rw [joined_succ]
    by_cases e : t = n
    · subst e
      rw [List.drop_append_of_le_length (by omega), List.drop_eq_nil_of_le (by omega), List.nil_append, List.take_of_length_le (by rw [length_data, h t (by omega)]; omega)]
    · rw [List.drop_append_of_le_length (by omega), List.take_append_of_le_length (by rw [List.length_drop]; omega)]
      exact joined_cut f n t (fun t ht => h t (by omega)) (by omega)
/-- The image of a disk on which such an index lies. -/
def ImgOf (img : ByteArray) (n : Nat) (tb : List (Int × Box)) : Prop := img.size = n * 256 ∧ 256 ≤ n ∧ n ≤ 4096 ∧ ∃ root es us, Tr (PS.fresh n (loadNow img n)) root es us ∧ Idx plc tb es
theorem ba_ext {a b : ByteArray} (h : a.data.toList = b.data.toList) : a = b := by
  cases a; cases b
  simp only at h
  rw [Array.toList_inj.1 h]
theorem cut_joined (f : Nat → ByteArray) (n t : Nat) (h : ∀ t, t < n → (f t).size = 256) (ht : t < n) : cut ⟨(joined f n).toArray⟩ t = f t := by
  have := joined_cut f n t h ht
  refine ba_ext ?_
  unfold cut
  rw [ByteArray.data_extract, Array.toList_extract, List.extract_eq_take_drop]
  rw [show (t + 1) * 256 - t * 256 = 256 by omega]
  exact this
theorem tr_load {s : PS} {root : Nat} {es : List (Key × Box)} {us : List Nat} (hT : Tr s root es us) (h : ∀ t, t < s.n → (s.now t).size = 256) (hn : 1 ≤ s.n) : Tr (PS.fresh s.n (loadNow ⟨(joined s.now s.n).toArray⟩ s.n)) root es us := by
  have e : ∀ t, t < s.n → loadNow ⟨(joined s.now s.n).toArray⟩ s.n t = s.now t := fun t ht => by
    unfold loadNow
    rw [if_pos ht, cut_joined s.now s.n t h ht]
  exact hT.congr rfl (e 0 (by omega)) (fun t ht => e t (hT.ins t ht).2)
/-- A disk on which an index lies. -/
def DiskX (W : World) (N : Nat → Prop) (p n : Nat) (tb : List (Int × Box)) : Prop :=
  ∃ (A : PA) (σ : PS) (root : Nat) (es : List (Key × Box)) (us : List Nat), A.p = p ∧ σ.n = n ∧ PD W 0 A σ ∧ Tr σ root es us ∧ Idx plc tb es ∧ Free σ ∧ (∀ k, A.F k → ¬ N k) ∧ ∀ k, N k → k < W.heap.size
section
variable {w : World} {N : Nat → Prop} {p X n : Nat} {σ : PS} {tb : List (Int × Box)}
theorem LiveX.disk (h : LiveX w N p X n σ tb) : DiskX w N p n tb := by
  obtain ⟨A, x, t, f, fr, root, es, us, h1, h2, h3, h4, h5, h6, h7, h8, h9, h10⟩ := h
  exact ⟨A, σ, root, es, us, h1, h2, h4.pd, h5.tr, h5.idx, h6, h7, h10⟩
theorem disk_open (h : DiskX w N p n tb) :
    Calls Tryz.prog 21 #[.pointer (some ⟨p, 0, none⟩)] w fun e w' => ∃ X', e = .returned (.tuple #[.pointer (some ⟨X', 0, none⟩), .int .i64 0]) ∧ CalmW N w w' ∧ ∃ σ', LiveX w' N p X' n σ' tb := by
  obtain ⟨A, σ, root, es, us, rfl, rfl, h3, h4, h5, h6, h7, h8⟩ := h
  exact open_on h3 h4 h5 h6 ⟨h7, h8⟩
theorem qimage_ok (w : World) (base : Nat) (A : PA) (s : PS) (h : PD w base A s) :
    Calls Tryz.prog 18 #[.pointer (some ⟨A.p, 0, none⟩)] w fun e w' => e = .returned (.tuple #[.string ⟨(joined s.safe s.n).toArray⟩, .int .i64 0]) ∧ Below w.heap.size w w' := by
  have cp : w.cell? ⟨A.p, 0, none⟩ = some (.pointer (some ⟨A.q, 0, none⟩)) := h.blkP.cell 0
  have hcon := pimage_any w base A s h
  clear h
  go_enter Tryz.func18, Tryz.ntmps18
  go_wp2_with (go_at_call 47; refine hcon.mono ?_; rintro e w1 ⟨rfl, hb⟩)
  go_ret2
  exact ⟨rfl, hb⟩
theorem live_image (h : LiveX w N p X n σ tb) :
    Calls Tryz.prog 18 #[.pointer (some ⟨p, 0, none⟩)] w fun e w' => ∃ img, e = .returned (.tuple #[.string img, .int .i64 0]) ∧ Below w.heap.size w w' ∧ ImgOf img n tb := by
  obtain ⟨A, x, t, f, fr, root, es, us, rfl, rfl, h3, h4, h5, h6⟩ := h
  refine (qimage_ok w 0 A σ h4.pd).mono ?_
  rintro e w' ⟨rfl, hb⟩
  have hs : σ.safe = σ.now := by funext t; unfold PS.safe; rw [h5.old t]; rfl
  have hsz : ∀ t, t < σ.n → (σ.now t).size = 256 := fun t ht => h4.pd.sec.size t ht
  have hn1 := h4.pd.n1
  rw [hs]
  refine ⟨_, rfl, hb, ?_, h4.pd.n1, h4.pd.n2, root, es, us, tr_load h5.tr hsz (by omega), h5.idx⟩
  have := length_joined σ.now σ.n hsz
  show (joined σ.now σ.n).toArray.size = _
  simpa using this
theorem qload_ok (w : World) (b : ByteArray) (n : Nat) (hn : b.size = n * 256) (h1 : 256 ≤ n) (h2 : n ≤ 4096) :
    Calls Tryz.prog 19 #[.string b] w fun e w' => ∃ A : PA, e = .returned (.tuple #[.pointer (some ⟨A.p, 0, none⟩), .int .i64 0]) ∧ PD w' w.heap.size A (PS.fresh n (loadNow b n)) ∧ Below w.heap.size w w' := by
  have hcon := pload_ok w b n hn h1 h2
  clear hn h1 h2
  go_enter Tryz.func19, Tryz.ntmps19
  go_wp2_with (first
    | (go_at_call 49; refine hcon.mono ?_; rintro e w1 ⟨q, g, m, rfl, hI, hb1⟩; have hcon2 := qhold_ok w1 w.heap.size q g m _ hI hb1.size)
    | (go_at_call 48; refine hcon2.mono ?_; rintro e w2 ⟨A, rfl, hR, hb2⟩))
  go_ret2
  exact ⟨A, rfl, hR, hb1.trans (hb2.mono hb1.size)⟩
/-- A disk is made of an image: its blocks are new. -/
theorem img_load {img : ByteArray} (h : ImgOf img n tb) (w : World) :
    Calls Tryz.prog 19 #[.string img] w fun e w' => ∃ p, e = .returned (.tuple #[.pointer (some ⟨p, 0, none⟩), .int .i64 0]) ∧ DiskX w' (fun k => k < w.heap.size) p n tb ∧ Below w.heap.size w w' := by
  obtain ⟨h1, h2, h3, root, es, us, h4, h5⟩ := h
  refine (qload_ok w img n h1 h2 h3).mono ?_
  rintro e w' ⟨A, rfl, hP, hb⟩
  exact ⟨A.p, rfl, ⟨A, _, root, es, us, rfl, rfl, hP.base0, h4, h5, ⟨rfl, rfl⟩, fun k hk h => by have := hP.les k hk; omega, fun k hk => by have := hb.size; omega⟩, hb⟩
theorem qcrash_ok (w : World) (base : Nat) (A : PA) (s : PS) (h : PD w base A s) (ak : Option Addr) (lk ck : Nat) (K : Nat → Int) (hK : KAt w ak lk K) (hlk : lk ≤ 9223372036854775807) (hout : ∀ a, ak = some a → 0 < lk → ¬ A.F a.block) :
    Calls Tryz.prog 20 #[.pointer (some ⟨A.p, 0, none⟩), .slice ak lk ck] w fun e w' => ∃ A' : PA, e = .returned (.int .i64 0) ∧ PD w' base A' (s.crash lk K) ∧ Off A.F w w' ∧ A'.p = A.p ∧ ∀ k, A'.F k → A.F k ∨ w.heap.size ≤ k := by
  have cp : w.cell? ⟨A.p, 0, none⟩ = some (.pointer (some ⟨A.q, 0, none⟩)) := h.blkP.cell 0
  have hcon := pcrash_any w base A s h ak lk ck K hK hlk hout
  clear hlk h hout
  go_enter Tryz.func20, Tryz.ntmps20
  go_wp2_with (go_at_call 50; refine hcon.mono ?_; rintro e w1 ⟨A', rfl, hP, ho, hp, hF⟩)
  go_ret
  exact ⟨A', rfl, hP, ho, hp, hF⟩
/-- A crash where all is safe: the same index lies there. -/
theorem live_crash (h : LiveX w N p X n σ tb) (ak : Option Addr) (lk ck : Nat) (K : Nat → Int) (hK : KAt w ak lk K) (hlk : lk ≤ 9223372036854775807) (hout : ∀ a, ak = some a → 0 < lk → N a.block) :
    Calls Tryz.prog 20 #[.pointer (some ⟨p, 0, none⟩), .slice ak lk ck] w fun e w' => e = .returned (.int .i64 0) ∧ CalmW N w w' ∧ DiskX w' N p n tb := by
  obtain ⟨A, x, t, f, fr, root, es, us, rfl, rfl, h3, h4, h5, h6, h7, h8, h9, h10⟩ := h
  refine (qcrash_ok w 0 A σ h4.pd ak lk ck K hK hlk (fun a e l hF => h7 _ hF (hout a e l))).mono ?_
  rintro e w' ⟨A', rfl, hP, ho, hp, hF⟩
  have hnow : ∀ t, (σ.crash lk K).now t = σ.now t := fun t => by
    show (keptOld σ.old K lk t).getD (σ.now t) = σ.now t
    unfold keptOld
    rw [h5.old t]
    split <;> rfl
  refine ⟨rfl, CalmW.off ho h4.pd.tags h7, A', σ.crash lk K, root, es, us, hp, rfl, hP, h5.tr.congr rfl (hnow 0) (fun t _ => hnow t), h5.idx, ⟨rfl, rfl⟩, fun k hk hN => ?_, fun k hk => Nat.lt_of_lt_of_le (h10 k hk) ho.size⟩
  rcases hF k hk with g | g
  · exact h7 k g hN
  · have := h10 k hN; omega
end
end Go.Proofs.YtdgbgmffpcooeaaGreat
end
section
/- Indexes and disks side by side: what each of them owns. -/
namespace Go.Proofs.YtdgbgmffpcooeaaGreat
open Go.RowKit Go.Lib
/-- All but these blocks. -/
def NF (W : World) (F : Nat → Prop) (k : Nat) : Prop := k < W.heap.size ∧ ¬ F k
/-- These are blocks of disks, trees and indexes. -/
def Fown (W : World) (F : Nat → Prop) : Prop := (∀ k, F k → k < W.heap.size) ∧ ∀ k cs ty g, F k → W.heap[k]? = some (.cells cs ty g) → own5 ty
def LiveS (W : World) (F : Nat → Prop) (p X n : Nat) (σ : PS) (tb : List (Int × Box)) : Prop := LiveX W (NF W F) p X n σ tb ∧ Fown W F
def DiskS (W : World) (F : Nat → Prop) (p n : Nat) (tb : List (Int × Box)) : Prop := DiskX W (NF W F) p n tb ∧ Fown W F
section
variable {w w' : World} {N F F1 F2 : Nat → Prop} {p X n : Nat} {σ : PS} {tb : List (Int × Box)}
theorem CalmW.offs (h : CalmW (NF w F) w w') : Off F w w' := ⟨h.os, h.tape, h.output, h.size, fun k hk hf => h.low k ⟨hk, hf⟩ hk⟩
theorem LiveX.own (h : LiveX w N p X n σ tb) : ∃ F, LiveS w F p X n σ tb ∧ ∀ k, F k → ¬ N k := by
  obtain ⟨A, x, t, f, fr, root, es, us, h1, h2, h3, h4, h5, h6, h7, h8, h9, h10⟩ := h
  refine ⟨fun k => A.F k ∨ k = t ∨ k = x, ⟨⟨A, x, t, f, fr, root, es, us, h1, h2, h3, h4, h5, h6, fun k hk hn => hn.2 (.inl hk), fun hn => hn.2 (.inr (.inl rfl)), fun hn => hn.2 (.inr (.inr rfl)), fun k hk => hk.1⟩, fun k hk => ?_, h4.tags⟩, fun k hk => ?_⟩
  · rcases hk with hk | rfl | rfl
    · exact (h4.pd.lt k hk).2
    · exact h4.tr.lt
    · exact h4.ix.lt
  · rcases hk with hk | rfl | rfl
    · exact h7 k hk
    · exact h8
    · exact h9
theorem DiskX.own (h : DiskX w N p n tb) : ∃ F, DiskS w F p n tb ∧ ∀ k, F k → ¬ N k := by
  obtain ⟨A, σ, root, es, us, h1, h2, h3, h4, h5, h6, h7, h8⟩ := h
  exact ⟨A.F, ⟨⟨A, σ, root, es, us, h1, h2, h3, h4, h5, h6, fun k hk hn => hn.2 hk, fun k hk => hk.1⟩, fun k hk => (h3.lt k hk).2, h3.tags⟩, h7⟩
theorem old_new {k : Nat} (h : ¬ NF w F k) : F k ∨ w.heap.size ≤ k := Classical.byContradiction fun g => h ⟨by omega, fun e => g (.inl e)⟩
/-- Behind a call of an index. -/
theorem LiveX.then (h : LiveX w' (NF w F) p X n σ tb) : ∃ F', LiveS w' F' p X n σ tb ∧ ∀ k, F' k → F k ∨ w.heap.size ≤ k := by
  obtain ⟨F', h1, h2⟩ := h.own
  exact ⟨F', h1, fun k hk => old_new (h2 k hk)⟩
theorem DiskX.then (h : DiskX w' (NF w F) p n tb) : ∃ F', DiskS w' F' p n tb ∧ ∀ k, F' k → F k ∨ w.heap.size ≤ k := by
  obtain ⟨F', h1, h2⟩ := h.own
  exact ⟨F', h1, fun k hk => old_new (h2 k hk)⟩
theorem Fown.keep (h : Fown w F1) (ho : Off F2 w w') (hd : ∀ k, F1 k → ¬ F2 k) : Fown w' F1 :=
  ⟨fun k hk => Nat.lt_of_lt_of_le (h.1 k hk) ho.size, fun k cs ty g hk e => h.2 k cs ty g hk ((ho.block k (h.1 k hk) (hd k hk)).symm.trans e)⟩
/-- Another one's call leaves an index as it was. -/
theorem LiveS.keep (h : LiveS w F1 p X n σ tb) (h2 : Fown w F2) (ho : Off F2 w w') (hd : ∀ k, F1 k → ¬ F2 k) : LiveS w' F1 p X n σ tb := by
  obtain ⟨⟨A, x, t, f, fr, root, es, us, a1, a2, a3, a4, a5, a6, a7, a8, a9, a10⟩, hf⟩ := h
  have nA : ∀ k, A.F k → F1 k := fun k hk => Classical.byContradiction fun g => a7 k hk ⟨(a4.pd.lt k hk).2, g⟩
  have nt : F1 t := Classical.byContradiction fun g => a8 ⟨a4.tr.lt, g⟩
  have nx : F1 x := Classical.byContradiction fun g => a9 ⟨a4.ix.lt, g⟩
  refine ⟨⟨A, x, t, f, fr, root, es, us, a1, a2, a3.off ho (fun hk => by have := h2.2 X _ _ _ hk a3; revert this; unfold own5; omega), ⟨a4.pd.off ho (fun k hk => hd k (nA k hk)), a4.tr.off ho (hd t nt), own_offv a4.row ho (fun g hg hk => ?_), a4.ix.off ho (hd x nx)⟩, a5, a6, fun k hk hn => hn.2 (nA k hk), fun hn => hn.2 nt, fun hn => hn.2 nx, fun k hk => hk.1⟩, hf.keep ho hd⟩
  obtain ⟨_, cs, hc⟩ := own_tagged a4.row hg
  have := h2.2 g _ _ _ hk hc
  revert this; unfold own5; omega
theorem DiskS.keep (h : DiskS w F1 p n tb) (ho : Off F2 w w') (hd : ∀ k, F1 k → ¬ F2 k) : DiskS w' F1 p n tb := by
  obtain ⟨⟨A, σ, root, es, us, a1, a2, a3, a4, a5, a6, a7, a8⟩, hf⟩ := h
  have nA : ∀ k, A.F k → F1 k := fun k hk => Classical.byContradiction fun g => a7 k hk ⟨(a3.lt k hk).2, g⟩
  exact ⟨⟨A, σ, root, es, us, a1, a2, a3.off ho (fun k hk => hd k (nA k hk)), a4, a5, a6, fun k hk hn => hn.2 (nA k hk), fun k hk => hk.1⟩, hf.keep ho hd⟩
theorem LiveS.below (h : LiveS w F p X n σ tb) (hb : Below w.heap.size w w') : LiveS w' F p X n σ tb := by
  refine ⟨?_, h.2.keep (F2 := fun _ => False) (Off.of_below hb) (fun _ _ h => h)⟩
  obtain ⟨A, x, t, f, fr, root, es, us, a1, a2, a3, a4, a5, a6, a7, a8, a9, a10⟩ := h.1
  have nA : ∀ k, A.F k → F k := fun k hk => Classical.byContradiction fun g => a7 k hk ⟨(a4.pd.lt k hk).2, g⟩
  have nt : F t := Classical.byContradiction fun g => a8 ⟨a4.tr.lt, g⟩
  have nx : F x := Classical.byContradiction fun g => a9 ⟨a4.ix.lt, g⟩
  exact ⟨A, x, t, f, fr, root, es, us, a1, a2, (hb.block X a3.lt).trans a3, a4.below hb, a5, a6, fun k hk hn => hn.2 (nA k hk), fun hn => hn.2 nt, fun hn => hn.2 nx, fun k hk => hk.1⟩
theorem DiskS.below (h : DiskS w F p n tb) (hb : Below w.heap.size w w') : DiskS w' F p n tb := h.keep (F2 := fun _ => False) (Off.of_below hb) (fun _ _ h => h)
/-- An index that owns nothing of these. -/
theorem LiveS.weak (h : LiveS w F p X n σ tb) (h1 : ∀ k, F k → ¬ N k) (h2 : ∀ k, N k → k < w.heap.size) : LiveX w N p X n σ tb := by
  obtain ⟨A, x, t, f, fr, root, es, us, a1, a2, a3, a4, a5, a6, a7, a8, a9, a10⟩ := h.1
  exact ⟨A, x, t, f, fr, root, es, us, a1, a2, a3, a4, a5, a6, fun k hk hn => a7 k hk ⟨h2 k hn, fun e => h1 k e hn⟩, fun hn => a8 ⟨h2 _ hn, fun e => h1 _ e hn⟩, fun hn => a9 ⟨h2 _ hn, fun e => h1 _ e hn⟩, h2⟩
theorem DiskS.weak (h : DiskS w F p n tb) (h1 : ∀ k, F k → ¬ N k) (h2 : ∀ k, N k → k < w.heap.size) : DiskX w N p n tb := by
  obtain ⟨A, σ, root, es, us, a1, a2, a3, a4, a5, a6, a7, a8⟩ := h.1
  exact ⟨A, σ, root, es, us, a1, a2, a3, a4, a5, a6, fun k hk hn => a7 k hk ⟨h2 k hn, fun e => h1 k e hn⟩, h2⟩
theorem s_open (h : DiskS w F p n tb) :
    Calls Tryz.prog 21 #[.pointer (some ⟨p, 0, none⟩)] w fun e w' => ∃ X' σ' F', e = .returned (.tuple #[.pointer (some ⟨X', 0, none⟩), .int .i64 0]) ∧ Off F w w' ∧ LiveS w' F' p X' n σ' tb ∧ (∀ k, F' k → F k ∨ w.heap.size ≤ k) := by
  refine (disk_open h.1).mono ?_
  rintro e w' ⟨X', rfl, hC, σ', hL⟩
  obtain ⟨F', h1, h2⟩ := hL.then
  exact ⟨X', σ', F', rfl, hC.offs, h1, h2⟩
theorem s_put (h : LiveS w F p X n σ tb) {id : Int} (hid : 0 ≤ id ∧ id ≤ 4611686018427387904) {v : Box} (hv : v.ok) (hr1 : tb.length ≤ (n - 200) / 4) (hr2 : (tput id v tb).length ≤ (n - 200) / 4) :
    Calls Tryz.prog 10 #[.pointer (some ⟨X, 0, none⟩), .int .i64 id, .agg (boxC v)] w fun e w' => e = .returned (.int .i64 0) ∧ Off F w w' := by
  refine (live_put h.1 hid hv hr1 hr2).mono ?_
  rintro e w' ⟨rfl, hC, _⟩
  exact ⟨rfl, hC.offs⟩
theorem s_alike (h : LiveS w F p X n σ tb) {G : Nat} {sv : Value} {room : Int} (hG : Blk w G 62 (gameC p X sv room)) (mv : Value) (hm : TabV w 0 mv tb) :
    Calls Tryz.prog 17 #[.pointer (some ⟨G, 0, none⟩), .agg #[mv]] w fun e w' => e = .returned (.bool true) ∧ Off F w w' ∧ ∃ σ' F', LiveS w' F' p X n σ' tb ∧ (∀ k, F' k → F k ∨ w.heap.size ≤ k) := by
  refine (alike_gen w (NF w F) G p X n σ sv room tb hG h.1 mv hm).mono ?_
  rintro e w' ⟨rfl, hC, σ', hL⟩
  obtain ⟨F', h1, h2⟩ := hL.then
  exact ⟨rfl, hC.offs, σ', F', h1, h2⟩
theorem s_load {img : ByteArray} (h : ImgOf img n tb) (w : World) :
    Calls Tryz.prog 19 #[.string img] w fun e w' => ∃ p F, e = .returned (.tuple #[.pointer (some ⟨p, 0, none⟩), .int .i64 0]) ∧ DiskS w' F p n tb ∧ (∀ k, F k → w.heap.size ≤ k) ∧ Below w.heap.size w w' := by
  refine (img_load h w).mono ?_
  rintro e w' ⟨p, rfl, hD, hb⟩
  obtain ⟨F, h1, h2⟩ := hD.own
  exact ⟨p, F, rfl, h1, fun k hk => Nat.not_lt.1 (h2 k hk), hb⟩
theorem s_crash (h : LiveS w F p X n σ tb) (ak : Option Addr) (lk ck : Nat) (K : Nat → Int) (hK : KAt w ak lk K) (hlk : lk ≤ 9223372036854775807) (hout : ∀ a, ak = some a → 0 < lk → ¬ F a.block ∧ a.block < w.heap.size) :
    Calls Tryz.prog 20 #[.pointer (some ⟨p, 0, none⟩), .slice ak lk ck] w fun e w' => e = .returned (.int .i64 0) ∧ Off F w w' ∧ ∃ F', DiskS w' F' p n tb ∧ (∀ k, F' k → F k ∨ w.heap.size ≤ k) := by
  refine (live_crash h.1 ak lk ck K hK hlk (fun a e l => ⟨(hout a e l).2, (hout a e l).1⟩)).mono ?_
  rintro e w' ⟨rfl, hC, hD⟩
  obtain ⟨F', h1, h2⟩ := hD.then
  exact ⟨rfl, hC.offs, F', h1, h2⟩
end
end Go.Proofs.YtdgbgmffpcooeaaGreat
end
