/- Nv5 No1 Kq1 -/
import Derived.Test.YtdgbgmffpcooeaaGreatI49
namespace Go.Proofs.YtdgbgmffpcooeaaGreat
section
open Go.RowKit Go.Lib
end
end Go.Proofs.YtdgbgmffpcooeaaGreat
namespace Go.Proofs.YtdgbgmffpcooeaaGreat
open Go.RowKit Go.Lib
section
theorem PD.base0 {W : World} {base : Nat} {A : PA} {s : PS} (h : PD W base A s) : PD W 0 A s := ⟨⟨Nat.zero_le _, Nat.zero_le _, Nat.zero_le _, Nat.zero_le _⟩, h.blkP, h.blkQ, h.sec, h.map, h.n1, h.n2⟩
theorem PD.les {W : World} {base : Nat} {A : PA} {s : PS} (h : PD W base A s) : ∀ k, A.F k → base ≤ k := fun k hk => by
  obtain ⟨a, b, c, d⟩ := h.le
  rcases hk with rfl | rfl | rfl | rfl
  · exact a
  · exact b
  · exact c
  · exact d
theorem tput_nil (id : Int) (v : Box) : tput id v [] = [(id, v)] := rfl
theorem win_one : winL ⟨9, 9, 20, 20⟩ [(5, ⟨3, 4, 9, 9⟩)] = [5] := by decide +kernel
theorem win_two : winL ⟨10, 9, 20, 20⟩ [(5, ⟨3, 4, 9, 9⟩)] = [] := by decide +kernel
set_option maxRecDepth 100000 in
set_option maxHeartbeats 4000000 in
theorem begun_any (w : World) (c : Int) (wc : (Lit.int .i64 c).wf = true) :
    Calls Tryz.prog 15 #[.int .i64 c] w fun e w' => ∃ G p X n σ, e = .returned (.pointer (some ⟨G, 0, none⟩)) ∧ GameX w' (fun k => k < w.heap.size) G p X n σ (((n - 200) / 4 : Nat) : Int) [(5, ⟨3, 4, 9, 9⟩)] ∧ 256 ≤ n ∧ Below w.heap.size w w' ∧ (n : Int) = 256 + pickI c 1200 ∧ 0 ≤ σ.steps ∧ σ.steps ≤ 5000000000000 := by
  have hpk := pick_eq c 1200 w (by omega) wc
  obtain ⟨r, hre, hr⟩ : ∃ r : Nat, pickI c 1200 = (r : Int) ∧ r < 1200 := by
    have := pickI_lt c 1200 (by omega)
    exact ⟨(pickI c 1200).toNat, by omega, by omega⟩
  have HRE : Hid (pickI c 1200 = (r : Int)) := hre
  rw [hre] at hpk
  clear hre
  go_enter Tryz.func15, Tryz.ntmps15
  go_upto_region 2 with (go_at_call 24; refine hpk.mono ?_; rintro e w9 ⟨rfl, rfl⟩)
  have hnew := qnewd_ok w9 (256 + r) (by omega) (by omega)
  rw [show ((256 + r : Nat) : Int) = 256 + (r : Int) from by omega] at hnew
  go_upto_region 5 with (go_at_call 29; refine hnew.mono ?_; rintro e w1 ⟨A, rfl, hP, hb1⟩)
  have hop := open_on (N := fun k => k < w9.heap.size) (hP.base0) (tr_fresh (256 + r)) idx_nil ⟨rfl, rfl⟩ ⟨fun k hk h => by have := hP.les k hk; omega, fun k hk => by have := hb1.size; omega⟩
  clear hnew hpk
  go_upto_region 8 with (go_at_call 21; refine hop.mono ?_; rintro e w2 ⟨X, rfl, hC2, σ2, hL2, hA2⟩)
  have HA2 : Hid (0 ≤ σ2.steps ∧ σ2.steps ≤ 12000000) := by
    obtain ⟨j, hj, e⟩ := (hA2 (by simp)).eq (show (0 : Int) ≤ 0 from by omega) (show (0 : Int) + _ < _ from by decide)
    have e' : σ2.steps = 0 + (j : Int) := e
    have : (1 + (1 + 15 ^ 6) : Nat) = 11390627 := by decide
    show _ ∧ _
    omega
  clear hA2
  have hs1 := hb1.size
  have hs2 := hC2.size
  have hdv : (256 + (r : Int) - 200) / 4 = ((((256 + r) - 200) / 4 : Nat) : Int) := by omega
  obtain ⟨W3, hW3⟩ : ∃ W3, w2.alloc (.cells #[.pointer (some ⟨A.p, 0, none⟩), .pointer (some ⟨X, 0, none⟩), .slice none 0 0, .int .i64 ((((256 + r) - 200) / 4 : Nat) : Int)] 62) = W3 := ⟨_, rfl⟩
  have hb3 : Below w2.heap.size w2 W3 := by rw [← hW3]; exact (Below.refl _ w2).alloc (Nat.le_refl _) _
  have G3 : Blk W3 w2.heap.size 62 (gameC A.p X (.slice none 0 0) ((((256 + r) - 200) / 4 : Nat) : Int)) := by rw [← hW3]; exact Blk.new w2 62 _
  have HW3 : Hid (w2.alloc (.cells #[.pointer (some ⟨A.p, 0, none⟩), .pointer (some ⟨X, 0, none⟩), .slice none 0 0, .int .i64 ((((256 + r) - 200) / 4 : Nat) : Int)] 62) = W3) := hW3
  have hGX : GameX W3 (fun k => k < w9.heap.size) w2.heap.size A.p X (256 + r) σ2 ((((256 + r) - 200) / 4 : Nat) : Int) [] := ⟨_, G3, ⟨rfl, .inl ⟨rfl, rfl⟩⟩, hL2.below hb3, by omega⟩
  have HB3 : Hid (Below w9.heap.size w9 W3) := (hb1.trans (hC2.keep.lows hs1)).trans (hb3.mono (by omega))
  have hgp := gput_any W3 (fun k => k < w9.heap.size) w2.heap.size A.p X (256 + r) σ2 _ [] hGX 5 (by omega) ⟨3, 4, 9, 9⟩ ⟨by simp, by simp, by simp, by simp⟩ (by simp) (by rw [tput_nil]; simp; omega)
  simp only [boxC] at hgp
  rw [tput_nil] at hgp
  clear hW3 hGX hop hP hL2 hb1 hC2 hb3 G3
  go_upto_region 9 with fail
  have hdv2 : ((256 + r - 200 : Nat) : Int) / 4 = (((256 + r - 200) / 4 : Nat) : Int) := by omega
  rw [hdv2, HW3.out]
  clear hdv hdv2
  go_upto_region 10 with (go_at_call 25; refine hgp.mono ?_; rintro e w4 ⟨rfl, hb4, σ4, hG4, hA4⟩)
  have HB4 : Hid (Below w9.heap.size w9 w4) := HB3.out.trans (hb4.lows HB3.out.size)
  have HA4 : Hid (0 ≤ σ4.steps ∧ σ4.steps ≤ 13000000) := by
    have := HA2.out
    obtain ⟨j, hj, e⟩ := hA4.eq this.1 (by omega)
    show _ ∧ _
    omega
  clear hA4
  obtain ⟨sv, g4, t4, hL4, hbG⟩ := hG4
  have hwn := live_win hL4 (r := ⟨9, 9, 20, 20⟩) ⟨by simp, by simp, by simp, by simp⟩
  rw [win_one] at hwn
  simp only [boxC] at hwn
  have HG4 : Hid (Blk w4 w2.heap.size 62 (gameC A.p X sv ((((256 + r) - 200) / 4 : Nat) : Int))) := g4
  have HT4 : Hid (TabV w4 0 sv [(5, ⟨3, 4, 9, 9⟩)]) := t4
  clear hgp hb4 g4 t4 hL4 HB3 HW3
  go_upto_region 11 with (go_at_call 11; refine hwn.mono ?_; rintro e w5 ⟨lv, rfl, hrow5, hC5, σ5, hL5, hA5⟩; obtain ⟨lg, lc, rfl⟩ := own_int_form (l := [5]) hrow5 (by simp))
  have hwn2 := live_win hL5 (r := ⟨10, 9, 20, 20⟩) ⟨by simp, by simp, by simp, by simp⟩
  rw [win_two] at hwn2
  simp only [boxC] at hwn2
  have HR5 : Hid (w5.ownsRow w4.heap.size 3 1 (.slice (some ⟨lg, 0, none⟩) 1 lc) 1 (intsV [5])) := hrow5
  have HA5 : Hid (0 ≤ σ5.steps ∧ σ5.steps ≤ 2100000000000) := by
    have := HA4.out
    obtain ⟨j, hj, e⟩ := hA5.eq this.1 (by omega)
    show _ ∧ _
    omega
  clear hA5
  have HC5 : Hid (CalmW (fun k => k < w9.heap.size) w4 w5) := hC5
  clear hwn hrow5 hC5 hL5
  go_upto_region 12 with (go_at_call 11; refine hwn2.mono ?_; rintro e w6 ⟨ov, rfl, hrow6, hC6, σ6, hL6, hA6⟩; obtain ⟨oa, oc, rfl, _, _, _⟩ := own_shape hrow6)
  have hr6 := hC6.row HR5.out (by unfold own5; omega)
  have z0 : w6.cell? ⟨lg, 0, none⟩ = some (.int .i64 5) := own_int (l := [5]) hr6 rfl
  have HC6 : Hid (CalmW (fun k => k < w9.heap.size) w4 w6) := HC5.out.trans hC6
  have HA6 : Hid (0 ≤ σ6.steps ∧ σ6.steps ≤ 5000000000000) := by
    have := HA5.out
    obtain ⟨j, hj, e⟩ := hA6.eq this.1 (by omega)
    show _ ∧ _
    omega
  clear hA6
  have HL6 : Hid (LiveX w6 (fun k => k < w9.heap.size) A.p X (256 + r) σ6 [(5, ⟨3, 4, 9, 9⟩)]) := hL6
  clear hwn2 hrow6 hC6 hL6 hr6 HR5 HC5
  go_wp2
  go_ret
  have hs4 := HB4.out.size
  exact ⟨_, A.p, X, 256 + r, σ6, rfl, ⟨sv, HC6.out.blk HG4.out (by unfold own5; omega), HC6.out.row HT4.out (by unfold own5; omega), HL6.out, hbG⟩, by omega, HB4.out.trans (HC6.out.keep.lows hs4), by rw [HRE.out]; omega, HA6.out⟩
end
section
theorem joined_cut (f : Nat → ByteArray) : ∀ (n t : Nat), (∀ t, t < n → (f t).size = 256) → t < n → ((joined f n).drop (t * 256)).take 256 = (f t).data.toList
  | 0, t, _, ht => by omega
  | n + 1, t, h, ht => by
    have hl := length_joined f n (fun t ht => h t (by omega))
    rw [joined_succ]
    by_cases e : t = n
    · subst e
      rw [List.drop_append_of_le_length (by omega), List.drop_eq_nil_of_le (by omega), List.nil_append, List.take_of_length_le (by rw [length_data, h t (by omega)]; omega)]
    · rw [List.drop_append_of_le_length (by omega), List.take_append_of_le_length (by rw [List.length_drop]; omega)]
      exact joined_cut f n t (fun t ht => h t (by omega)) (by omega)
def ImgOf (img : ByteArray) (n : Nat) (tb : List (Int × Box)) : Prop := img.size = n * 256 ∧ 256 ≤ n ∧ n ≤ 4096 ∧ ∃ root es us, Tr (PS.fresh n (loadNow img n)) root es us ∧ Idx plc tb es
theorem ba_ext {a b : ByteArray} (h : a.data.toList = b.data.toList) : a = b := by
  cases a; cases b
  simp only at h
  rw [Array.toList_inj.1 h]
theorem cut_joined (f : Nat → ByteArray) (n t : Nat) (h : ∀ t, t < n → (f t).size = 256) (ht : t < n) : cut ⟨(joined f n).toArray⟩ t = f t := by
  have := joined_cut f n t h ht
  refine ba_ext ?_
  unfold cut
  rw [ByteArray.data_extract, Array.toList_extract, List.extract_eq_take_drop]
  rw [show (t + 1) * 256 - t * 256 = 256 by omega]
  exact this
theorem tr_load {s : PS} {root : Nat} {es : List (Key × Box)} {us : List Nat} (hT : Tr s root es us) (h : ∀ t, t < s.n → (s.now t).size = 256) (hn : 1 ≤ s.n) : Tr (PS.fresh s.n (loadNow ⟨(joined s.now s.n).toArray⟩ s.n)) root es us := by
  have e : ∀ t, t < s.n → loadNow ⟨(joined s.now s.n).toArray⟩ s.n t = s.now t := fun t ht => by
    unfold loadNow
    rw [if_pos ht, cut_joined s.now s.n t h ht]
  exact hT.congr rfl (e 0 (by omega)) (fun t ht => e t (hT.ins t ht).2)
def DiskX (W : World) (N : Nat → Prop) (p n : Nat) (tb : List (Int × Box)) : Prop :=
  ∃ (A : PA) (σ : PS) (root : Nat) (es : List (Key × Box)) (us : List Nat), A.p = p ∧ σ.n = n ∧ PD W 0 A σ ∧ Tr σ root es us ∧ Idx plc tb es ∧ Free σ ∧ (∀ k, A.F k → ¬ N k) ∧ ∀ k, N k → k < W.heap.size
section
variable {w : World} {N : Nat → Prop} {p X n : Nat} {σ : PS} {tb : List (Int × Box)}
theorem LiveX.disk (h : LiveX w N p X n σ tb) : DiskX w N p n tb := by
  obtain ⟨A, x, t, f, fr, root, es, us, h1, h2, h3, h4, h5, h6, h7, h8, h9, h10⟩ := h
  exact ⟨A, σ, root, es, us, h1, h2, h4.pd, h5.tr, h5.idx, h6, h7, h10⟩
theorem qimage_ok (w : World) (base : Nat) (A : PA) (s : PS) (h : PD w base A s) :
    Calls Tryz.prog 18 #[.pointer (some ⟨A.p, 0, none⟩)] w fun e w' => e = .returned (.tuple #[.string ⟨(joined s.safe s.n).toArray⟩, .int .i64 0]) ∧ Below w.heap.size w w' := by
  have cp : w.cell? ⟨A.p, 0, none⟩ = some (.pointer (some ⟨A.q, 0, none⟩)) := h.blkP.cell 0
  have hcon := pimage_any w base A s h
  clear h
  go_enter Tryz.func18, Tryz.ntmps18
  go_wp2_with (go_at_call 47; refine hcon.mono ?_; rintro e w1 ⟨rfl, hb⟩)
  go_ret2
  exact ⟨rfl, hb⟩
theorem live_image (h : LiveX w N p X n σ tb) :
    Calls Tryz.prog 18 #[.pointer (some ⟨p, 0, none⟩)] w fun e w' => ∃ img, e = .returned (.tuple #[.string img, .int .i64 0]) ∧ Below w.heap.size w w' ∧ ImgOf img n tb := by
  obtain ⟨A, x, t, f, fr, root, es, us, rfl, rfl, h3, h4, h5, h6⟩ := h
  refine (qimage_ok w 0 A σ h4.pd).mono ?_
  rintro e w' ⟨rfl, hb⟩
  have hs : σ.safe = σ.now := by funext t; unfold PS.safe; rw [h5.old t]; rfl
  have hsz : ∀ t, t < σ.n → (σ.now t).size = 256 := fun t ht => h4.pd.sec.size t ht
  have hn1 := h4.pd.n1
  rw [hs]
  refine ⟨_, rfl, hb, ?_, h4.pd.n1, h4.pd.n2, root, es, us, tr_load h5.tr hsz (by omega), h5.idx⟩
  have := length_joined σ.now σ.n hsz
  show (joined σ.now σ.n).toArray.size = _
  simpa using this
theorem qload_ok (w : World) (b : ByteArray) (n : Nat) (hn : b.size = n * 256) (h1 : 256 ≤ n) (h2 : n ≤ 4096) :
    Calls Tryz.prog 19 #[.string b] w fun e w' => ∃ A : PA, e = .returned (.tuple #[.pointer (some ⟨A.p, 0, none⟩), .int .i64 0]) ∧ PD w' w.heap.size A (PS.fresh n (loadNow b n)) ∧ Below w.heap.size w w' := by
  have hcon := pload_ok w b n hn h1 h2
  clear hn h1 h2
  go_enter Tryz.func19, Tryz.ntmps19
  go_wp2_with (first
    | (go_at_call 49; refine hcon.mono ?_; rintro e w1 ⟨q, g, m, rfl, hI, hb1⟩; have hcon2 := qhold_ok w1 w.heap.size q g m _ hI hb1.size)
    | (go_at_call 48; refine hcon2.mono ?_; rintro e w2 ⟨A, rfl, hR, hb2⟩))
  go_ret2
  exact ⟨A, rfl, hR, hb1.trans (hb2.mono hb1.size)⟩
end
end
end Go.Proofs.YtdgbgmffpcooeaaGreat
