/- Nw5 Nw6 No2 Im3 -/
import Derived.Test.YtdgbgmffpcooeaaGreatI51
import Derived.Lib.SlBytesRow
namespace Go.Proofs.YtdgbgmffpcooeaaGreat
open Go.RowKit Go.Lib
section
set_option maxRecDepth 100000 in
set_option maxHeartbeats 4000000 in
theorem movr_open (w : World) (N : Nat → Prop) (G p X n : Nat) (σ : PS) (rm : Int) (tb : List (Int × Box)) (h : GameX w N G p X n σ rm tb)  (K A B : Int) (wK : (Lit.int .i64 K).wf = true) (wA : (Lit.int .i64 A).wf = true) (wB : (Lit.int .i64 B).wf = true) (hk : pickI K 10 = 9) :
    Calls Tryz.prog 16 #[.pointer (some ⟨G, 0, none⟩), .agg #[.int .i64 K, .int .i64 A, .int .i64 B]] w (MoveT w N G p n rm tb) := by
  obtain ⟨W0, hW0⟩ : ∃ W0, w.alloc (.cells #[.int .i64 K, .int .i64 A, .int .i64 B] 56) = W0 := ⟨_, rfl⟩
  have hb0 : Below w.heap.size w W0 := by rw [← hW0]; exact (Below.refl _ w).alloc (Nat.le_refl _) _
  have B0 : Blk W0 w.heap.size 56 #[.int .i64 K, .int .i64 A, .int .i64 B] := by rw [← hW0]; exact Blk.new w 56 _
  have HW0 : Hid (w.alloc (.cells #[.int .i64 K, .int .i64 A, .int .i64 B] 56) = W0) := hW0
  obtain ⟨sv, hG, hT, hL, hbG⟩ := h.below hb0
  have HBW : Hid (Keep N w W0) := Keep.below hb0
  have hup := hL.up
  have HUP : Hid (Ups tb ∧ 256 ≤ n ∧ n ≤ 4096 ∧ tb.length ≤ 1000000 ∧ ∀ t ∈ tb, t.2.ok ∧ 0 ≤ t.1 ∧ t.1 ≤ 4611686018427387904) := hup
  have hnum := number_any A W0 wA
  have hpk := pick_eq K 10 W0 (by omega) wK
  have q0 : W0.cell? ⟨w.heap.size, 0, none⟩ = some (.int .i64 K) := B0.cell 0
  have q1 : W0.cell? ⟨w.heap.size, 1, none⟩ = some (.int .i64 A) := B0.cell 1
  have q2 : W0.cell? ⟨w.heap.size, 2, none⟩ = some (.int .i64 B) := B0.cell 2
  obtain ⟨sa, sc, rfl, _, _, _⟩ := own_shape hT
  have qS : W0.cell? ⟨G, 2, none⟩ = some (.slice sa tb.length sc) := hG.cell 2
  have HG0 : Hid (Blk W0 G 62 (gameC p X (.slice sa tb.length sc) rm)) := hG
  have HT0 : Hid (TabV W0 0 (.slice sa tb.length sc) tb) := hT
  have HL0 : Hid (LiveX W0 N p X n σ tb) := hL
  have HB0 : Hid (Blk W0 w.heap.size 56 #[.int .i64 K, .int .i64 A, .int .i64 B]) := B0
  have hn1 := hup.2.1
  have hn2 := hup.2.2.1
  have hlen := hup.2.2.2.1
  clear hW0 h hG hT hL B0 hb0 hup
  go_enter Tryz.func16, Tryz.ntmps16
  go_upto_region 1 with fail
  rw [HW0.out]
  clear HW0
  go_upto_region 2 with (go_at_call 43; refine hnum.mono ?_; rintro e w9 ⟨⟨id, hid, rfl⟩, rfl⟩)
  have hge := mget_any w9 0 (.slice sa tb.length sc) tb HT0.out HUP.out.1 HUP.out.2.2.2.1 (id : Int)
  have hid2 : 0 ≤ (id : Int) ∧ (id : Int) ≤ 4611686018427387904 := by omega
  go_upto_region 3 with (go_at_call 44; refine hge.mono ?_; rintro e w1 ⟨rfl, hb1⟩)
  obtain ⟨W1, hW1⟩ : ∃ W1, w1.alloc (.cells #[.int .i64 ((rectOf (tget (id : Int) tb)).a : Int), .int .i64 ((rectOf (tget (id : Int) tb)).b : Int), .int .i64 ((rectOf (tget (id : Int) tb)).c : Int), .int .i64 ((rectOf (tget (id : Int) tb)).d : Int)] 34) = W1 := ⟨_, rfl⟩
  have hbW : Below w9.heap.size w9 W1 := by rw [← hW1]; exact hb1.alloc hb1.size _
  have B6 : Blk W1 w1.heap.size 34 (boxA (rectOf (tget (id : Int) tb))) := by rw [← hW1]; exact Blk.new w1 34 _
  rw [hW1]
  have HBW1 : Hid (Keep N w W1) := HBW.out.trans (Keep.below hbW)
  have hG1 := HG0.out.below hbW HG0.out.lt
  have hT1 := own_below HT0.out hbW
  have hL1 := HL0.out.below hbW
  have hB1 := HB0.out.below hbW HB0.out.lt
  have p0 : W1.cell? ⟨w.heap.size, 0, none⟩ = some (.int .i64 K) := hB1.cell 0
  have p2 : W1.cell? ⟨w.heap.size, 2, none⟩ = some (.int .i64 B) := hB1.cell 2
  have pX : W1.cell? ⟨G, 1, none⟩ = some (.pointer (some ⟨X, 0, none⟩)) := hG1.cell 1
  have pS : W1.cell? ⟨G, 2, none⟩ = some (.slice sa tb.length sc) := hG1.cell 2
  have pR : W1.cell? ⟨G, 3, none⟩ = some (.int .i64 rm) := hG1.cell 3
  have pD : W1.cell? ⟨G, 0, none⟩ = some (.pointer (some ⟨p, 0, none⟩)) := hG1.cell 0
  have hpk1 := pick_eq K 10 W1 (by omega) wK
  obtain ⟨kk, hkk⟩ : ∃ kk, pickI K 10 = kk := ⟨_, rfl⟩
  rw [hkk] at hpk1 hk
  have HG1 : Hid (Blk W1 G 62 (gameC p X (.slice sa tb.length sc) rm)) := hG1
  have HT1 : Hid (TabV W1 0 (.slice sa tb.length sc) tb) := hT1
  have HL1 : Hid (LiveX W1 N p X n σ tb) := hL1
  have HB1 : Hid (Blk W1 w.heap.size 56 #[.int .i64 K, .int .i64 A, .int .i64 B]) := hB1
  have HB6 : Hid (Blk W1 w1.heap.size 34 (boxA (rectOf (tget (id : Int) tb)))) := B6
  have GL1 := hG1.lt
  clear hW1 hbW hG1 hT1 hL1 hB1 B6 hge hnum hpk q0 q1 q2 qS HG0 HT0 HL0 HB0 hb1 hkk
  subst hk
  have _ := wB
  have hop := live_open HL1.out
  go_wp2_with (first
    | (go_at_call 24; refine hpk1.mono ?_; rintro e w8 ⟨rfl, rfl⟩)
    | (go_at_call 21; refine hop.mono ?_; rintro e w3 ⟨X', rfl, hC3, σ3, hL3⟩; have g3 := hC3.blk HG1.out (by unfold own5; omega); have c1 : w3.cell? ⟨G, 1, none⟩ = some (.pointer (some ⟨X, 0, none⟩)) := g3.cell 1; have f1 : w3.frozen? ⟨G, 1, none⟩ = false := g3.frozen 1))
  go_ret
  have o2 : Off (fun k => k = G) w3 (w3.setCell ⟨G, 1, none⟩ (.pointer (some ⟨X', 0, none⟩))) := Off.one w3 _
  have t3 := hC3.row HT1.out (by unfold own5; omega)
  have hbw3 := HBW1.out.trans hC3.keep
  exact ⟨rfl, hbw3.trans (Keep.off o2 (fun k h => h ▸ hbG)), X', σ3, ⟨_, g3.set 1 _, own_offv t3 o2 (fun g hg e => own_ne t3 g3 (by decide) g hg e), hL3.off g3 (by unfold own5; omega) (by decide) (by decide) o2, hbG⟩⟩
end
section
theorem movr_any (w : World) (N : Nat → Prop) (G p X n : Nat) (σ : PS) (tb : List (Int × Box)) (h : GameX w N G p X n σ 0 tb) (K A B : Int) (wK : (Lit.int .i64 K).wf = true) (wA : (Lit.int .i64 A).wf = true) (wB : (Lit.int .i64 B).wf = true) :
    Calls Tryz.prog 16 #[.pointer (some ⟨G, 0, none⟩), .agg #[.int .i64 K, .int .i64 A, .int .i64 B]] w (MoveR w N G p n 0) := by
  have hp := pickI_lt K 10 (by omega)
  by_cases h4 : pickI K 10 < 4
  · exact movr_put w N G p X n σ tb h K A B wK wA wB ⟨hp.1, h4⟩
  · by_cases h6 : pickI K 10 < 6
    · exact movr_del w N G p X n σ tb h K A B wK wA wB ⟨by omega, h6⟩
    · by_cases h8 : pickI K 10 < 8
      · exact (movr_get w N G p X n σ 0 tb h K A B wK wA wB ⟨by omega, h8⟩).mono (fun _ _ h => h.r)
      · by_cases h9 : pickI K 10 = 8
        · exact (movr_win w N G p X n σ 0 tb h K A B wK wA wB h9).mono (fun _ _ h => h.r)
        · exact (movr_open w N G p X n σ 0 tb h K A B wK wA wB (by omega)).mono (fun _ _ h => h.r)
theorem movs_any (w : World) (N : Nat → Prop) (G p X n : Nat) (σ : PS) (tb : List (Int × Box)) (h : GameX w N G p X n σ (((n - 200) / 4 : Nat) : Int) tb) (hrm : tb.length ≤ (n - 200) / 4) (K A B : Int) (wK : (Lit.int .i64 K).wf = true) (wA : (Lit.int .i64 A).wf = true) (wB : (Lit.int .i64 B).wf = true) :
    Calls Tryz.prog 16 #[.pointer (some ⟨G, 0, none⟩), .agg #[.int .i64 K, .int .i64 A, .int .i64 B]] w fun e w' => e = .returned (.bool true) ∧ Keep N w w' ∧ ∃ X' σ' tb', GameX w' N G p X' n σ' (((n - 200) / 4 : Nat) : Int) tb' ∧ tb'.length ≤ (n - 200) / 4 := by
  have hp := pickI_lt K 10 (by omega)
  have one : ∀ c e w', MoveP w N G p n σ c e w' → e = .returned (.bool true) ∧ Keep N w w' ∧ ∃ X' σ' tb', GameX w' N G p X' n σ' (((n - 200) / 4 : Nat) : Int) tb' ∧ tb'.length ≤ (n - 200) / 4 := fun c e w' ⟨h1, h2, X', σ', tb', h3, h4, _⟩ => ⟨h1, h2, X', σ', tb', h3, h4⟩
  have two : ∀ e w', MoveT w N G p n (((n - 200) / 4 : Nat) : Int) tb e w' → e = .returned (.bool true) ∧ Keep N w w' ∧ ∃ X' σ' tb', GameX w' N G p X' n σ' (((n - 200) / 4 : Nat) : Int) tb' ∧ tb'.length ≤ (n - 200) / 4 := fun e w' ⟨h1, h2, X', σ', h3⟩ => ⟨h1, h2, X', σ', tb, h3, hrm⟩
  by_cases h4 : pickI K 10 < 4
  · exact (moves_put w N G p X n σ tb h hrm K A B wK wA wB ⟨hp.1, h4⟩).mono (one _)
  · by_cases h6 : pickI K 10 < 6
    · exact (moves_del w N G p X n σ tb h hrm K A B wK wA wB ⟨by omega, h6⟩).mono (one _)
    · by_cases h8 : pickI K 10 < 8
      · exact (movr_get w N G p X n σ _ tb h K A B wK wA wB ⟨by omega, h8⟩).mono two
      · by_cases h9 : pickI K 10 = 8
        · exact (movr_win w N G p X n σ _ tb h K A B wK wA wB h9).mono two
        · exact (movr_open w N G p X n σ _ tb h K A B wK wA wB (by omega)).mono two
end
section
structure MvR where
  k : Int
  a : Int
  b : Int
structure MAt (w : World) (so : Option Addr) (ls : Nat) (O : Nat → MvR) : Prop where
  at_ : ∀ i, i < ls → ∃ a, so = some a ∧ a.block < w.heap.size ∧ w.cell? (a.add (i * 3)) = some (.int .i64 (O i).k) ∧ w.cell? ⟨(a.add (i * 3)).block, (a.add (i * 3)).off + 1, none⟩ = some (.int .i64 (O i).a) ∧ w.cell? ⟨(a.add (i * 3)).block, (a.add (i * 3)).off + 2, none⟩ = some (.int .i64 (O i).b)
  wf : ∀ i, i < ls → (Lit.int .i64 (O i).k).wf = true ∧ (Lit.int .i64 (O i).a).wf = true ∧ (Lit.int .i64 (O i).b).wf = true
end
section
structure TuR where
  at_ : Int
  by_ : Int
  from_ : Int
  low : Bool
structure TAt (w : World) (so : Option Addr) (ls : Nat) (T : Nat → TuR) : Prop where
  at_ : ∀ i, i < ls → ∃ a, so = some a ∧ a.block < w.heap.size ∧ w.cell? (a.add (i * 4)) = some (.int .i64 (T i).at_) ∧ w.cell? ⟨(a.add (i * 4)).block, (a.add (i * 4)).off + 1, none⟩ = some (.int .i64 (T i).by_) ∧ w.cell? ⟨(a.add (i * 4)).block, (a.add (i * 4)).off + 2, none⟩ = some (.int .i64 (T i).from_) ∧ w.cell? ⟨(a.add (i * 4)).block, (a.add (i * 4)).off + 3, none⟩ = some (.bool (T i).low)
  wf : ∀ i, i < ls → (Lit.int .i64 (T i).at_).wf = true ∧ (Lit.int .i64 (T i).by_).wf = true ∧ (Lit.int .i64 (T i).from_).wf = true
theorem byte_of (x : Int) : ∃ u : UInt8, IntKind.u8.wrap x = (u.toNat : Int) := by
  refine ⟨UInt8.ofNat (IntKind.u8.wrap x).toNat, ?_⟩
  have h : 0 ≤ IntKind.u8.wrap x ∧ IntKind.u8.wrap x < 256 := by
    simp only [IntKind.wrap, IntKind.bits, IntKind.signed]
    simp
    omega
  rw [UInt8.toNat_ofNat']
  omega
theorem cap_ge (w : World) (s : ByteArray) : s.size ≤ grownCap w s.size 0 5 := grownCap_ge w s.size 0 5
set_option maxRecDepth 100000 in
set_option maxHeartbeats 8000000 in
theorem images_any (w : World) (c : Int) (hwc : (Lit.int .i64 c).wf = true) (so : Option Addr) (ls cs : Nat) (O : Nat → MvR) (hO : MAt w so ls O) (hls : ls ≤ 9223372036854775807) (ta : Option Addr) (lt ct : Nat) (T : Nat → TuR) (hT : TAt w ta lt T) (hlt : lt ≤ 9223372036854775807) (mo : Option Addr) (lm cm : Nat) (M : Nat → MvR) (hM : MAt w mo lm M) (hlm : lm ≤ 9223372036854775807) :
    Calls Tryz.prog 8 #[.int .i64 c, .slice so ls cs, .slice ta lt ct, .slice mo lm cm] w fun e w' => e = .returned (.bool true) ∧ Below w.heap.size w w' := by
  have hbg := begun_any w c hwc
  have HO : Hid (MAt w so ls O) := hO
  have HT : Hid (TAt w ta lt T) := hT
  have HM : Hid (MAt w mo lm M) := hM
  clear hO hT hM
  go_enter Tryz.func8, Tryz.ntmps8
  go_upto_region 2 with (go_at_call 15; refine hbg.mono ?_; rintro e w1 ⟨G, p, X, n, σ, rfl, hG1, hn, hb1, hj⟩)
  clear hj
  have HB1 : Hid (Below w.heap.size w w1) := hb1
  have HG1 : Hid (GameX w1 (fun k => k < w.heap.size) G p X n σ (((n - 200) / 4 : Nat) : Int) [(5, ⟨3, 4, 9, 9⟩)]) := hG1
  clear hbg hb1 hG1
  go_upto_block 0 with fail
  go_cut [] (fun wx => ∃ (X : Nat) (σ : PS) (tb : List (Int × Box)), GameX wx (fun k => k < w.heap.size) G p X n σ (((n - 200) / 4 : Nat) : Int) tb ∧ Below w.heap.size w wx)
  case first =>
    as_aux_lemma =>
    go_wp2
    go_loopw [10] (fun x wr => ∃ (i X : Nat) (σ : PS) (tb : List (Int × Box)), x = .int .i64 (i : Int) ∧ i ≤ ls ∧ GameX wr (fun k => k < w.heap.size) G p X n σ (((n - 200) / 4 : Nat) : Int) tb ∧ tb.length ≤ (n - 200) / 4 ∧ Below w.heap.size w wr) (fun x _ => ls - (intOf x).toNat)
    case atStart => exact ⟨0, X, σ, _, rfl, Nat.zero_le _, HG1.out, by simp; omega, HB1.out⟩
    case round =>
      obtain ⟨i, X, σ, tb, rfl, hi, hG, hrm, hb⟩ := hrel
      have HB : Hid (Below w.heap.size w wr) := hb
      have HGX : Hid (GameX wr (fun k => k < w.heap.size) G p X n σ (((n - 200) / 4 : Nat) : Int) tb) := hG
      clear HB1 HG1
      by_cases hlt1 : i < ls
      · have hlt' : (i : Int) < (ls : Int) := by omega
        obtain ⟨a, rfl, hab, q0, q1, q2⟩ := HO.out.at_ i hlt1
        obtain ⟨v0, v1, v2⟩ := HO.out.wf i hlt1
        have hbk : (a.add (i * 3)).block = a.block := by unfold Addr.add; split <;> rfl
        have r0 : wr.cell? (a.add (i * 3)) = some (.int .i64 (O i).k) := (hb.cell (p := a.add (i * 3)) (by rw [hbk]; exact hab)).trans q0
        have r1 : wr.cell? ⟨(a.add (i * 3)).block, (a.add (i * 3)).off + 1, none⟩ = some (.int .i64 (O i).a) := (hb.cell (p := ⟨(a.add (i * 3)).block, (a.add (i * 3)).off + 1, none⟩) (by show (a.add (i * 3)).block < _; rw [hbk]; exact hab)).trans q1
        have r2 : wr.cell? ⟨(a.add (i * 3)).block, (a.add (i * 3)).off + 2, none⟩ = some (.int .i64 (O i).b) := (hb.cell (p := ⟨(a.add (i * 3)).block, (a.add (i * 3)).off + 2, none⟩) (by show (a.add (i * 3)).block < _; rw [hbk]; exact hab)).trans q2
        have hmv := movs_any wr (fun k => k < w.heap.size) G p X n σ tb hG hrm (O i).k (O i).a (O i).b v0 v1 v2
        clear hbk q0 q1 q2 v0 v1 v2 hG hb
        go_wp2_with (go_at_call 16; refine hmv.mono ?_; rintro e w3 ⟨rfl, hb3, X', σ', tb', hG3, hrm3⟩)
        exact ⟨⟨i + 1, X', σ', tb', by go_num, by omega, hG3, hrm3, HB.out.trans (hb3.lows HB.out.size)⟩, by simp [intOf]; omega⟩
      · have hlt' : ¬ (i : Int) < (ls : Int) := by omega
        clear hG hb
        go_wp2
        go_meet
        exact ⟨X, σ, tb, HGX.out, HB.out⟩
  case rest =>
  as_aux_lemma =>
  obtain ⟨X2, σ2, tb2, ⟨sv, g2, t2, hL2, hbG⟩, hb2⟩ := hcut
  obtain ⟨W2, rfl⟩ : ∃ W2, W2 = wc := ⟨_, rfl⟩
  have him := live_image hL2
  have c0 : W2.cell? ⟨G, 0, none⟩ = some (.pointer (some ⟨p, 0, none⟩)) := g2.cell 0
  have HB2 : Hid (Below w.heap.size w W2) := hb2
  clear g2 t2 hL2 hb2 HB1 HG1 hbG HO
  go_upto_region 11 with (go_at_call 18; refine him.mono ?_; rintro e w3 ⟨img, rfl, hb3, hI⟩)
  have hsz := hI.1
  have HN1 : Hid (256 ≤ n ∧ n ≤ 4096 ∧ img.size = n * 256) := ⟨hI.2.1, hI.2.2.1, hI.1⟩
  have hcv := Go.Lib.run_convert_string_bytes (P := Tryz.prog) w3 9 81 5 img Tryz.underlying9 Tryz.underlying81 Tryz.underlying5
  obtain ⟨V, hV⟩ : ∃ V, bytesWorld w3 5 img = V := ⟨_, rfl⟩
  obtain ⟨cp, hcp⟩ : ∃ cp, grownCap w3 img.size 0 5 = cp := ⟨_, rfl⟩
  have HBA := ByA.new w3 img
  rw [hV, hsz] at HBA
  rw [hV, hcp] at hcv
  rw [hsz] at hcv
  have HBV : Hid (Below w.heap.size w V) := (HB2.out.trans (hb3.mono HB2.out.size)).trans (HBA.2.mono (HB2.out.trans (hb3.mono HB2.out.size)).size)
  have HAV : Hid (ByA V w3.heap.size (n * 256)) := HBA.1
  have HG : Hid (w.heap.size ≤ w3.heap.size) := (HB2.out.trans (hb3.mono HB2.out.size)).size
  have hcpm : n * 256 ≤ cp := by
    have h := bytesWorld_at_new w3 5 img
    have h2 := HAV.out
    rw [← hcp, ← hsz]
    exact cap_ge w3 img
  obtain ⟨m, hm⟩ : ∃ m, n * 256 = m := ⟨_, rfl⟩
  rw [hm] at hcv HAV hcpm
  have HM1 : Hid (n * 256 = m) := hm
  have hm1 : 65536 ≤ m ∧ m ≤ 1048576 := by have := HN1.out; omega
  clear him c0 hI hV hcp HBA hm hsz hb3
  go_upto_block 2 with fail
  go_cut [] (fun wx => ByA wx w3.heap.size m ∧ Below w.heap.size w wx)
  case first =>
    as_aux_lemma =>
    clear hcv
    go_wp2
    go_loopw [15] (fun x wr => ∃ i : Nat, x = .int .i64 (i : Int) ∧ i ≤ lt ∧ ByA wr w3.heap.size m ∧ Below w.heap.size w wr) (fun x _ => lt - (intOf x).toNat)
    case atStart => exact ⟨0, rfl, Nat.zero_le _, HAV.out, HBV.out⟩
    case round =>
      obtain ⟨i, rfl, hi, hA, hb⟩ := hrel
      have HA : Hid (ByA wr w3.heap.size m) := hA
      have HB : Hid (Below w.heap.size w wr) := hb
      clear HAV HBV hA
      by_cases hlt1 : i < lt
      rotate_left
      · have hlt' : ¬ (i : Int) < (lt : Int) := by omega
        clear hb
        go_wp2
        go_meet
        exact ⟨HA.out, HB.out⟩
      have hlt' : (i : Int) < (lt : Int) := by omega
      obtain ⟨a, rfl, hab, q0, q1, q2, q3⟩ := HT.out.at_ i hlt1
      obtain ⟨v0, v1, v2⟩ := HT.out.wf i hlt1
      have hbk : (a.add (i * 4)).block = a.block := by unfold Addr.add; split <;> rfl
      have kk : ∀ o, wr.cell? ⟨(a.add (i * 4)).block, o, none⟩ = w.cell? ⟨(a.add (i * 4)).block, o, none⟩ := fun o => hb.cell (p := ⟨(a.add (i * 4)).block, o, none⟩) (by show (a.add (i * 4)).block < _; rw [hbk]; exact hab)
      obtain ⟨tA, htA⟩ : ∃ x, (T i).at_ = x := ⟨_, rfl⟩
      obtain ⟨tB, htB⟩ : ∃ x, (T i).by_ = x := ⟨_, rfl⟩
      obtain ⟨tF, htF⟩ : ∃ x, (T i).from_ = x := ⟨_, rfl⟩
      obtain ⟨lo, hlo⟩ : ∃ x, (T i).low = x := ⟨_, rfl⟩
      rw [htA] at q0 v0
      rw [htB] at q1 v1
      rw [htF] at q2 v2
      rw [hlo] at q3
      have r0 : wr.cell? (a.add (i * 4)) = some (.int .i64 tA) := (hb.cell (p := a.add (i * 4)) (by rw [hbk]; exact hab)).trans q0
      have r1 : wr.cell? ⟨(a.add (i * 4)).block, (a.add (i * 4)).off + 1, none⟩ = some (.int .i64 tB) := (kk _).trans q1
      have r2 : wr.cell? ⟨(a.add (i * 4)).block, (a.add (i * 4)).off + 2, none⟩ = some (.int .i64 tF) := (kk _).trans q2
      have r3 : wr.cell? ⟨(a.add (i * 4)).block, (a.add (i * 4)).off + 3, none⟩ = some (.bool lo) := (kk _).trans q3
      obtain ⟨W4, hW4⟩ : ∃ W4, wr.alloc (.cells #[.int .i64 tA, .int .i64 tB, .int .i64 tF, .bool lo] 83) = W4 := ⟨_, rfl⟩
      have hb4 : Below wr.heap.size wr W4 := by rw [← hW4]; exact (Below.refl _ wr).alloc (Nat.le_refl _) _
      have B4 : Blk W4 wr.heap.size 83 #[.int .i64 tA, .int .i64 tB, .int .i64 tF, .bool lo] := by rw [← hW4]; exact Blk.new wr 83 _
      have HA4 : Hid (ByA W4 w3.heap.size m) := HA.out.below hb4
      have HB4 : Hid (Below w.heap.size w W4) := HB.out.trans (hb4.mono HB.out.size)
      have s0 : W4.cell? ⟨wr.heap.size, 0, none⟩ = some (.int .i64 tA) := B4.cell 0
      have s1 : W4.cell? ⟨wr.heap.size, 1, none⟩ = some (.int .i64 tB) := B4.cell 1
      have s2 : W4.cell? ⟨wr.heap.size, 2, none⟩ = some (.int .i64 tF) := B4.cell 2
      have s3 : W4.cell? ⟨wr.heap.size, 3, none⟩ = some (.bool lo) := B4.cell 3
      have HW4 : Hid (wr.alloc (.cells #[.int .i64 tA, .int .i64 tB, .int .i64 tF, .bool lo] 83) = W4) := hW4
      have hpk := pick_eq tA (m : Int) W4 (by omega) v0
      have hpk2 := pick_eq tA 7680 W4 (by omega) v0
      have hp1 := pickI_lt tA (m : Int) (by omega)
      have hp2 := pickI_lt tA 7680 (by omega)
      obtain ⟨a1, ha1⟩ : ∃ x, pickI tA (m : Int) = x := ⟨_, rfl⟩
      obtain ⟨a2, ha2⟩ : ∃ x, pickI tA 7680 = x := ⟨_, rfl⟩
      rw [ha1] at hpk hp1
      rw [ha2] at hpk2 hp2
      clear hW4 hb4 B4 HA HB hb hbk kk q0 q1 q2 q3 htA htB htF hlo ha1 ha2 hab
      go_upto_region 16 with fail
      rw [HW4.out]
      clear HW4 r0 r1 r2 r3
      go_upto_if 72 with (go_at_call 24; refine hpk.mono ?_; rintro e w9 ⟨rfl, rfl⟩)
      go_cut [17] (fun s17 wx => ∃ a0 : Nat, s17 = .int .i64 (a0 : Int) ∧ a0 < m ∧ w9 = wx)
      case first =>
        cases lo with
        | true =>
          go_wp2_with (go_at_call 24; refine hpk2.mono ?_; rintro e w8 ⟨rfl, hw8⟩)
          go_meet
          exact ⟨a2.toNat, by rw [Int.toNat_of_nonneg hp2.1], by omega, rfl⟩
        | false =>
          go_wp2
          go_meet
          exact ⟨a1.toNat, by rw [Int.toNat_of_nonneg hp1.1], by omega, rfl⟩
      case rest =>
        obtain ⟨a0, rfl, ha0, rfl⟩ := hcut
        clear hpk hpk2 hp1 hp2
        have ha0' : (a0 : Int) < (m : Int) := by omega
        obtain ⟨u0, cA⟩ := HA4.out.cell a0 ha0
        have fA := (HA4.out.there a0 ha0).2
        rw [Nat.zero_add] at fA
        by_cases hby : tB = 0
        rotate_left
        · have hby' : (tB != 0) = true := by simpa using hby
          obtain ⟨u, hu⟩ := byte_of tB
          have HU : Hid (∃ u : UInt8, IntKind.u8.wrap tB = (u.toNat : Int)) := ⟨u, hu⟩
          clear hu
          go_wp2
          obtain ⟨u, hu⟩ := HU.out
          obtain ⟨hA5, o5⟩ := HA4.out.puts a0 [.int .u8 (IntKind.u8.wrap tB)] (fun v hv => by simp at hv; exact ⟨u, by rw [hv, hu]⟩) (by simp; omega)
          exact ⟨⟨i + 1, by go_num, by omega, hA5, HB4.out.trans (o5.below HB4.out.size (fun k hk => by have := HG.out; omega))⟩, by simp [intOf]; omega⟩
        have hpk3 := pick_eq tF (n : Int) w9 (by have := HN1.out; omega) v2
        have hp3 := pickI_lt tF (n : Int) (by have := HN1.out; omega)
        obtain ⟨f1, hf1⟩ : ∃ x, pickI tF (n : Int) = x := ⟨_, rfl⟩
        rw [hf1] at hpk3 hp3
        obtain ⟨f0, rfl⟩ : ∃ f0 : Nat, f1 = (f0 : Int) := ⟨f1.toNat, by rw [Int.toNat_of_nonneg hp3.1]⟩
        have hq : (m : Int) / 256 = (n : Int) := by have := HM1.out; omega
        have hby' : (tB != 0) = false := by simpa using hby
        obtain ⟨b0, hb0⟩ : ∃ b0, a0 / 256 = b0 := ⟨_, rfl⟩
        have hq2 : (a0 : Int) / 256 = (b0 : Int) := by omega
        have hm4 : f0 * 256 + 256 ≤ m := by have := HM1.out; omega
        have hm5 : b0 * 256 + 256 ≤ m := by have := HM1.out; omega
        have hlen4 : (f0 : Int) < 4096 := by have := HN1.out; omega
        have hlen5 : (b0 : Int) < 4096 := by have := HN1.out; omega
        clear hb0 hf1 hby cA fA
        go_upto_region 23 with (go_at_call 24; refine hpk3.mono ?_; rintro e w8 ⟨rfl, rfl⟩)
        obtain ⟨bt, hbt⟩ : ∃ bt, b0 * 256 = bt := ⟨_, rfl⟩
        obtain ⟨ft, hft⟩ : ∃ ft, f0 * 256 = ft := ⟨_, rfl⟩
        have eb : (b0 : Int) * 256 = (bt : Int) := by omega
        have ef : (f0 : Int) * 256 = (ft : Int) := by omega
        rw [eb, ef]
        have hbm : bt + 256 ≤ m := by omega
        have hfm : ft + 256 ≤ m := by omega
        have hims : img.size = m := by have := HN1.out; have := HM1.out; omega
        have hw1 : IntKind.i64.wrap ((bt : Int) + 256) = (bt : Int) + 256 := IntWalk.i64_in _ (by omega)
        have hw2 : IntKind.i64.wrap ((ft : Int) + 256) = (ft : Int) + 256 := IntWalk.i64_in _ (by omega)
        have hsl : ∀ W, (Instr.slice 81 (.slice (some ⟨w3.heap.size, 0, none⟩) m cp) (some (.int .i64 (bt : Int))) (some (.int .i64 ((bt : Int) + 256))) none).run Tryz.prog W = .ok (.slice (some ⟨w3.heap.size, bt, none⟩) 256 (cp - bt)) W := fun W => by
          have h := run_slice_window (P := Tryz.prog) W 81 5 Tryz.underlying81 sizeOf5 w3.heap.size 0 m cp bt (bt + 256) (by omega) (by omega)
          rw [Nat.zero_add, show bt + 256 - bt = 256 by omega] at h
          exact h
        have hf1 : (ft : Int) + 256 ≤ (m : Int) := by omega
        have hf2 : (0 : Int) ≤ (ft : Int) + 256 := by omega
        have hf3 : (ft : Int) ≤ (ft : Int) + 256 := by omega
        clear hpk3 hp3 hq hq2 hm4 hm5 hlen4 hlen5 hbt hft eb ef
        have HLE : Hid (256 ≤ (img.extract ft ((ft : Int) + 256).toNat).size) := by
          show 256 ≤ (img.extract ft ((ft : Int) + 256).toNat).size
          rw [ByteArray.size_extract, hims]
          omega
        obtain ⟨sx, hsx⟩ : ∃ sx : ByteArray, (img.extract ft ((ft : Int) + 256).toNat).extract 0 256 = sx := ⟨_, rfl⟩
        have HSZ : Hid (sx.size ≤ 256) := by
          show sx.size ≤ 256
          rw [← hsx, ByteArray.size_extract]
          omega
        have HSX : Hid ((img.extract ft ((ft : Int) + 256).toNat).extract 0 256 = sx) := hsx
        clear hsx
        have HBM : Hid (bt + 256 ≤ m) := hbm
        clear hbm hfm
        have hmx : Tryz.prog.follows .mixedOrders = true := by kernel_rfl
        go_region_held3 (fun _ => True) (trivial) ((refine step_copy_long rfl (.tmp 99) (.tmp 104) 81 9 rfl 5 Tryz.underlying81 sizeOf5 w3.heap.size bt 256 (cp - bt) (by rfl) (img.extract ft ((ft : Int) + 256).toNat) (by rfl) HLE.out (ByA.part HA4.out HBM.out) ?_; rw [HSX.out]))
        all_goals
          go_wp2
          have hbd : Below w8.heap.size w8 w8.drew := (Below.refl _ w8).drew
          obtain ⟨hA5, o5⟩ := (HA4.out.below hbd).puts bt (strCells sx) (strCells_bytes _) (by rw [strCells_length]; have := HBM.out; have := HSZ.out; omega)
          exact ⟨⟨i + 1, by go_num, by omega, hA5, (HB4.out.trans (hbd.mono HB4.out.size)).trans (o5.below HB4.out.size (fun k hk => by have := HG.out; omega))⟩, by simp [intOf]; omega⟩
  case rest =>
  as_aux_lemma =>
  obtain ⟨hA, hb⟩ := hcut
  obtain ⟨W5, rfl⟩ : ∃ W5, W5 = wc := ⟨_, rfl⟩
  obtain ⟨l, hl, hcl⟩ := hA.list
  have hcb := run_convert_bytes_back (P := Tryz.prog) W5 81 9 5 ⟨w3.heap.size, 0, none⟩ cp l Tryz.underlying81 Tryz.underlying5 Tryz.underlying9 hcl
  obtain ⟨bs, hbs⟩ : ∃ bs : ByteArray, (⟨l.toArray⟩ : ByteArray) = bs := ⟨_, rfl⟩
  have hbz : bs.size = n * 256 := by
    rw [← hbs, HM1.out, ← hl]
    show l.toArray.size = l.length
    simp
  rw [hl, hbs] at hcb
  have hld := qload_ok W5 bs n hbz HN1.out.1 HN1.out.2.1
  have HB5 : Hid (Below w.heap.size w W5) := hb
  clear hA hb hcl hl hbs hbz hcv HAV HBV
  go_upto_region 25 with (go_at_call 19; refine hld.mono ?_; rintro e w6 ⟨A, rfl, hP, hb6⟩)
  have hs5 := HB5.out.size
  have hs6 := hb6.size
  have hop := open_any (N := fun k => k < w.heap.size) hP.base0 ⟨rfl, rfl⟩ ⟨fun k hk h => by have := hP.les k hk; omega, fun k hk => by omega⟩
  have HB6 : Hid (Below w.heap.size w w6) := HB5.out.trans (hb6.mono hs5)
  clear hld hcb hP hb6 HB5
  go_upto_region 28 with (go_at_call 21; refine hop.mono ?_; rintro e w7 ⟨pv, er, rfl, hC7, hcase⟩)
  have HB7 : Hid (Below w.heap.size w w7) := HB6.out.trans (hC7.keep.lows HB6.out.size)
  clear hop hC7
  rcases hcase with ⟨X', σ', tb, rfl, rfl, hL⟩ | ⟨rfl, rfl⟩
  rotate_left
  · go_wp2
    go_ret
    exact ⟨rfl, HB7.out⟩
  obtain ⟨V7, hV7⟩ : ∃ V7, w7.alloc (.cells #[.pointer (some ⟨A.p, 0, none⟩), .pointer (some ⟨X', 0, none⟩), .slice none 0 0, .int .i64 0] 62) = V7 := ⟨_, rfl⟩
  have hbV : Below w7.heap.size w7 V7 := by rw [← hV7]; exact (Below.refl _ w7).alloc (Nat.le_refl _) _
  have G7 : Blk V7 w7.heap.size 62 (gameC A.p X' (.slice none 0 0) 0) := by rw [← hV7]; exact Blk.new w7 62 _
  have hs7 := HB7.out.size
  have hli := listed_any V7 (fun k => k < w.heap.size) w7.heap.size A.p X' n σ' (.slice none 0 0) 0 tb G7 (LiveX.below hL hbV) (by omega)
  have HB8 : Hid (Below w.heap.size w V7) := HB7.out.trans (hbV.mono hs7)
  have HV7 : Hid (w7.alloc (.cells #[.pointer (some ⟨A.p, 0, none⟩), .pointer (some ⟨X', 0, none⟩), .slice none 0 0, .int .i64 0] 62) = V7) := hV7
  clear hV7 hbV G7 hL HB7 HB6
  go_upto_region 31 with fail
  rw [HV7.out]
  clear HV7
  go_upto_region 32 with (go_at_call 28; refine hli.mono ?_; rintro e w8 ⟨rfl, hK8, σ8, hG8⟩)
  have HB9 : Hid (Below w.heap.size w w8) := HB8.out.trans (hK8.lows HB8.out.size)
  have HG9 : Hid (GameX w8 (fun k => k < w.heap.size) w7.heap.size A.p X' n σ8 0 tb) := hG8
  clear hli hK8 hG8 HB8
  go_wp2
  go_loopw [26] (fun x wr => ∃ (i X : Nat) (σ : PS) (tb : List (Int × Box)), x = .int .i64 (i : Int) ∧ i ≤ lm ∧ GameX wr (fun k => k < w.heap.size) w7.heap.size A.p X n σ 0 tb ∧ Below w.heap.size w wr) (fun x _ => lm - (intOf x).toNat)
  case atStart => exact ⟨0, X', σ8, tb, rfl, Nat.zero_le _, HG9.out, HB9.out⟩
  case round =>
    obtain ⟨i, X, σ, tb, rfl, hi, hG, hb⟩ := hrel
    have HB : Hid (Below w.heap.size w wr) := hb
    have HGX : Hid (GameX wr (fun k => k < w.heap.size) w7.heap.size A.p X n σ 0 tb) := hG
    clear HB9 HG9
    by_cases hlt1 : i < lm
    · have hlt' : (i : Int) < (lm : Int) := by omega
      obtain ⟨a, rfl, hab, q0, q1, q2⟩ := HM.out.at_ i hlt1
      obtain ⟨v0, v1, v2⟩ := HM.out.wf i hlt1
      have hbk : (a.add (i * 3)).block = a.block := by unfold Addr.add; split <;> rfl
      have r0 : wr.cell? (a.add (i * 3)) = some (.int .i64 (M i).k) := (hb.cell (p := a.add (i * 3)) (by rw [hbk]; exact hab)).trans q0
      have r1 : wr.cell? ⟨(a.add (i * 3)).block, (a.add (i * 3)).off + 1, none⟩ = some (.int .i64 (M i).a) := (hb.cell (p := ⟨(a.add (i * 3)).block, (a.add (i * 3)).off + 1, none⟩) (by show (a.add (i * 3)).block < _; rw [hbk]; exact hab)).trans q1
      have r2 : wr.cell? ⟨(a.add (i * 3)).block, (a.add (i * 3)).off + 2, none⟩ = some (.int .i64 (M i).b) := (hb.cell (p := ⟨(a.add (i * 3)).block, (a.add (i * 3)).off + 2, none⟩) (by show (a.add (i * 3)).block < _; rw [hbk]; exact hab)).trans q2
      have hmv := movr_any wr (fun k => k < w.heap.size) w7.heap.size A.p X n σ tb hG (M i).k (M i).a (M i).b v0 v1 v2
      clear hbk q0 q1 q2 v0 v1 v2 hG hb
      go_wp2_with (go_at_call 16; refine hmv.mono ?_; rintro e w9 ⟨rfl, hb9, X', σ', tb', hG9⟩)
      exact ⟨⟨i + 1, X', σ', tb', by go_num, by omega, hG9, HB.out.trans (hb9.lows HB.out.size)⟩, by simp [intOf]; omega⟩
    · have hlt' : ¬ (i : Int) < (lm : Int) := by omega
      obtain ⟨sv, g1, t1, _⟩ := hG
      obtain ⟨sa, sc, rfl, _, _, _⟩ := own_shape t1
      have cS : wr.cell? ⟨w7.heap.size, 2, none⟩ = some (.slice sa tb.length sc) := g1.cell 2
      have hal := alike_any wr (fun k => k < w.heap.size) w7.heap.size A.p X n σ 0 tb HGX.out (.slice sa tb.length sc) t1
      clear hb g1 t1
      go_wp2_with (go_at_call 17; refine hal.mono ?_; rintro e w9 ⟨rfl, hC9, σ9, hG9⟩)
      go_ret
      exact ⟨rfl, HB.out.trans (hC9.keep.lows HB.out.size)⟩
end
end Go.Proofs.YtdgbgmffpcooeaaGreat
