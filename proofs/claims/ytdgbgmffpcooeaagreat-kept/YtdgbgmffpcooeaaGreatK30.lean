/- Gr1 En1 Se2 Se3 Mk1 Se4 -/
import Derived.Test.YtdgbgmffpcooeaaGreatK14
import Derived.Test.YtdgbgmffpcooeaaGreatK29
import Derived.Test.YtdgbgmffpcooeaaGreatK13
import Derived.Scope
import Derived.Sort.LoopGhostIn
section
/- Cells of the grid, their places, and the first one that meets a window. -/
namespace Go.Proofs.YtdgbgmffpcooeaaGreat
open Go.RowKit Go.Lib
abbrev cellV (c : Nat × Nat) : Value := .agg #[.int .i64 (c.1 : Int), .int .i64 (c.2 : Int)]
set_option maxRecDepth 100000 in
set_option maxHeartbeats 1000000 in
theorem place_any (w : World) (c : Nat × Nat) (h : CellOk c) :
    Calls Tryz.prog 122 #[cellV c] w fun e w' => e = .returned (.int .i64 (place c : Int)) ∧ Below w.heap.size w w' := by
  have h1 := h.size
  have h2 : c.1 < 4294967296 := h.top
  have hb : Below w.heap.size w (w.alloc (.cells #[.int .i64 (c.1 : Int), .int .i64 (c.2 : Int)] 99)) := (Below.refl _ w).alloc (Nat.le_refl _) _
  obtain ⟨a, b⟩ := c
  simp only at h1 h2 hb
  have HB : Hid _ := hb
  clear h hb
  go_enter Tryz.func122, Tryz.ntmps122
  go_wp2
  go_ret
  refine ⟨?_, HB.out⟩
  show Ending.returned (.int .i64 ((a : Int) * 17 + 16 - (b : Int))) = _
  rw [show (a : Int) * 17 + 16 - (b : Int) = ((place (a, b) : Nat) : Int) by unfold place; simp only; omega]
set_option maxRecDepth 100000 in
set_option maxHeartbeats 1000000 in
theorem cellAt_any (w : World) (p : Nat) (h : p < 73014444032) :
    Calls Tryz.prog 89 #[.int .i64 (p : Int)] w fun e w' => e = .returned (cellV (cellAt p)) ∧ Below w.heap.size w w' := by
  go_enter Tryz.func89, Tryz.ntmps89
  go_wp2
  have e1 : (p : Int) / 17 = ((p / 17 : Nat) : Int) := by omega
  have e2 : 16 - (p : Int) % 17 = ((16 - p % 17 : Nat) : Int) := by omega
  rw [e1, e2]
  refine bodyPost_ret (v := cellV (cellAt p)) (by simp [results, Tryz.results89, go_sem, cellAt]) rfl ?_
  exact ⟨rfl, (Below.refl _ w).alloc (Nat.le_refl _) _⟩
set_option maxRecDepth 100000 in
set_option maxHeartbeats 1000000 in
theorem end_any (w : World) (c : Nat × Nat) (h : CellOk c) :
    Calls Tryz.prog 92 #[cellV c] w fun e w' => e = .returned (.int .i64 (cend c : Int)) ∧ Below w.heap.size w w' := by
  have h1 := h.size
  have h2 : c.1 < 4294967296 := h.top
  obtain ⟨a, b⟩ := c
  simp only at h1 h2
  have hpw : (2 : Int) ^ (2 * b) = ((4 ^ b : Nat) : Int) := by rw [pow_cast]; congr 1; rw [show 4 = 2 ^ 2 from rfl, ← Nat.pow_mul]
  have hp4 : 4 ^ b ≤ 4294967296 := Nat.pow_le_pow_right (n := 4) (by decide) (show b ≤ 16 from h1)
  have hce : cend (a, b) = a + 4 ^ b := rfl
  rw [hce]
  generalize 4 ^ b = q at hpw hp4
  have e1 : wrap64 (2 ^ (2 * b)) = (q : Int) := by rw [hpw]; unfold wrap64; omega
  have e2 : wrap64 ((a : Int) + (q : Int)) = ((a + q : Nat) : Int) := by unfold wrap64; omega
  clear hce
  have B := Blk.new w 99 #[.int .i64 (a : Int), .int .i64 (b : Int)]
  have c0 : (w.alloc (.cells #[.int .i64 (a : Int), .int .i64 (b : Int)] 99)).cell? ⟨w.heap.size, 0, none⟩ = some (.int .i64 (a : Int)) := B.cell 0
  have c1 : (w.alloc (.cells #[.int .i64 (a : Int), .int .i64 (b : Int)] 99)).cell? ⟨w.heap.size, 1, none⟩ = some (.int .i64 (b : Int)) := B.cell 1
  have hb : Below w.heap.size w (w.alloc (.cells #[.int .i64 (a : Int), .int .i64 (b : Int)] 99)) := (Below.refl _ w).alloc (Nat.le_refl _) _
  clear h B
  go_enter Tryz.func92, Tryz.ntmps92
  go_upto_region 1 with fail
  go_quiet (fail)
  go_wp2
  go_ret
  exact ⟨by show Ending.returned (.int .i64 ((a : Int) + (q : Int))) = _; rw [Int.natCast_add], below_drewN hb nq⟩
set_option maxRecDepth 100000 in
set_option maxHeartbeats 1000000 in
theorem around_any (w : World) (c k : Nat) (hk : k ≤ 16) (hc : c < 4294967296) :
    Calls Tryz.prog 119 #[.int .i64 (c : Int), .int .i64 (k : Int)] w fun e w' => e = .returned (cellV (around c k)) ∧ Below w.heap.size w w' := by
  go_enter Tryz.func119, Tryz.ntmps119
  go_wp2
  have hq : c / 4 ^ k * 4 ^ k ≤ c := Nat.div_mul_le_self _ _
  have e1 : wrap64 ((c : Int) / 2 ^ (2 * k) * 2 ^ (2 * k)) = ((c / 4 ^ k * 4 ^ k : Nat) : Int) := by
    rw [shr_of c k]; exact shl_of (c / 4 ^ k) k _ rfl (by omega)
  rw [e1]
  refine bodyPost_ret (v := cellV (around c k)) (by simp [results, Tryz.results119, go_sem, around]) rfl ?_
  exact ⟨rfl, (Below.refl _ w).alloc (Nat.le_refl _) _⟩
set_option maxRecDepth 100000 in
set_option maxHeartbeats 1000000 in
theorem gmeet_any (w : World) (s r : Box) :
    Calls Tryz.prog 90 #[.agg #[.int .i64 s.a, .int .i64 s.b, .int .i64 s.c, .int .i64 s.d], .agg #[.int .i64 r.a, .int .i64 r.b, .int .i64 r.c, .int .i64 r.d]] w fun e w' => ∃ f, e = .returned (.bool f) ∧ (f = true ↔ (both s r).ok) ∧ Below w.heap.size w w' := by
  obtain ⟨m1, m2, m3, m4, f, hcom, hyes, hno⟩ := common_some s r
  have hb : Below w.heap.size w ((w.alloc (.cells #[.int .i64 s.a, .int .i64 s.b, .int .i64 s.c, .int .i64 s.d] 34)).alloc (.cells #[.int .i64 r.a, .int .i64 r.b, .int .i64 r.c, .int .i64 r.d] 34)) := ((Below.refl _ w).alloc (Nat.le_refl _) _).alloc (by simp) _
  have HF : Hid (f = true ↔ (both s r).ok) := by
    show _ ↔ _
    cases f with
    | true => exact ⟨fun _ => (hyes rfl).1, fun _ => rfl⟩
    | false => exact ⟨fun h => (by cases h), fun h => absurd h (hno rfl)⟩
  have HB : Hid _ := hb
  clear hyes hno hb
  go_enter Tryz.func90, Tryz.ntmps90
  go_wp2_with (go_at_call 123; refine (hcom _).mono ?_; rintro e w1 ⟨rfl, hb1⟩)
  go_ret
  have h1 := HB.out.trans (hb1.mono HB.out.size)
  exact ⟨f, rfl, HF.out, h1.alloc h1.size _⟩
set_option maxRecDepth 100000 in
set_option maxHeartbeats 1000000 in
theorem ckey_any (w : World) (c : Nat × Nat) (h : CellOk c) (id : Int) :
    Calls Tryz.prog 88 #[cellV c, .int .i64 id] w fun e w' => e = .returned (.agg #[.int .i64 (place c : Int), .int .i64 id]) ∧ Below w.heap.size w w' := by
  have hb : Below w.heap.size w ((w.alloc (.cells #[.int .i64 (c.1 : Int), .int .i64 (c.2 : Int)] 99)).alloc (.cells #[.int .i64 0, .int .i64 0] 154)) := ((Below.refl _ w).alloc (Nat.le_refl _) _).alloc (by simp) _
  have B := Blk.new (w.alloc (.cells #[.int .i64 (c.1 : Int), .int .i64 (c.2 : Int)] 99)) 154 #[.int .i64 0, .int .i64 0]
  rw [World.size_alloc] at B
  have hpl := place_any ((w.alloc (.cells #[.int .i64 (c.1 : Int), .int .i64 (c.2 : Int)] 99)).alloc (.cells #[.int .i64 0, .int .i64 0] 154)) c h
  have HB : Hid _ := hb
  have HBB : Hid (Blk ((w.alloc (.cells #[.int .i64 (c.1 : Int), .int .i64 (c.2 : Int)] 99)).alloc (.cells #[.int .i64 0, .int .i64 0] 154)) (w.heap.size + 1) 154 #[.int .i64 0, .int .i64 0]) := B
  clear hb h B
  generalize place c = p at hpl
  go_enter Tryz.func88, Tryz.ntmps88
  go_wp2_with (go_at_call 122; refine hpl.mono ?_; rintro e w1 ⟨rfl, hb1⟩; have B1 : Blk w1 (w.heap.size + 1) 154 #[.int .i64 0, .int .i64 0] := HBB.out.below hb1 HBB.out.lt; have d0 : w1.cell? ⟨w.heap.size + 1, 0, none⟩ = some (.int .i64 0) := B1.cell 0; have d1 : w1.cell? ⟨w.heap.size + 1, 1, none⟩ = some (.int .i64 0) := B1.cell 1; have f0 : w1.frozen? ⟨w.heap.size + 1, 0, none⟩ = false := B1.frozen 0; have f1 : w1.frozen? ⟨w.heap.size + 1, 1, none⟩ = false := B1.frozen 1)
  have B2 : Blk ((w1.setCell ⟨w.heap.size + 1, 0, none⟩ (.int .i64 (p : Int))).setCell ⟨w.heap.size + 1, 1, none⟩ (.int .i64 id)) (w.heap.size + 1) 154 #[.int .i64 (p : Int), .int .i64 id] := (B1.set 0 _).set 1 _
  have g0 := B2.cell 0
  have g1 := B2.cell 1
  simp at g0 g1
  have h1 := HB.out.trans (hb1.mono HB.out.size)
  refine bodyPost_ret (v := .agg #[.int .i64 (p : Int), .int .i64 id]) (by simp [results, Tryz.results88, go_sem, g0, g1]) rfl ?_
  exact ⟨rfl, (h1.setCell (p := ⟨w.heap.size + 1, 0, none⟩) (by simp) _).setCell (p := ⟨w.heap.size + 1, 1, none⟩) (by simp) _⟩
theorem fld99 (a b : Value) (w : World) : (Instr.field 99 (.agg #[a, b]) 0).run Tryz.prog w = .ok a w := by kernel_rfl
/-- What NextCell answers. -/
def NextC (r : Box) (code : Nat) (c : Nat × Nat) (more : Bool) : Prop :=
  (more = true ∧ ∃ f k, f < 4294967296 ∧ c = around f k ∧ IsNext code r (f : Int) ∧ IsWide code f k) ∨ (more = false ∧ ∀ x y, r.has x y → Go.Proofs.YtdgbgmffpcooeaaGreat.code x y < code)
set_option maxRecDepth 100000 in
set_option maxHeartbeats 2000000 in
theorem nextCell_any (w : World) (code : Nat) (hcode : code ≤ 4294967296) (r : Box) (hr : r.ok) :
    Calls Tryz.prog 86 #[.int .i64 (code : Int), .agg #[.int .i64 (r.a : Int), .int .i64 (r.b : Int), .int .i64 (r.c : Int), .int .i64 (r.d : Int)]] w fun e w' => ∃ c more, e = .returned (.tuple #[cellV c, .bool more]) ∧ NextC r code c more ∧ Below w.heap.size w w' := by
  have hb : Below w.heap.size w ((w.alloc (.cells #[.int .i64 (r.a : Int), .int .i64 (r.b : Int), .int .i64 (r.c : Int), .int .i64 (r.d : Int)] 34)).alloc (.cells #[.int .i64 0, .int .i64 0] 99)) := ((Below.refl _ w).alloc (Nat.le_refl _) _).alloc (by simp) _
  have B := Blk.new (w.alloc (.cells #[.int .i64 (r.a : Int), .int .i64 (r.b : Int), .int .i64 (r.c : Int), .int .i64 (r.d : Int)] 34)) 99 #[.int .i64 0, .int .i64 0]
  rw [World.size_alloc] at B
  by_cases hbig : code = 4294967296
  · subst hbig
    have HB : Hid _ := hb
    go_enter Tryz.func86, Tryz.ntmps86
    go_wp2
    refine bodyPost_ret (v := .tuple #[cellV (0, 0), .bool false]) (by simp [results, Tryz.results86, go_sem]) rfl ?_
    exact ⟨(0, 0), false, rfl, .inr ⟨rfl, fun x y _ => code_lt x y⟩, HB.out⟩
  · have hlt : code < 4294967296 := by omega
    have hlt' : ¬ ((4294967296 : Int) ≤ (code : Int)) := by omega
    have hgn := gnext_any code hlt r hr ((w.alloc (.cells #[.int .i64 (r.a : Int), .int .i64 (r.b : Int), .int .i64 (r.c : Int), .int .i64 (r.d : Int)] 34)).alloc (.cells #[.int .i64 0, .int .i64 0] 99))
    have HB : Hid _ := hb
    have HBB : Hid (Blk ((w.alloc (.cells #[.int .i64 (r.a : Int), .int .i64 (r.b : Int), .int .i64 (r.c : Int), .int .i64 (r.d : Int)] 34)).alloc (.cells #[.int .i64 0, .int .i64 0] 99)) (w.heap.size + 1) 99 #[.int .i64 0, .int .i64 0]) := B
    clear hb B hr
    go_enter Tryz.func86, Tryz.ntmps86
    go_upto_region 4 with (go_at_call 118; refine hgn.mono ?_; rintro e w1 ⟨⟨m, rfl, hm⟩, hb1⟩)
    have B1 : Blk w1 (w.heap.size + 1) 99 #[.int .i64 0, .int .i64 0] := HBB.out.below hb1 HBB.out.lt
    have hW1 := HB.out.trans (hb1.mono HB.out.size)
    have HW1 : Hid (Below w.heap.size w w1) := hW1
    clear hgn HBB HB hW1 hb1
    have HM : Hid (IsNext code r m) := hm
    rcases hm with ⟨x, y, h1, rfl, h2, h3⟩ | ⟨rfl, h4⟩
    · have hfl := code_lt x y
      generalize Go.Proofs.YtdgbgmffpcooeaaGreat.code x y = f at HM h2 hfl
      clear h1 h3
      have hf0 : ¬ ((f : Int) < 0) := by omega
      have har := fun W k hk => around_any W f k hk hfl
      have HAR : Hid (∀ (W : World) (k : Nat), k ≤ 16 → Calls Tryz.prog 119 #[.int .i64 (f : Int), .int .i64 (k : Int)] W fun e w' => e = .returned (cellV (around f k)) ∧ Below W.heap.size W w') := har
      clear har
      go_wp2
      go_loopw [7] (fun v wr => ∃ k : Nat, v = .int .i64 (k : Int) ∧ k ≤ 16 ∧ code ≤ (around f k).1 ∧ Blk wr (w.heap.size + 1) 99 #[.int .i64 0, .int .i64 0] ∧ Below w.heap.size w wr) (fun v _ => 16 - (intOf v).toNat)
      case atStart => exact ⟨0, rfl, by omega, by simp [around]; exact h2, B1, HW1.out⟩
      case round =>
        obtain ⟨k, rfl, hk, hc, hB, hW⟩ := hrel
        have hbl := hB.lt
        by_cases hk16 : k < 16
        · have hk16' : (k : Int) < 16 := by omega
          have ha := HAR.out wr (k + 1) (by omega)
          obtain ⟨cc, hcc⟩ : ∃ cc, around f (k + 1) = cc := ⟨_, rfl⟩
          rw [hcc] at ha
          have HCC : Hid (around f (k + 1) = cc) := hcc
          replace ha : Calls Tryz.prog 119 #[.int .i64 (f : Int), .int .i64 ((k : Int) + 1)] wr fun e w' => e = .returned (cellV cc) ∧ Below wr.heap.size wr w' := ha
          clear hcc
          have hfd := fld99 (.int .i64 (cc.1 : Int)) (.int .i64 (cc.2 : Int))
          by_cases hge : code ≤ cc.1
          · have hge' : (code : Int) ≤ (cc.1 : Int) := by omega
            go_wp2_with (go_at_call 119; refine ha.mono ?_; rintro e w2 ⟨rfl, hb2⟩)
            have hs2 := hW.size
            go_roundw
            case rel => exact ⟨k + 1, by go_num, by omega, by rw [HCC.out]; exact hge, hB.below hb2 hbl, hW.trans (hb2.mono hs2)⟩
            case measure => simp [intOf]; omega
          · have hge' : ¬ ((code : Int) ≤ (cc.1 : Int)) := by omega
            have HK : Hid (IsWide code f k) := ⟨by omega, hc, .inr (by rw [HCC.out]; omega)⟩
            go_upto_region 9 with (go_at_call 119; refine ha.mono ?_; rintro e w2 ⟨rfl, hb2⟩)
            have B2 := hB.below hb2 hbl
            have hs2 := hW.size
            have hW2 := hW.trans (hb2.mono hs2)
            have HW2 : Hid (Below w.heap.size w w2) := hW2
            have ha2 := HAR.out w2 k (by omega)
            have hb2l := B2.lt
            clear ha hb2 hW2 hW hB
            go_wp2_with (go_at_call 119; refine ha2.mono ?_; rintro e w3 ⟨rfl, hb3⟩; have B3 : Blk w3 (w.heap.size + 1) 99 #[.int .i64 0, .int .i64 0] := B2.below hb3 hb2l; have d0 : w3.cell? ⟨w.heap.size + 1, 0, none⟩ = some (.int .i64 0) := B3.cell 0; have d1 : w3.cell? ⟨w.heap.size + 1, 1, none⟩ = some (.int .i64 0) := B3.cell 1; have f0 : w3.frozen? ⟨w.heap.size + 1, 0, none⟩ = false := B3.frozen 0; have f1 : w3.frozen? ⟨w.heap.size + 1, 1, none⟩ = false := B3.frozen 1)
            have B4 : Blk ((w3.setCell ⟨w.heap.size + 1, 0, none⟩ (.int .i64 ((around f k).1 : Int))).setCell ⟨w.heap.size + 1, 1, none⟩ (.int .i64 ((around f k).2 : Int))) (w.heap.size + 1) 99 #[.int .i64 ((around f k).1 : Int), .int .i64 ((around f k).2 : Int)] := (B3.set 0 _).set 1 _
            have g0 := B4.cell 0
            have g1 := B4.cell 1
            simp at g0 g1
            have h5 := HW2.out.trans (hb3.mono HW2.out.size)
            refine bodyPost_ret (v := .tuple #[cellV (around f k), .bool true]) (by simp [results, Tryz.results86, go_sem, g0, g1]) rfl ?_
            exact ⟨around f k, true, rfl, .inl ⟨rfl, f, k, hfl, rfl, HM.out, HK.out⟩, (h5.setCell (p := ⟨w.heap.size + 1, 0, none⟩) (by simp) _).setCell (p := ⟨w.heap.size + 1, 1, none⟩) (by simp) _⟩
        · have hk16' : ¬ ((k : Int) < 16) := by omega
          have HK : Hid (IsWide code f k) := ⟨by omega, hc, .inl (by omega)⟩
          have ha2 := HAR.out wr k (by omega)
          have HW2 : Hid (Below w.heap.size w wr) := hW
          clear hW
          go_wp2_with (go_at_call 119; refine ha2.mono ?_; rintro e w3 ⟨rfl, hb3⟩; have B3 : Blk w3 (w.heap.size + 1) 99 #[.int .i64 0, .int .i64 0] := hB.below hb3 hbl; have d0 : w3.cell? ⟨w.heap.size + 1, 0, none⟩ = some (.int .i64 0) := B3.cell 0; have d1 : w3.cell? ⟨w.heap.size + 1, 1, none⟩ = some (.int .i64 0) := B3.cell 1; have f0 : w3.frozen? ⟨w.heap.size + 1, 0, none⟩ = false := B3.frozen 0; have f1 : w3.frozen? ⟨w.heap.size + 1, 1, none⟩ = false := B3.frozen 1)
          have B4 : Blk ((w3.setCell ⟨w.heap.size + 1, 0, none⟩ (.int .i64 ((around f k).1 : Int))).setCell ⟨w.heap.size + 1, 1, none⟩ (.int .i64 ((around f k).2 : Int))) (w.heap.size + 1) 99 #[.int .i64 ((around f k).1 : Int), .int .i64 ((around f k).2 : Int)] := (B3.set 0 _).set 1 _
          have g0 := B4.cell 0
          have g1 := B4.cell 1
          simp at g0 g1
          have h5 := HW2.out.trans (hb3.mono HW2.out.size)
          refine bodyPost_ret (v := .tuple #[cellV (around f k), .bool true]) (by simp [results, Tryz.results86, go_sem, g0, g1]) rfl ?_
          exact ⟨around f k, true, rfl, .inl ⟨rfl, f, k, hfl, rfl, HM.out, HK.out⟩, (h5.setCell (p := ⟨w.heap.size + 1, 0, none⟩) (by simp) _).setCell (p := ⟨w.heap.size + 1, 1, none⟩) (by simp) _⟩
    · have d0 : w1.cell? ⟨w.heap.size + 1, 0, none⟩ = some (.int .i64 0) := B1.cell 0
      have d1 : w1.cell? ⟨w.heap.size + 1, 1, none⟩ = some (.int .i64 0) := B1.cell 1
      have f0 : w1.frozen? ⟨w.heap.size + 1, 0, none⟩ = false := B1.frozen 0
      have f1 : w1.frozen? ⟨w.heap.size + 1, 1, none⟩ = false := B1.frozen 1
      have H4 : Hid _ := h4
      clear h4 HM
      go_wp2
      have B4 : Blk ((w1.setCell ⟨w.heap.size + 1, 0, none⟩ (.int .i64 0)).setCell ⟨w.heap.size + 1, 1, none⟩ (.int .i64 0)) (w.heap.size + 1) 99 #[.int .i64 0, .int .i64 0] := (B1.set 0 _).set 1 _
      have g0 := B4.cell 0
      have g1 := B4.cell 1
      simp at g0 g1
      refine bodyPost_ret (v := .tuple #[cellV (0, 0), .bool false]) (by simp [results, Tryz.results86, go_sem, g0, g1]) rfl ?_
      exact ⟨(0, 0), false, rfl, .inr ⟨rfl, H4.out⟩, (HW1.out.setCell (p := ⟨w.heap.size + 1, 0, none⟩) (by simp) _).setCell (p := ⟨w.heap.size + 1, 1, none⟩) (by simp) _⟩
end Go.Proofs.YtdgbgmffpcooeaaGreat
end
section
/- The entries that a rectangle has. -/
namespace Go.Proofs.YtdgbgmffpcooeaaGreat
open Go.RowKit Go.Lib
open Classical in
/-- The cells of a rectangle. -/
noncomputable def covL (v : Box) : List (Nat × Nat) := if h : v.ok then (covers_of v h).choose_spec.choose else []
theorem covL_is {v : Box} (h : v.ok) : IsCover v (covers_of v h).choose (covL v) := by
  unfold covL
  rw [dif_pos h]
  exact (covers_of v h).choose_spec.choose_spec
noncomputable def plc (v : Box) : List Nat := (covL v).map place
theorem cover_cell {v : Box} {k : Nat} {l : List (Nat × Nat)} (hv : v.ok) (h : IsCover v k l) {c : Nat × Nat} (hc : c ∈ l) : CellOk c := by
  have g := h.good hv hc
  have hk := h.k15 hv
  have e := g.cell
  have p4 := Nat.pow_pos (n := k) (show 0 < 4 by decide)
  have hf := g.fits
  refine ⟨by rw [g.two]; omega, ?_, ?_⟩
  · rw [g.two]; exact ⟨c.1 / 4 ^ k, by rw [Nat.mul_comm]; exact e⟩
  · rw [Nat.add_mul, ← e] at hf
    show c.1 < 4294967296
    omega
theorem plc_ok {v : Box} (h : v.ok) : PlOk plc v := by
  have hc := covL_is h
  have hl := hc.len h
  refine ⟨?_, fun p hp => ?_, by unfold plc; rw [List.length_map]; omega, by unfold plc; rw [List.length_map]; omega⟩
  · unfold plc
    refine List.Pairwise.map _ (fun a b hab => hab) (List.Pairwise.imp_of_mem (fun {a b} ha hb hab e => hab ?_) (hc.nodup h))
    have := congrArg cellAt e
    rw [cellAt_place (cover_cell h hc ha).size, cellAt_place (cover_cell h hc hb).size] at this
    exact this
  · obtain ⟨c, hcm, rfl⟩ := List.mem_map.1 hp
    have := place_lt (cover_cell h hc hcm)
    exact this
def celEnt (id : Int) (v : Box) (c : Nat × Nat) : Key × Box := (((place c : Int), id), v)
theorem ents_is (id : Int) (v : Box) : ents plc id v = ((NUM, id), v) :: (covL v).map (celEnt id v) := by
  unfold ents plc
  rw [List.map_map]
  rfl
theorem own_one {W : World} {base g : Nat} {x : Key × Box} (h : Blk W g 156 #[.int .i64 x.1.1, .int .i64 x.1.2, .int .i64 (x.2.a : Int), .int .i64 (x.2.b : Int), .int .i64 (x.2.c : Int), .int .i64 (x.2.d : Int)]) (hb : base ≤ g) : W.ownsRow base 156 6 (.slice (some ⟨g, 0, none⟩) 1 1) 1 (flat pkR [x]) :=
  ⟨rfl, .inr ⟨g, 1, _, rfl, hb, h, Nat.le_refl _, by unfold maxLen; omega, by simp, by simp [flat, pkR, entC]⟩⟩
theorem flatC_get : ∀ {l : List (Nat × Nat)} {i : Nat} {x : Nat × Nat}, l[i]? = some x → (flatC l)[i * 2]? = some (.int .i64 (x.1 : Int)) ∧ (flatC l)[i * 2 + 1]? = some (.int .i64 (x.2 : Int))
  | [], i, x, h => by cases h
  | y :: l, 0, x, h => by
    simp only [List.getElem?_cons_zero, Option.some.injEq] at h
    subst h
    exact ⟨rfl, rfl⟩
  | y :: l, i + 1, x, h => by
    rw [List.getElem?_cons_succ] at h
    have := flatC_get h
    have e : flatC (y :: l) = .int .i64 (y.1 : Int) :: .int .i64 (y.2 : Int) :: flatC l := rfl
    rw [e, show (i + 1) * 2 = i * 2 + 1 + 1 by omega, show i * 2 + 1 + 1 + 1 = (i * 2 + 1) + 1 + 1 by omega, List.getElem?_cons_succ, List.getElem?_cons_succ, List.getElem?_cons_succ, List.getElem?_cons_succ]
    exact this
set_option maxRecDepth 100000 in
set_option maxHeartbeats 4000000 in
theorem entries_any (w : World) (id : Int) (v : Box) (hv : v.ok) :
    Calls Tryz.prog 83 #[.int .i64 id, .agg #[.int .i64 (v.a : Int), .int .i64 (v.b : Int), .int .i64 (v.c : Int), .int .i64 (v.d : Int)]] w fun e w' => ∃ a c, e = .returned (.slice a (ents plc id v).length c) ∧ w'.ownsRow w.heap.size 156 6 (.slice a (ents plc id v).length c) (ents plc id v).length (flat pkR (ents plc id v)) ∧ Below w.heap.size w w' := by
  obtain ⟨i0, hi0, hz0, hz1, hz2⟩ := info_parts infoR
  have HGC : Hid (∀ W1, Calls Tryz.prog 111 #[.agg #[.int .i64 (v.a : Int), .int .i64 (v.b : Int), .int .i64 (v.c : Int), .int .i64 (v.d : Int)]] W1 fun e w' => ∃ (g cap : Nat), e = .returned (.slice (some ⟨g, 0, none⟩) (covL v).length cap) ∧ w'.ownsRow (W1.heap.size + 1) 99 2 (.slice (some ⟨g, 0, none⟩) (covL v).length cap) (covL v).length (flatC (covL v)) ∧ Below W1.heap.size W1 w') := fun W1 => by
    refine (gcover_any v hv W1).mono ?_
    rintro e w' ⟨g, cap, k, l, rfl, h1, h2, h3⟩
    obtain ⟨_, rfl⟩ := cover_unique hv h2 (covL_is hv)
    exact ⟨g, cap, rfl, h1, h3⟩
  have hlen := (covL_is hv).len hv
  have HCO : Hid (∀ c ∈ covL v, CellOk c) := fun c hc => cover_cell hv (covL_is hv) hc
  rw [ents_is id v, show (((NUM, id), v) :: (covL v).map (celEnt id v)).length = (covL v).length + 1 by simp]
  generalize covL v = l at HGC hlen HCO
  clear hv
  have B0 := Blk.new w 34 #[.int .i64 (v.a : Int), .int .i64 (v.b : Int), .int .i64 (v.c : Int), .int .i64 (v.d : Int)]
  have hb0 : Below w.heap.size w (w.alloc (.cells #[.int .i64 (v.a : Int), .int .i64 (v.b : Int), .int .i64 (v.c : Int), .int .i64 (v.d : Int)] 34)) := (Below.refl _ w).alloc (Nat.le_refl _) _
  obtain ⟨W0, hW0⟩ : ∃ W0, w.alloc (.cells #[.int .i64 (v.a : Int), .int .i64 (v.b : Int), .int .i64 (v.c : Int), .int .i64 (v.d : Int)] 34) = W0 := ⟨_, rfl⟩
  have hs0 : W0.heap.size = w.heap.size + 1 := by rw [← hW0]; simp
  have HW0 : Hid (w.alloc (.cells #[.int .i64 (v.a : Int), .int .i64 (v.b : Int), .int .i64 (v.c : Int), .int .i64 (v.d : Int)] 34) = W0) := hW0
  rw [hW0] at B0 hb0
  clear hW0
  have r0 : W0.cell? ⟨w.heap.size, 0, none⟩ = some (.int .i64 (v.a : Int)) := B0.cell 0
  have r1 : W0.cell? ⟨w.heap.size, 1, none⟩ = some (.int .i64 (v.b : Int)) := B0.cell 1
  have r2 : W0.cell? ⟨w.heap.size, 2, none⟩ = some (.int .i64 (v.c : Int)) := B0.cell 2
  have r3 : W0.cell? ⟨w.heap.size, 3, none⟩ = some (.int .i64 (v.d : Int)) := B0.cell 3
  have hnk := nkey_any W0.drew id
  have HR : Hid (∀ X, Below W0.heap.size W0 X → X.cell? ⟨w.heap.size, 0, none⟩ = some (.int .i64 (v.a : Int)) ∧ X.cell? ⟨w.heap.size, 1, none⟩ = some (.int .i64 (v.b : Int)) ∧ X.cell? ⟨w.heap.size, 2, none⟩ = some (.int .i64 (v.c : Int)) ∧ X.cell? ⟨w.heap.size, 3, none⟩ = some (.int .i64 (v.d : Int))) := fun X hX => by
    have := B0.below hX B0.lt
    exact ⟨this.cell 0, this.cell 1, this.cell 2, this.cell 3⟩
  go_enter Tryz.func83, Tryz.ntmps83
  go_upto_region 1 with fail
  rw [HW0.out]
  go_region_held3 (fun W' => W'.cell? ⟨w.heap.size, 0, none⟩ = some (.int .i64 (v.a : Int)) ∧ W'.cell? ⟨w.heap.size, 1, none⟩ = some (.int .i64 (v.b : Int)) ∧ W'.cell? ⟨w.heap.size, 2, none⟩ = some (.int .i64 (v.c : Int)) ∧ W'.cell? ⟨w.heap.size, 3, none⟩ = some (.int .i64 (v.d : Int)))
    (first
      | exact ⟨r0, r1, r2, r3⟩
      | exact HR.out _ hb1'
      | exact HR.out _ (hb1'.alloc hb1'.size _)
      | go_keep)
    (first
      | (go_at_call 108; refine hnk.mono ?_; rintro e w1 ⟨rfl, hb1⟩; have hb1' : Below W0.heap.size W0 w1 := ((Below.refl _ W0).drew).trans hb1))
  obtain ⟨W1, hW1⟩ : ∃ W1, w1.alloc (.cells #[.int .i64 NUM, .int .i64 id, .int .i64 (v.a : Int), .int .i64 (v.b : Int), .int .i64 (v.c : Int), .int .i64 (v.d : Int)] 156) = W1 := ⟨_, rfl⟩
  have hbW1 : Below W0.heap.size W0 W1 := by rw [← hW1]; exact hb1'.alloc hb1'.size _
  have hs1 := hb1'.size
  have hown1 : W1.ownsRow w.heap.size 156 6 (.slice (some ⟨w1.heap.size, 0, none⟩) 1 1) 1 (flat pkR [((NUM, id), v)]) := by
    rw [← hW1]; exact own_one (Blk.new w1 156 _) (by omega)
  obtain ⟨q0, q1, q2, q3⟩ := HR.out W1 hbW1
  have hgc2 := HGC.out W1
  rw [hW1]
  have HOWN1 : Hid (W1.ownsRow w.heap.size 156 6 (.slice (some ⟨w1.heap.size, 0, none⟩) 1 1) 1 (flat pkR [((NUM, id), v)])) := hown1
  have hbW : Below w.heap.size w W1 := hb0.trans (hbW1.mono (by omega))
  have HBW : Hid (Below w.heap.size w W1) := hbW
  have HB01 : Hid (Below W0.heap.size W0 W1) := hbW1
  have HB0 : Hid (Blk W0 w.heap.size 34 #[.int .i64 (v.a : Int), .int .i64 (v.b : Int), .int .i64 (v.c : Int), .int .i64 (v.d : Int)]) := B0
  have hsW1 := hbW1.size
  clear hW1 hown1 hbW hbW1 hb1 hb1' hb0 hnk HW0 B0 r0 r1 r2 r3 HGC
  go_wp2_with (go_at_call 111; refine hgc2.mono ?_; rintro e w2 ⟨g, cap, rfl, hcells, hb2⟩)
  have hsz2 := hb2.size
  have HR2 : Hid (∀ X, Below w2.heap.size w2 X → X.cell? ⟨w.heap.size, 0, none⟩ = some (.int .i64 (v.a : Int)) ∧ X.cell? ⟨w.heap.size, 1, none⟩ = some (.int .i64 (v.b : Int)) ∧ X.cell? ⟨w.heap.size, 2, none⟩ = some (.int .i64 (v.c : Int)) ∧ X.cell? ⟨w.heap.size, 3, none⟩ = some (.int .i64 (v.d : Int))) := fun X hX => HR.out X (HB01.out.trans ((hb2.trans (hX.mono hsz2)).mono hsW1))
  have HCELLS : Hid (w2.ownsRow (W1.heap.size + 1) 99 2 (.slice (some ⟨g, 0, none⟩) l.length cap) l.length (flatC l)) := hcells
  have HB2 : Hid (Below W1.heap.size W1 w2) := hb2
  have hgl := own_lt hcells
  have hl4 : l.length ≤ 4 := by omega
  clear hgc2 hcells hb2 hlen q0 q1 q2 q3
  go_loopw [5, 16] (fun sv x wr => ∃ i : Nat, x = .int .i64 (i : Int) ∧ i ≤ l.length ∧ wr.ownsRow w.heap.size 156 6 sv (i + 1) (flat pkR (((NUM, id), v) :: (l.take i).map (celEnt id v))) ∧ wr.ownsRow (W1.heap.size + 1) 99 2 (.slice (some ⟨g, 0, none⟩) l.length cap) l.length (flatC l) ∧ Blk wr w.heap.size 34 #[.int .i64 (v.a : Int), .int .i64 (v.b : Int), .int .i64 (v.c : Int), .int .i64 (v.d : Int)] ∧ Below w.heap.size w wr) (fun _ x _ => l.length - (intOf x).toNat)
  case atStart => exact ⟨0, rfl, Nat.zero_le _, own_below HOWN1.out HB2.out, HCELLS.out, (HB2.out.block _ (by omega)).trans ((HB01.out.block _ (by omega)).trans HB0.out), HBW.out.trans (HB2.out.mono HBW.out.size)⟩
  case round =>
    obtain ⟨i, rfl, hi, hown, hcells, hBr, hW⟩ := hrel
    have hWs := hW.size
    have hBl := hBr.lt
    by_cases hlt : i < l.length
    · have hlt' : (i : Int) < (l.length : Int) := by omega
      obtain ⟨x, hx⟩ : ∃ x, l[i]? = some x := ⟨_, List.getElem?_eq_getElem hlt⟩
      have hxo := HCO.out x (List.mem_of_getElem? hx)
      have y0 := (own_cell hcells (i * 2) (by omega)).1
      have y1 := (own_cell hcells (i * 2 + 1) (by omega)).1
      rw [(flatC_get hx).1] at y0
      rw [(flatC_get hx).2] at y1
      obtain ⟨Wc, hWc⟩ : ∃ Wc, wr.alloc (.cells #[.int .i64 (x.1 : Int), .int .i64 (x.2 : Int)] 99) = Wc := ⟨_, rfl⟩
      have hbc : Below wr.heap.size wr Wc := by rw [← hWc]; exact (Below.refl _ wr).alloc (Nat.le_refl _) _
      have Bc : Blk Wc wr.heap.size 99 #[.int .i64 (x.1 : Int), .int .i64 (x.2 : Int)] := by rw [← hWc]; exact Blk.new wr 99 _
      have hsc : Wc.heap.size = wr.heap.size + 1 := by rw [← hWc]; simp
      have Br := hBr.below hbc hBl
      have hcc := own_below hcells hbc
      have hck := ckey_any Wc.drew x hxo id
      obtain ⟨pl, hpl⟩ : ∃ pl, place x = pl := ⟨_, rfl⟩
      rw [hpl] at hck
      have HPL : Hid (celEnt id v x = (((pl : Int), id), v)) := by show _ = _; unfold celEnt; rw [hpl]
      have HTK : Hid (l.take (i + 1) = l.take i ++ [x]) := take_snoc hx
      have hownc := own_below hown hbc
      obtain ⟨sa, sc, rfl, _, _, _⟩ := own_shape hownc
      have HPE : Hid ((((NUM, id), v) :: (l.take i).map (celEnt id v)) ++ [celEnt id v x] = ((NUM, id), v) :: (l.take (i + 1)).map (celEnt id v)) := by show _ = _; rw [HTK.out]; simp
      generalize ((NUM, id), v) :: (l.take i).map (celEnt id v) = P at hownc hown HPE
      have HP : Hid (P ++ [celEnt id v x] = ((NUM, id), v) :: (l.take (i + 1)).map (celEnt id v)) := HPE.out
      have z0 : Wc.cell? ⟨wr.heap.size, 0, none⟩ = some (.int .i64 (x.1 : Int)) := Bc.cell 0
      have z1 : Wc.cell? ⟨wr.heap.size, 1, none⟩ = some (.int .i64 (x.2 : Int)) := Bc.cell 1
      have r0 : Wc.cell? ⟨w.heap.size, 0, none⟩ = some (.int .i64 (v.a : Int)) := Br.cell 0
      have r1 : Wc.cell? ⟨w.heap.size, 1, none⟩ = some (.int .i64 (v.b : Int)) := Br.cell 1
      have r2 : Wc.cell? ⟨w.heap.size, 2, none⟩ = some (.int .i64 (v.c : Int)) := Br.cell 2
      have r3 : Wc.cell? ⟨w.heap.size, 3, none⟩ = some (.int .i64 (v.d : Int)) := Br.cell 3
      have HS : Hid (∀ X, Blk X wr.heap.size 99 #[.int .i64 (x.1 : Int), .int .i64 (x.2 : Int)] → Blk X w.heap.size 34 #[.int .i64 (v.a : Int), .int .i64 (v.b : Int), .int .i64 (v.c : Int), .int .i64 (v.d : Int)] → X.cell? ⟨wr.heap.size, 0, none⟩ = some (.int .i64 (x.1 : Int)) ∧ X.cell? ⟨wr.heap.size, 1, none⟩ = some (.int .i64 (x.2 : Int)) ∧ X.cell? ⟨w.heap.size, 0, none⟩ = some (.int .i64 (v.a : Int)) ∧ X.cell? ⟨w.heap.size, 1, none⟩ = some (.int .i64 (v.b : Int)) ∧ X.cell? ⟨w.heap.size, 2, none⟩ = some (.int .i64 (v.c : Int)) ∧ X.cell? ⟨w.heap.size, 3, none⟩ = some (.int .i64 (v.d : Int))) := fun X h1 h2 => ⟨h1.cell 0, h1.cell 1, h2.cell 0, h2.cell 1, h2.cell 2, h2.cell 3⟩
      have hBcl := Bc.lt
      have hBrl := Br.lt
      have HWC : Hid (wr.alloc (.cells #[.int .i64 (x.1 : Int), .int .i64 (x.2 : Int)] 99) = Wc) := hWc
      have HBC : Hid (Below wr.heap.size wr Wc) := hbc
      have HCC : Hid (Wc.ownsRow (W1.heap.size + 1) 99 2 (.slice (some ⟨g, 0, none⟩) l.length cap) l.length (flatC l)) := hcc
      have HWR : Hid (Below w.heap.size w wr) := hW
      clear hown hcells hW hbc hWc HPE HTK hpl hx hBr hcc
      go_upto_region 5 with fail
      rw [HWC.out]
      go_region_held3 (fun W' => W'.cell? ⟨wr.heap.size, 0, none⟩ = some (.int .i64 (x.1 : Int)) ∧ W'.cell? ⟨wr.heap.size, 1, none⟩ = some (.int .i64 (x.2 : Int)) ∧ W'.cell? ⟨w.heap.size, 0, none⟩ = some (.int .i64 (v.a : Int)) ∧ W'.cell? ⟨w.heap.size, 1, none⟩ = some (.int .i64 (v.b : Int)) ∧ W'.cell? ⟨w.heap.size, 2, none⟩ = some (.int .i64 (v.c : Int)) ∧ W'.cell? ⟨w.heap.size, 3, none⟩ = some (.int .i64 (v.d : Int)))
        (first
          | exact ⟨z0, z1, r0, r1, r2, r3⟩
          | exact HS.out _ k4 k5
          | exact HS.out _ k3 k6
          | exact HS.out _ (k3.alloc _) (k6.alloc _)
          | go_keep)
        (first
          | (go_at_call 88; refine hck.mono ?_; rintro e w3 ⟨rfl, hb3⟩; have hb3' : Below Wc.heap.size Wc w3 := ((Below.refl _ Wc).drew).trans hb3; have k3 := Bc.below hb3' hBcl; have k6 := Br.below hb3' hBrl; have hown3 := own_below hownc hb3'; have hs3 := hb3'.size)
          | (refine step_append_lies _ (by rfl) _ _ _ (by rfl) w.heap.size 156 i0 _ 6 48 Tryz.underlying151 hi0 hz0 hz1 hz2 rfl (by omega) (.slice sa (i + 1) sc) (i + 1) _ (by rfl) (hown3.alloc _) ⟨w3.heap.size, 0, none⟩ 1 1 [.int .i64 (pl : Int), .int .i64 id, .int .i64 (v.a : Int), .int .i64 (v.b : Int), .int .i64 (v.c : Int), .int .i64 (v.d : Int)] (by rfl) (by rfl) (World.news_of_block (cs := #[.int .i64 (pl : Int), .int .i64 id, .int .i64 (v.a : Int), .int .i64 (v.b : Int), .int .i64 (v.c : Int), .int .i64 (v.d : Int)]) (t := 156) (fr := (0, 0)) (heap_alloc_new w3 _)) (by simp [Value.oneCell']) (by omega) (by unfold maxLen; omega) (by omega) (by simp; omega) (w3.heap.size + 1) (by simp) ?_; intro gg capp w4 hown4 hgrow hat hlt3; have k4 := (k3.alloc (.cells #[.int .i64 (pl : Int), .int .i64 id, .int .i64 (v.a : Int), .int .i64 (v.b : Int), .int .i64 (v.c : Int), .int .i64 (v.d : Int)] 156)).grown hgrow (fun j hj => own_ne (hown3.alloc (.cells #[.int .i64 (pl : Int), .int .i64 id, .int .i64 (v.a : Int), .int .i64 (v.b : Int), .int .i64 (v.c : Int), .int .i64 (v.d : Int)] 156)) (k3.alloc (.cells #[.int .i64 (pl : Int), .int .i64 id, .int .i64 (v.a : Int), .int .i64 (v.b : Int), .int .i64 (v.c : Int), .int .i64 (v.d : Int)] 156)) (by decide) j hj); have k5 := (k6.alloc (.cells #[.int .i64 (pl : Int), .int .i64 id, .int .i64 (v.a : Int), .int .i64 (v.b : Int), .int .i64 (v.c : Int), .int .i64 (v.d : Int)] 156)).grown hgrow (fun j hj => own_ne (hown3.alloc (.cells #[.int .i64 (pl : Int), .int .i64 id, .int .i64 (v.a : Int), .int .i64 (v.b : Int), .int .i64 (v.c : Int), .int .i64 (v.d : Int)] 156)) (k6.alloc (.cells #[.int .i64 (pl : Int), .int .i64 id, .int .i64 (v.a : Int), .int .i64 (v.b : Int), .int .i64 (v.c : Int), .int .i64 (v.d : Int)] 156)) (by decide) j hj)))
      have hba : Below w3.heap.size w3 (w3.alloc (.cells #[.int .i64 (pl : Int), .int .i64 id, .int .i64 (v.a : Int), .int .i64 (v.b : Int), .int .i64 (v.c : Int), .int .i64 (v.d : Int)] 156)) := (Below.refl _ w3).alloc (Nat.le_refl _) _
      have hc4 : w4.ownsRow (W1.heap.size + 1) 99 2 (.slice (some ⟨g, 0, none⟩) l.length cap) l.length (flatC l) := by
        have h1 := own_below (own_below HCC.out hb3') hba
        refine own_offv h1 ((Off.refl (fun k => (Value.slice sa (i + 1) sc).ownBlock = some k) _).grown hgrow (fun j hj => .inl hj)) (fun g' hg' hf => ?_)
        have t1 := (own_tagged h1 hg').2
        have t2 := (own_tagged (own_below hown3 hba) hf).2
        obtain ⟨c1, e1⟩ := t1
        obtain ⟨c2, e2⟩ := t2
        rw [e1] at e2; simp at e2
      have hb4 : Below w.heap.size w w4 := by
        have h1 : Below w.heap.size w w3 := HWR.out.trans ((HBC.out.mono hWs).trans (hb3'.mono (by omega)))
        have h2 := h1.alloc h1.size (.cells #[.int .i64 (pl : Int), .int .i64 id, .int .i64 (v.a : Int), .int .i64 (v.b : Int), .int .i64 (v.c : Int), .int .i64 (v.d : Int)] 156)
        exact h2.grown hgrow (by have := h1.size; simp; omega) (fun k hk => (own_tagged hown3 hk).1)
      go_wp2
      refine ⟨⟨i + 1, by go_num, by omega, ?_, hc4, k5, hb4⟩, by simp [intOf]; omega⟩
      rw [← HP.out, flat_append, HPL.out]
      exact hown4
    · have hlt' : decide ((i : Int) < (l.length : Int)) = false := decide_eq_false (by omega)
      have hlt2 : decide (i < l.length) = false := decide_eq_false (by omega)
      have hin : i = l.length := by omega
      rw [hin, List.take_length] at hown
      obtain ⟨sa, sc, rfl, _, _, _⟩ := own_shape hown
      have HOW : Hid _ := hown
      have HWW : Hid (Below w.heap.size w wr) := hW
      clear hown hcells hBr hW
      go_wp2
      go_ret
      exact ⟨sa, sc, rfl, HOW.out, HWW.out⟩
end Go.Proofs.YtdgbgmffpcooeaaGreat
end
section
/- A window's search: plain facts. -/
namespace Go.Proofs.YtdgbgmffpcooeaaGreat
/-- The codes of a window. -/
def inWin (r : Box) (t : Nat) : Prop := ∃ x y, r.has x y ∧ code x y = t
/-- A place of a cell that meets a window. -/
def mcW (r : Box) (p : Nat) : Prop := CellOk (cellAt p) ∧ place (cellAt p) = p ∧ Meets (inWin r) (cellAt p)
def mvW (r v : Box) : Prop := (both v r).ok
theorem next_is {r : Box} {c f : Nat} (h : IsNext c r (f : Int)) : NextIs (inWin r) c f := by
  rcases h with ⟨x, y, h1, h2, h3, h4⟩ | ⟨h, _⟩
  · have e : f = code x y := Int.ofNat.inj h2
    rw [e]
    refine ⟨h3, ⟨x, y, h1, rfl⟩, fun t ht hw => ?_⟩
    obtain ⟨x', y', g1, g2⟩ := hw
    rw [← g2] at ht ⊢
    exact h4 x' y' g1 ht
  · omega
theorem nextC_start {r : Box} {cd : Nat} {c : Nat × Nat} (h : NextC r cd c true) : ∀ q, mcW r q → cd ≤ (cellAt q).1 → place c ≤ q := by
  rintro q ⟨h1, h2, h3⟩ hc
  rcases h with ⟨_, f, k, _, rfl, hn, hw⟩ | ⟨h, _⟩
  · have := next_first (next_is hn) hw h1 hc h3
    rwa [h2] at this
  · cases h
theorem nextC_none {r : Box} {cd : Nat} {c : Nat × Nat} (h : NextC r cd c false) : ∀ q, mcW r q → ¬ cd ≤ (cellAt q).1 := by
  rintro q ⟨h1, h2, t, t1, t2, x, y, hx, hxy⟩ hc
  rcases h with ⟨h, _⟩ | ⟨_, h⟩
  · cases h
  · have := h x y hx
    rw [hxy] at this
    omega
theorem meet_square {r : Box} {c : Nat × Nat} (hc : CellOk c) (hr : r.ok) : (both (sqr (c.1 / 4 ^ c.2) c.2) r).ok ↔ Meets (inWin r) c := by
  obtain ⟨r1, r2, r3, r4⟩ := hr
  have q := Nat.pow_pos (n := c.2) (show 0 < 4 by decide)
  have hmul : c.1 / 4 ^ c.2 * 4 ^ c.2 = c.1 := Nat.div_mul_cancel hc.mul
  have htop : (c.1 / 4 ^ c.2 + 1) * 4 ^ c.2 ≤ 4294967296 := by
    have ht := hc.top
    have hd : 4 ^ c.2 ∣ 4 ^ 16 := Nat.pow_dvd_pow 4 hc.size
    obtain ⟨m, hm⟩ := hd
    have hlt : c.1 / 4 ^ c.2 < m := by
      rw [Nat.div_lt_iff_lt_mul q, Nat.mul_comm]; rw [← hm]; exact ht
    have : (c.1 / 4 ^ c.2 + 1) * 4 ^ c.2 ≤ m * 4 ^ c.2 := Nat.mul_le_mul_right _ hlt
    rw [Nat.mul_comm m] at this
    rw [← hm] at this
    simpa using this
  have hhas := fun x y hx hy => sqr_has (c.1 / 4 ^ c.2) c.2 x y hc.size htop hx hy
  have hin : ∀ x y, x < 65536 → y < 65536 → ((sqr (c.1 / 4 ^ c.2) c.2).has x y ↔ c.1 ≤ code x y ∧ code x y < cend c) := fun x y hx hy => by
    rw [hhas x y hx hy]
    unfold cend
    rw [Nat.div_eq_iff q]
    constructor
    · intro h; omega
    · intro h; omega
  constructor
  · rintro ⟨h1, h2, h3, h4⟩
    have ha : (sqr (c.1 / 4 ^ c.2) c.2).has (max (sqr (c.1 / 4 ^ c.2) c.2).a r.a) (max (sqr (c.1 / 4 ^ c.2) c.2).b r.b) := by
      simp only [both] at h1 h3
      exact ⟨by omega, by omega, by omega, by omega⟩
    have hb : r.has (max (sqr (c.1 / 4 ^ c.2) c.2).a r.a) (max (sqr (c.1 / 4 ^ c.2) c.2).b r.b) := by
      simp only [both] at h1 h3
      exact ⟨by omega, by omega, by omega, by omega⟩
    obtain ⟨g1, g2⟩ := (hin _ _ (by have := hb.2.1; omega) (by have := hb.2.2.2; omega)).1 ha
    exact ⟨_, g1, g2, _, _, hb, rfl⟩
  · rintro ⟨t, t1, t2, x, y, hx, rfl⟩
    obtain ⟨x1, x2, x3, x4⟩ := hx
    obtain ⟨s1, s2, s3, s4⟩ := (hin x y (by omega) (by omega)).2 ⟨t1, t2⟩
    exact ⟨by simp only [both]; omega, by simp only [both]; omega, by simp only [both]; omega, by simp only [both]; omega⟩
theorem cover_meets {r v : Box} (hv : v.ok) (hr : r.ok) (h : mvW r v) : ∃ p ∈ plc v, mcW r p := by
  obtain ⟨h1, h2, h3, h4⟩ := h
  obtain ⟨r1, r2, r3, r4⟩ := hr
  simp only [both] at h1 h2 h3 h4
  have hvx : v.has (max v.a r.a) (max v.b r.b) := ⟨by omega, by omega, by omega, by omega⟩
  have hrx : r.has (max v.a r.a) (max v.b r.b) := ⟨by omega, by omega, by omega, by omega⟩
  have hc := covL_is hv
  obtain ⟨c, hcm, hce⟩ := hc.point hv hvx
  have hok := cover_cell hv hc hcm
  have hk : c.2 = (covers_of v hv).choose := (hc.good hv hcm).two
  have q := Nat.pow_pos (n := c.2) (show 0 < 4 by decide)
  rw [← hk] at hce
  have hmul : c.1 / 4 ^ c.2 * 4 ^ c.2 = c.1 := Nat.div_mul_cancel hok.mul
  refine ⟨place c, List.mem_map.2 ⟨c, hcm, rfl⟩, ?_⟩
  have e := cellAt_place hok.size
  unfold mcW
  rw [e]
  refine ⟨hok, rfl, code (max v.a r.a) (max v.b r.b), ?_, ?_, ⟨_, _, hrx, rfl⟩⟩
  · rw [← hmul, hce]; exact Nat.div_mul_le_self _ _
  · have := Nat.lt_div_mul_add (a := code (max v.a r.a) (max v.b r.b)) q
    unfold cend
    rw [← hce, hmul] at this
    exact this
/-- What is told from a later key on is part of what was left. -/
theorem frm_later {V : Type} {es pre l : List (Key × V)} {x : Key × V} {k k' : Key} (hr : Rising es) (h : frm k es = pre ++ x :: l) (hx : klt x.1 k') : frm k' es = frm k' l := by
  have hr1 : Rising (pre ++ x :: l) := h ▸ rising_frm hr
  have hr2 : Rising (x :: l) := hr1.sub (List.sublist_append_right ..)
  have hxk : ¬ klt x.1 k := (mem_frm.1 (h ▸ List.mem_append_right pre List.mem_cons_self : x ∈ frm k es)).2
  refine rising_ext (rising_frm hr) (rising_frm (hr2.sub (List.sublist_cons_self ..))) fun y => ?_
  rw [mem_frm, mem_frm]
  constructor
  · rintro ⟨hy, hk⟩
    have hyk : ¬ klt y.1 k := by unfold klt at *; omega
    have hm : y ∈ pre ++ x :: l := h ▸ mem_frm.2 ⟨hy, hyk⟩
    refine ⟨?_, hk⟩
    rcases List.mem_append.1 hm with g | g
    · exfalso
      have := (List.pairwise_append.1 hr1).2.2 y g x List.mem_cons_self
      unfold klt at *
      omega
    · rcases List.mem_cons.1 g with rfl | g
      · exact absurd hx hk
      · exact g
  · rintro ⟨hy, hk⟩
    exact ⟨(mem_frm.1 (h ▸ List.mem_append_right pre (List.mem_cons_of_mem _ hy) : y ∈ frm k es)).1, hk⟩
theorem frm_len {V : Type} (k : Key) (l : List (Key × V)) : (frm k l).length ≤ l.length := List.length_filter_le ..
end Go.Proofs.YtdgbgmffpcooeaaGreat
end
section
/- A window's search: its steps, plain. -/
namespace Go.Proofs.YtdgbgmffpcooeaaGreat
theorem nextC_ok {r : Box} {cd : Nat} {c : Nat × Nat} (h : NextC r cd c true) : CellOk c ∧ cd ≤ c.1 := by
  rcases h with ⟨_, f, k, hf, rfl, _, hw⟩ | ⟨h, _⟩
  · exact ⟨around_ok hw.1 (by simpa using hf), hw.2.1⟩
  · cases h
theorem nextC_zero {r : Box} {c : Nat × Nat} (hr : r.ok) : ¬ NextC r 0 c false := by
  rintro (⟨h, _⟩ | ⟨_, h⟩)
  · cases h
  · have := h r.a r.b ⟨Nat.le_refl _, hr.1, Nat.le_refl _, by have := hr.2.2; omega⟩
    omega
/-- What an entry of an index is. -/
theorem ent_kind {tb : List (Int × Box)} {es : List (Key × Box)} (h : Idx plc tb es) {x : Key × Box} (hx : x ∈ es) : (0 ≤ x.1.2 ∧ x.1.2 ≤ 4611686018427387904) ∧ (x.1.1 = NUM ∨ ∃ c, CellOk c ∧ x.1.1 = (place c : Int)) := by
  obtain ⟨h1, h2⟩ := h.of_mem hx
  have hi := h.id _ h1
  have hp := h.pl _ h1
  refine ⟨hi, ?_⟩
  rcases mem_ents.1 h2 with e | ⟨p, hpm, e⟩
  · left; rw [e]
  · right
    have hv : x.2.ok := Classical.byContradiction fun hv => by
      have := hp.one
      unfold plc covL at this
      rw [dif_neg hv] at this
      simp at this
    obtain ⟨c, hc, hcp⟩ := List.mem_map.1 hpm
    refine ⟨c, cover_cell hv (covL_is hv) hc, ?_⟩
    rw [e, hcp]
/-- Where a search stands: what was met, and what is still to be looked at. -/
structure Sea (r : Box) (tb : List (Int × Box)) (es : List (Key × Box)) (acc : List Int) (l : List (Key × Box)) : Prop where
  todo : Todo (mcW r) (mvW r) es acc l
  sound : Sound (mvW r) tb acc
  len : acc.length + l.length ≤ es.length
theorem Sea.start {r : Box} {tb : List (Int × Box)} {es : List (Key × Box)} {c : Nat × Nat} (h : Idx plc tb es) (hc : NextC r 0 c true) : Sea r tb es [] (frm ((place c : Int), 0) es) :=
  ⟨todo_start [] (fun e _ q _ _ hq => nextC_start hc q hq (Nat.zero_le _)) (fun e he => (ent_kind h he).1.1), Sound.nil _, by have := frm_len ((place c : Int), 0) es; simpa using this⟩
theorem Sea.yes {r : Box} {tb : List (Int × Box)} {es l : List (Key × Box)} {acc : List Int} {x : Key × Box} (h : Idx plc tb es) (hs : Sea r tb es acc (x :: l)) (hx : x ∈ es) (hm : (both x.2 r).ok) : Sea r tb es (acc ++ [x.1.2]) l :=
  ⟨todo_yes hs.todo, hs.sound.more h hx hm, by have := hs.len; simp at *; omega⟩
theorem Sea.no {r : Box} {tb : List (Int × Box)} {es l : List (Key × Box)} {acc : List Int} {x : Key × Box} (hs : Sea r tb es acc (x :: l)) (hm : ¬ (both x.2 r).ok) : Sea r tb es acc l :=
  ⟨todo_no hs.todo hm, hs.sound, by have := hs.len; simp at *; omega⟩
theorem Sea.num {r : Box} {tb : List (Int × Box)} {es l : List (Key × Box)} {acc : List Int} {x : Key × Box} (hs : Sea r tb es acc (x :: l)) (hr : Rising (x :: l)) (hx : x.1.1 = NUM) : Sea r tb es acc [] :=
  ⟨todo_num hs.todo hr hx, hs.sound, by have := hs.len; simp at *; omega⟩
theorem Sea.leap {r : Box} {tb : List (Int × Box)} {es l pre : List (Key × Box)} {acc : List Int} {x : Key × Box} {d c : Nat × Nat} {k : Key} (h : Idx plc tb es) (he : frm k es = pre ++ x :: l) (hs : Sea r tb es acc (x :: l)) (hd : CellOk d) (hx : x.1.1 = (place d : Int)) (hm : ¬ Meets (inWin r) d) (hc : NextC r (cend d) c true) :
    Sea r tb es acc (frm ((place c : Int), 0) es) ∧ (frm ((place c : Int), 0) es).length < (frm k es).length := by
  have hr : Rising (x :: l) := (he ▸ rising_frm h.ris : Rising (pre ++ x :: l)).sub (List.sublist_append_right ..)
  obtain ⟨hco, hcd⟩ := nextC_ok hc
  have hlt : klt x.1 ((place c : Int), 0) := by
    unfold klt
    left
    rw [hx]
    have := hd.size
    have := hco.size
    have := pow_pos4 d.2
    unfold cend at hcd
    unfold place
    simp only
    omega
  have hl := frm_later h.ris he hlt
  have hll := frm_len ((place c : Int), 0) l
  refine ⟨⟨todo_leap hs.todo hr (fun e _ q _ _ hxq hq => nextC_start hc q hq ?_) (fun e he => (ent_kind h he).1.1), hs.sound, ?_⟩, ?_⟩
  · refine behind_end hd hq.1 ?_ hm hq.2.2
    rw [hq.2.1]
    rw [hx] at hxq
    omega
  · have := hs.len
    rw [hl]
    simp at this
    omega
  · rw [hl, he]
    simp
    omega
theorem Sea.none {r : Box} {tb : List (Int × Box)} {es l : List (Key × Box)} {acc : List Int} {x : Key × Box} {d c : Nat × Nat} (hs : Sea r tb es acc (x :: l)) (hr : Rising (x :: l)) (hd : CellOk d) (hx : x.1.1 = (place d : Int)) (hm : ¬ Meets (inWin r) d) (hc : NextC r (cend d) c false) : Sea r tb es acc [] :=
  ⟨todo_none hs.todo hr (fun e _ q _ _ hxq hq => nextC_none hc q hq (behind_end hd hq.1 (by rw [hq.2.1]; rw [hx] at hxq; omega) hm hq.2.2)), hs.sound, by have := hs.len; simp at *; omega⟩
/-- The numbers that a window tells. -/
def IsIds (r : Box) (tb : List (Int × Box)) (ids : List Int) : Prop := (∀ x, x ∈ ids ↔ ∃ v, (x, v) ∈ tb ∧ (both v r).ok) ∧ ids.Pairwise (· < ·)
theorem Sea.done {r : Box} {tb : List (Int × Box)} {es : List (Key × Box)} {acc : List Int} (h : Idx plc tb es) (hr : r.ok) (hs : Sea r tb es acc []) (x : Int) : x ∈ acc ↔ ∃ v, (x, v) ∈ tb ∧ (both v r).ok := by
  refine todo_done h hs.todo hs.sound (fun t ht hm => ?_) x
  have hv : t.2.ok := Classical.byContradiction fun hv => by
    have := (h.pl t ht).one
    unfold plc covL at this
    rw [dif_neg hv] at this
    simp at this
  exact cover_meets hv hr hm
end Go.Proofs.YtdgbgmffpcooeaaGreat
end
section
/- Several marks of loops over functions, taken at the end of a call. -/
namespace Go.Proofs.YtdgbgmffpcooeaaGreat
open Go.RowKit Go.Lib Go.Shelf
/-- The marks of these records. -/
def marks (rs : List Nat) : List Deferred := rs.map fun r => { target := .collected r, args := #[] }
theorem leaves_marks {F : Fence} {n : Nat} {P : Program} {fn : Func} {tmps : Array Value} {R : Ending → World → Prop} : ∀ (rs : List Nat) (W : World), rs.Nodup → (∀ r ∈ rs, W.heap[r]? = some (.deferred (some []))) →
    (∀ W', Off (fun k => k ∈ rs) W W' → LeavesIn F n P fn tmps R [] .returning W') → LeavesInM F n P fn tmps R (marks rs) .returning W
  | [], W, _, _, h => h W (Off.refl _ _)
  | r :: rs, W, hn, hd, h => by
    have hr := hd r List.mem_cons_self
    have ho := off_putObj W r (.deferred none)
    obtain ⟨hn1, hn2⟩ := List.nodup_cons.1 hn
    refine ⟨by simp, .inl ⟨r, _, rfl, run_takeDeferred hr, ?_⟩⟩
    refine leaves_marks rs _ hn2 (fun r' hr' => ?_) (fun W' hW' => h W' ?_)
    · have h' := hd r' (List.mem_cons_of_mem _ hr')
      exact (ho.block r' (Array.getElem?_eq_some_iff.1 h').1 (fun e => hn1 (e ▸ hr'))).trans h'
    · exact (ho.mono (fun k _ e => by rw [e]; exact List.mem_cons_self)).trans (hW'.mono (fun k _ hk => List.mem_cons_of_mem _ hk))
end Go.Proofs.YtdgbgmffpcooeaaGreat
end
section
/- A window's search: what lies where. -/
namespace Go.Proofs.YtdgbgmffpcooeaaGreat
open Go.RowKit Go.Lib
theorem wpIn_scope_wide {n : Nat} {P : Program} {c : Code} {Q : Exit → Act → World → Prop} {a : Act} {w : World} (h : c.wpIn Fence.wide n P (Exit.noGoto Q) a w) : (Code.scope c).wpIn Fence.wide n P Q a w := wpIn_wide.2 (wp_scope_straight (wpIn_wide.1 h))
theorem blk_ne {W : World} {a b t1 t2 : Nat} {v1 v2 : Array Value} (h1 : Blk W a t1 v1) (h2 : Blk W b t2 v2) (ht : t1 ≠ t2) : a ≠ b := fun e => by
  subst e
  have e1 : W.heap[a]? = _ := h1
  have e2 : W.heap[a]? = _ := h2
  rw [e1] at e2
  simp at e2
  exact ht e2.2
/-- What lies where while a window is searched. -/
structure Sb (w : World) (A : PA) (x t : Nat) (dead : Bool) (r : Box) (rs : List Nat) (B7 B8 : Nat) (sv : Value) (acc : List Int) (c : Nat × Nat) (more : Bool) (W : World) : Prop where
  b3 : Blk W w.heap.size 34 (boxC r)
  b4 : Blk W (w.heap.size + 1) 35 #[.slice none 0 0]
  b5 : Blk W (w.heap.size + 1 + 1) 26 #[.int .i64 0]
  b6 : Blk W (w.heap.size + 1 + 1 + 1) 35 #[sv]
  b7 : Blk W B7 99 #[.int .i64 (c.1 : Int), .int .i64 (c.2 : Int)]
  b8 : Blk W B8 4 #[.bool more]
  row : W.ownsRow w.heap.size 3 1 sv acc.length (intsV acc)
  ix : IdxB W x t dead
  off : Off A.F w W
  nd : rs.Nodup
  mks : ∀ k ∈ rs, W.heap[k]? = some (.deferred (some []))
  ge : w.heap.size ≤ B7 ∧ w.heap.size ≤ B8
  ger : ∀ k ∈ rs, w.heap.size ≤ k
section
variable {w X Y : World} {A : PA} {x t : Nat} {dead : Bool} {r : Box} {rs : List Nat} {B7 B8 : Nat} {sv : Value} {acc : List Int} {c : Nat × Nat} {more : Bool}
/-- The blocks that count. -/
def Sk (w : World) (rs : List Nat) (B7 B8 : Nat) (sv : Value) (k : Nat) : Prop := k = w.heap.size ∨ k = w.heap.size + 1 ∨ k = w.heap.size + 1 + 1 ∨ k = w.heap.size + 1 + 1 + 1 ∨ k = B7 ∨ k = B8 ∨ sv.ownBlock = some k ∨ k ∈ rs
theorem Sb.offs (h : Sb w A x t dead r rs B7 B8 sv acc c more X) {G : Nat → Prop} (ho : Off G X Y) (hF : ∀ k, A.F k → k < w.heap.size) (hxF : ¬ A.F x) (hxl : x < w.heap.size) (hG : ∀ k, G k → A.F k ∨ (w.heap.size ≤ k ∧ ¬ Sk w rs B7 B8 sv k)) : Sb w A x t dead r rs B7 B8 sv acc c more Y := by
  have hk : ∀ k, w.heap.size ≤ k → Sk w rs B7 B8 sv k → ¬ G k := fun k hk1 hk2 hg => by
    rcases hG k hg with h1 | ⟨_, h1⟩
    · have := hF k h1; omega
    · exact h1 hk2
  refine ⟨h.b3.off ho (hk _ (Nat.le_refl _) (.inl rfl)), h.b4.off ho (hk _ (by omega) (.inr (.inl rfl))), h.b5.off ho (hk _ (by omega) (.inr (.inr (.inl rfl)))), h.b6.off ho (hk _ (by omega) (.inr (.inr (.inr (.inl rfl))))), h.b7.off ho (hk _ h.ge.1 (.inr (.inr (.inr (.inr (.inl rfl)))))), h.b8.off ho (hk _ h.ge.2 (.inr (.inr (.inr (.inr (.inr (.inl rfl))))))), own_offv h.row ho (fun g hg => hk g (own_tagged h.row hg).1 (.inr (.inr (.inr (.inr (.inr (.inr (.inl hg)))))))), (ho.block x h.ix.lt (fun hg => ?_)).trans h.ix, h.off.step ho (fun k hk1 hg => ?_), h.nd, fun k hm => ?_, h.ge, h.ger⟩
  · rcases hG x hg with h1 | ⟨h1, _⟩
    · exact hxF h1
    · omega
  · rcases hG k hg with h1 | ⟨h1, _⟩
    · exact h1
    · omega
  · have hm' := h.mks k hm
    exact (ho.block k (Array.getElem?_eq_some_iff.1 hm').1 (hk k (h.ger k hm) (.inr (.inr (.inr (.inr (.inr (.inr (.inr hm))))))))).trans hm'
theorem Sb.below (h : Sb w A x t dead r rs B7 B8 sv acc c more X) (hb : Below X.heap.size X Y) (hF : ∀ k, A.F k → k < w.heap.size) (hxF : ¬ A.F x) (hxl : x < w.heap.size) : Sb w A x t dead r rs B7 B8 sv acc c more Y :=
  h.offs (G := fun _ => False) (Off.of_below hb) hF hxF hxl (fun _ h => h.elim)
theorem mk_ne (h : Sb w A x t dead r rs B7 B8 sv acc c more X) {k : Nat} {cs : Array Value} {ty : TypeId} {fr : Nat × Nat} (hk : X.heap[k]? = some (.cells cs ty fr)) : k ∉ rs := fun hm => by
  have := h.mks k hm
  rw [hk] at this
  simp at this
/-- The cell and whether there is more are written anew. -/
theorem Sb.put78 (h : Sb w A x t dead r rs B7 B8 sv acc c more X) (c' : Nat × Nat) (more' : Bool) (hxl : x < w.heap.size) (ho : Off (fun k => k = B7 ∨ k = B8) X Y) (h7 : Blk Y B7 99 #[.int .i64 (c'.1 : Int), .int .i64 (c'.2 : Int)]) (h8 : Blk Y B8 4 #[.bool more']) : Sb w A x t dead r rs B7 B8 sv acc c' more' Y := by
  have n : ∀ k, k ≠ B7 → k ≠ B8 → ¬ (k = B7 ∨ k = B8) := fun k h1 h2 h => h.elim h1 h2
  refine ⟨h.b3.off ho (n _ (blk_ne h.b3 h.b7 (by decide)) (blk_ne h.b3 h.b8 (by decide))), h.b4.off ho (n _ (blk_ne h.b4 h.b7 (by decide)) (blk_ne h.b4 h.b8 (by decide))), h.b5.off ho (n _ (blk_ne h.b5 h.b7 (by decide)) (blk_ne h.b5 h.b8 (by decide))), h.b6.off ho (n _ (blk_ne h.b6 h.b7 (by decide)) (blk_ne h.b6 h.b8 (by decide))), h7, h8, own_offv h.row ho (fun g hg => n _ (own_ne h.row h.b7 (by decide) g hg) (own_ne h.row h.b8 (by decide) g hg)), (ho.block x h.ix.lt (by have := h.ge; omega)).trans h.ix, h.off.step ho (fun k hk1 hg => by have := h.ge; omega), h.nd, fun k hm => ?_, h.ge, h.ger⟩
  have hm' := h.mks k hm
  refine (ho.block k (Array.getElem?_eq_some_iff.1 hm').1 (n _ (fun e => ?_) (fun e => ?_))).trans hm'
  · subst e; exact mk_ne h h.b7 hm
  · subst e; exact mk_ne h h.b8 hm
/-- A number more. -/
theorem Sb.grow (h : Sb w A x t dead r rs B7 B8 sv acc c more X) {sv' : Value} {i : Int} {Z : World} (hxl : x < w.heap.size) (hg : X.grownBy Y sv.ownBlock) (hrow : Y.ownsRow w.heap.size 3 1 sv' (acc.length + 1) (intsV acc ++ [.int .i64 i]))
    (hZ : Z = Y.setCell ⟨w.heap.size + 1 + 1 + 1, 0, none⟩ sv') : Sb w A x t dead r rs B7 B8 sv' (acc ++ [i]) c more Z ∧ Off (fun k => k = w.heap.size + 1 + 1 + 1 ∨ sv.ownBlock = some k) X Z := by
  have oG : Off (fun k => sv.ownBlock = some k) X Y := (Off.refl _ X).grown hg (fun j hj => .inl hj)
  have oZ : Off (fun k => k = w.heap.size + 1 + 1 + 1) Y Z := by rw [hZ]; exact Off.one _ _
  have ho : Off (fun k => k = w.heap.size + 1 + 1 + 1 ∨ sv.ownBlock = some k) X Z := (oG.mono fun k _ e => .inr e).trans (oZ.mono fun k _ e => .inl e)
  have hlt : ∀ k, sv.ownBlock = some k → w.heap.size ≤ k := fun k hk => (own_tagged h.row hk).1
  have y6 : Blk Y (w.heap.size + 1 + 1 + 1) 35 #[sv] := h.b6.off oG (fun hg => own_ne h.row h.b6 (by decide) _ hg rfl)
  have z6 : Blk Z (w.heap.size + 1 + 1 + 1) 35 #[sv'] := by rw [hZ]; exact y6.set 0 sv'
  have hs6 := y6.lt
  refine ⟨⟨h.b3.off ho (fun hg => ?_), h.b4.off ho (fun hg => ?_), h.b5.off ho (fun hg => ?_), z6, h.b7.off ho (fun hg => ?_), h.b8.off ho (fun hg => ?_), ?_, (ho.block x h.ix.lt (fun hg => ?_)).trans h.ix, h.off.step ho (fun k hk1 hg => ?_), h.nd, fun k hm => ?_, h.ge, h.ger⟩, ho⟩
  · rcases hg with hg | hg
    · omega
    · exact own_ne h.row h.b3 (by decide) _ hg rfl
  · rcases hg with hg | hg
    · omega
    · exact own_ne h.row h.b4 (by decide) _ hg rfl
  · rcases hg with hg | hg
    · omega
    · exact own_ne h.row h.b5 (by decide) _ hg rfl
  · rcases hg with hg | hg
    · exact blk_ne h.b7 h.b6 (by decide) hg
    · exact own_ne h.row h.b7 (by decide) _ hg rfl
  · rcases hg with hg | hg
    · exact blk_ne h.b8 h.b6 (by decide) hg
    · exact own_ne h.row h.b8 (by decide) _ hg rfl
  · have e1 : (acc ++ [i]).length = acc.length + 1 := by simp
    have e2 : intsV (acc ++ [i]) = intsV acc ++ [.int .i64 i] := by simp [intsV]
    rw [e1, e2]
    refine own_offv hrow oZ (fun g hg e => ?_)
    subst e
    obtain ⟨_, cs, hc⟩ := own_tagged hrow hg
    have e6 : Y.heap[w.heap.size + 1 + 1 + 1]? = _ := y6
    rw [hc] at e6
    simp at e6
  · rcases hg with hg | hg
    · omega
    · have := hlt x hg; omega
  · rcases hg with hg | hg
    · omega
    · have := hlt k hg; omega
  · have hm' := h.mks k hm
    refine (ho.block k (Array.getElem?_eq_some_iff.1 hm').1 (fun hg => ?_)).trans hm'
    rcases hg with hg | hg
    · subst hg; exact mk_ne h h.b6 hm
    · obtain ⟨_, cs, hc⟩ := own_tagged h.row hg
      exact mk_ne h hc hm
end
end Go.Proofs.YtdgbgmffpcooeaaGreat
end
