/- The walk of Celled, at two rectangles that are right. -/
import Derived.Test.YtdgbgmffpcooeaaCelled
import Derived.Test.YtdgbgmffpcooeaaCovFacts
import Derived.Deep.RegionHeld3
import Derived.Deep.DeepCutAuto
namespace Go.Proofs.Ytdgbgmffpcooeaa
open Go.RowKit

/-- A row of cells in block g. -/
def Row (W : World) (g : Nat) (l : List (Nat × Nat)) : Prop := ∃ cur, W.heap[g]? = some (.cells cur 34 (0, 0)) ∧ cur.toList.take (l.length * 2) = flatC l
theorem Row.lt {W : World} {g : Nat} {l : List (Nat × Nat)} (h : Row W g l) : g < W.heap.size := by obtain ⟨cur, h, _⟩ := h; exact (Array.getElem?_eq_some_iff.1 h).1
theorem Row.below {W W' : World} {g n : Nat} {l : List (Nat × Nat)} (h : Row W g l) (hb : Below n W W') (hn : g < n) : Row W' g l := by
  obtain ⟨cur, h1, h2⟩ := h; exact ⟨cur, (hb.block g hn).trans h1, h2⟩
theorem Row.of {W : World} {base g cap : Nat} {l : List (Nat × Nat)} (h : W.ownsRow base 34 2 (.slice (some ⟨g, 0, none⟩) l.length cap) l.length (flatC l)) : Row W g l := by
  obtain ⟨_, ⟨e, _⟩ | ⟨g', cap', cur, e, _, hb, _, _, _, ht⟩⟩ := h
  · cases e
  · cases e; exact ⟨cur, hb, ht⟩
theorem cap_of {W : World} {base g cap : Nat} {l : List (Nat × Nat)} (h : W.ownsRow base 34 2 (.slice (some ⟨g, 0, none⟩) l.length cap) l.length (flatC l)) : l.length ≤ cap ∧ base ≤ g := by
  obtain ⟨_, ⟨e, _⟩ | ⟨g', cap', cur, e, hb, _, h1, _⟩⟩ := h
  · cases e
  · cases e; exact ⟨h1, hb⟩
theorem Row.at {W : World} {g : Nat} {l : List (Nat × Nat)} (h : Row W g l) (i : Nat) (hi : i < l.length) : W.cell? ⟨g, i * 2, none⟩ = some (.int .i64 ((l[i]).1 : Int)) ∧ W.cell? ⟨g, i * 2 + 1, none⟩ = some (.int .i64 ((l[i]).2 : Int)) := by
  obtain ⟨cur, h1, h2⟩ := h
  have key : ∀ t, t < l.length * 2 → W.cell? ⟨g, t, none⟩ = (flatC l)[t]? := fun t ht => by
    have e : (cur.toList.take (l.length * 2))[t]? = (flatC l)[t]? := by rw [h2]
    rw [List.getElem?_take_of_lt ht, Array.getElem?_toList] at e
    simp [World.cell?, h1, e]
  constructor
  · rw [key _ (by omega), get_flatC, show i * 2 / 2 = i by omega, show i * 2 % 2 = 0 by omega, List.getElem?_eq_getElem hi]; rfl
  · rw [key _ (by omega), get_flatC, show (i * 2 + 1) / 2 = i by omega, show (i * 2 + 1) % 2 = 1 by omega, List.getElem?_eq_getElem hi]; rfl

theorem shl1_of (k M : Nat) (h : 4 ^ k = M) (hk : k ≤ 15) : wrap64 (2 ^ (2 * k)) = (M : Int) := by
  have e4 : 4 ^ k = 2 ^ (2 * k) := by rw [show 4 = 2 ^ 2 from rfl, ← Nat.pow_mul]
  have hb : 4 ^ k ≤ 4 ^ 15 := Nat.pow_le_pow_right (by decide) hk
  rw [pow_cast, ← e4, h]; exact wrap64_nat _ (by omega)
theorem count_take (l : List (Nat × Nat)) (n : Nat) (hn : n < l.length) {f : Nat × Nat → Bool} : (l.take (n + 1)).countP f = (l.take n).countP f + if f (l[n]) then 1 else 0 := by
  rw [List.take_succ_eq_append_getElem hn, List.countP_append]
  simp
/-- What stands while the law looks at the two rows. -/
structure Env (w : World) (r s : Box) (g : Nat) (l : List (Nat × Nat)) (g' : Nat) (l' : List (Nat × Nat)) (W : World) : Prop where
  bel : Below w.heap.size w W
  br : Blk W w.heap.size 30 #[.int .i64 (r.a : Int), .int .i64 (r.b : Int), .int .i64 (r.c : Int), .int .i64 (r.d : Int)]
  bs : Blk W (w.heap.size + 1) 30 #[.int .i64 (s.a : Int), .int .i64 (s.b : Int), .int .i64 (s.c : Int), .int .i64 (s.d : Int)]
  row : Row W g l
  row' : Row W g' l'
theorem Env.on {w W W' : World} {r s : Box} {g g' : Nat} {l l' : List (Nat × Nat)} (h : Env w r s g l g' l' W) (hb : Below W.heap.size W W') : Env w r s g l g' l' W' :=
  ⟨h.bel.trans (hb.mono h.bel.size), h.br.below hb h.br.lt, h.bs.below hb h.bs.lt, h.row.below hb h.row.lt, h.row'.below hb h.row'.lt⟩
theorem Env.drewN {w W : World} {r s : Box} {g g' : Nat} {l l' : List (Nat × Nat)} (h : Env w r s g l g' l' W) (n : Nat) : Env w r s g l g' l' (W.drewN n) := h.on (below_drewN (Below.refl _ _) n)
theorem Env.alloc {w W : World} {r s : Box} {g g' : Nat} {l l' : List (Nat × Nat)} (h : Env w r s g l g' l' W) (o : Obj) : Env w r s g l g' l' (W.alloc o) := h.on ((Below.refl _ _).alloc (Nat.le_refl _) _)
theorem Env.r4 {w W : World} {r s : Box} {g g' : Nat} {l l' : List (Nat × Nat)} (h : Env w r s g l g' l' W) : W.cell? ⟨w.heap.size, 0, none⟩ = some (.int .i64 (r.a : Int)) ∧ W.cell? ⟨w.heap.size, 1, none⟩ = some (.int .i64 (r.b : Int)) ∧ W.cell? ⟨w.heap.size, 2, none⟩ = some (.int .i64 (r.c : Int)) ∧ W.cell? ⟨w.heap.size, 3, none⟩ = some (.int .i64 (r.d : Int)) :=
  ⟨h.br.cell 0, h.br.cell 1, h.br.cell 2, h.br.cell 3⟩
theorem Env.s4 {w W : World} {r s : Box} {g g' : Nat} {l l' : List (Nat × Nat)} (h : Env w r s g l g' l' W) : W.cell? ⟨w.heap.size + 1, 0, none⟩ = some (.int .i64 (s.a : Int)) ∧ W.cell? ⟨w.heap.size + 1, 1, none⟩ = some (.int .i64 (s.b : Int)) ∧ W.cell? ⟨w.heap.size + 1, 2, none⟩ = some (.int .i64 (s.c : Int)) ∧ W.cell? ⟨w.heap.size + 1, 3, none⟩ = some (.int .i64 (s.d : Int)) :=
  ⟨h.bs.cell 0, h.bs.cell 1, h.bs.cell 2, h.bs.cell 3⟩

set_option maxRecDepth 100000 in
set_option maxHeartbeats 4000000 in
theorem celled_yy (r : Box) (hr : r.ok) (s : Box) (hs : s.ok) (x y : Int) (wx : (Lit.int .i64 x).wf = true) (wy : (Lit.int .i64 y).wf = true) (w : World) :
    Calls Try.prog 4 #[.agg #[.int .i64 (r.a : Int), .int .i64 (r.b : Int), .int .i64 (r.c : Int), .int .i64 (r.d : Int)], .agg #[.int .i64 (s.a : Int), .int .i64 (s.b : Int), .int .i64 (s.c : Int), .int .i64 (s.d : Int)], .int .i64 x, .int .i64 y] w fun e w' => e = .returned (.bool true) ∧ Below w.heap.size w w' := by
  have h := rightB_box hr
  have h2 := rightB_box hs
  go_enter Try.func4, Try.ntmps4
  go_wp2_with fail
  refine (qcode_in 65535 65535 _ (by omega) (by omega)).mono ?_
  rintro e w1 ⟨rfl, rfl⟩
  rw [code_last]
  go_wp2_with fail
  refine (qcover_ok r hr _).mono ?_
  rintro e w2 ⟨g, cap, k, l, rfl, hown, hcov, hb2⟩
  have row := Row.of hown
  have hcap := cap_of hown
  clear hown
  have br := ((Blk.new w 30 #[.int .i64 (r.a : Int), .int .i64 (r.b : Int), .int .i64 (r.c : Int), .int .i64 (r.d : Int)]).alloc (.cells #[.int .i64 (s.a : Int), .int .i64 (s.b : Int), .int .i64 (s.c : Int), .int .i64 (s.d : Int)] 30)).below hb2 (by simp; omega)
  have bs := (Blk.new (w.alloc (.cells #[.int .i64 (r.a : Int), .int .i64 (r.b : Int), .int .i64 (r.c : Int), .int .i64 (r.d : Int)] 30)) 30 #[.int .i64 (s.a : Int), .int .i64 (s.b : Int), .int .i64 (s.c : Int), .int .i64 (s.d : Int)]).below hb2 (by simp)
  simp only [World.size_alloc] at bs
  have hB2 : Below w.heap.size w w2 := (((Below.refl _ w).alloc (Nat.le_refl _) _).alloc (by simp) _).trans (hb2.mono (by simp; omega))
  have s0 : w2.cell? ⟨w.heap.size + 1, 0, none⟩ = some (.int .i64 (s.a : Int)) := bs.cell 0
  have s1 : w2.cell? ⟨w.heap.size + 1, 1, none⟩ = some (.int .i64 (s.b : Int)) := bs.cell 1
  have s2 : w2.cell? ⟨w.heap.size + 1, 2, none⟩ = some (.int .i64 (s.c : Int)) := bs.cell 2
  have s3 : w2.cell? ⟨w.heap.size + 1, 3, none⟩ = some (.int .i64 (s.d : Int)) := bs.cell 3
  go_wp2_with fail
  refine (qcover_ok s hs _).mono ?_
  rintro e w3 ⟨g', cap', k', l', rfl, hown', hcov', hb3⟩
  have row' := Row.of hown'
  have hcap' := cap_of hown'
  clear hown'
  have row3 := row.below hb3 row.lt
  have br3 := br.below hb3 br.lt
  have bs3 := bs.below hb3 bs.lt
  have hB3 : Below w.heap.size w w3 := hB2.trans (hb3.mono hB2.size)
  clear s0 s1 s2 s3 br bs hB2 hb2 hb3
  have r0 : w3.cell? ⟨w.heap.size, 0, none⟩ = some (.int .i64 (r.a : Int)) := br3.cell 0
  have r1 : w3.cell? ⟨w.heap.size, 1, none⟩ = some (.int .i64 (r.b : Int)) := br3.cell 1
  have r2 : w3.cell? ⟨w.heap.size, 2, none⟩ = some (.int .i64 (r.c : Int)) := br3.cell 2
  have r3 : w3.cell? ⟨w.heap.size, 3, none⟩ = some (.int .i64 (r.d : Int)) := br3.cell 3
  go_wp2_with fail
  refine (kright_any _ _ _ _ _).mono ?_
  rintro e w4 ⟨rfl, hb4⟩
  have bs4 := bs3.below hb4 bs3.lt
  have br4 := br3.below hb4 br3.lt
  have row4 := row3.below hb4 row3.lt
  have row4' := row'.below hb4 row'.lt
  have hB4 : Below w.heap.size w w4 := hB3.trans (hb4.mono hB3.size)
  have s0 : w4.cell? ⟨w.heap.size + 1, 0, none⟩ = some (.int .i64 (s.a : Int)) := bs4.cell 0
  have s1 : w4.cell? ⟨w.heap.size + 1, 1, none⟩ = some (.int .i64 (s.b : Int)) := bs4.cell 1
  have s2 : w4.cell? ⟨w.heap.size + 1, 2, none⟩ = some (.int .i64 (s.c : Int)) := bs4.cell 2
  have s3 : w4.cell? ⟨w.heap.size + 1, 3, none⟩ = some (.int .i64 (s.d : Int)) := bs4.cell 3
  clear r0 r1 r2 r3 br3 bs3 hB3 hb4
  go_wp2_with fail
  refine (kright_any _ _ _ _ _).mono ?_
  rintro e w5 ⟨rfl, hb5⟩
  have hB5 : Below w.heap.size w w5 := hB4.trans (hb5.mono hB4.size)
  have bs5 := bs4.below hb5 bs4.lt
  have br5 := br4.below hb5 br4.lt
  have row5 := row4.below hb5 row4.lt
  have row5' := row4'.below hb5 row4'.lt
  have env : Env w r s g l g' l' w5 := ⟨hB5, br5, bs5, row5, row5'⟩
  clear s0 s1 s2 s3 bs4 br4 row4 row4' hB4 hb5 row row' row3 hB5 br5 bs5 row5 row5'
  obtain ⟨r0, r1, r2, r3⟩ := env.r4
  obtain ⟨q1, q2, q3, q4⟩ := id hr
  have hpos : (0 : Int) < (r.c : Int) - (r.a : Int) + 1 := by omega
  have hpos2 : (0 : Int) < (r.d : Int) - (r.b : Int) + 1 := by omega
  obtain ⟨X, hX⟩ : ∃ X : Nat, (r.a : Int) + pickI x ((r.c : Int) - (r.a : Int) + 1) = (X : Int) ∧ r.a ≤ X ∧ X ≤ r.c := by
    have := pickI_lt x _ hpos
    exact ⟨((r.a : Int) + pickI x ((r.c : Int) - (r.a : Int) + 1)).toNat, by omega, by omega, by omega⟩
  obtain ⟨Y, hY⟩ : ∃ Y : Nat, (r.b : Int) + pickI y ((r.d : Int) - (r.b : Int) + 1) = (Y : Int) ∧ r.b ≤ Y ∧ Y ≤ r.d := by
    have := pickI_lt y _ hpos2
    exact ⟨((r.b : Int) + pickI y ((r.d : Int) - (r.b : Int) + 1)).toNat, by omega, by omega, by omega⟩
  have HX : Hid (wrap64 ((r.a : Int) + pickI x ((r.c : Int) - (r.a : Int) + 1)) = (X : Int)) := by rw [hX.1]; exact wrap64_nat _ (by omega)
  have HY : Hid (wrap64 ((r.b : Int) + pickI y ((r.d : Int) - (r.b : Int) + 1)) = (Y : Int)) := by rw [hY.1]; exact wrap64_nat _ (by omega)
  have hXY : r.has X Y := ⟨hX.2.1, hX.2.2, hY.2.1, hY.2.2⟩
  have hX6 : X < 65536 := by omega
  have hY6 : Y < 65536 := by omega
  clear hX hY
  go_wp2
  go_quiet ((go_at_call 16; exact Calls.quiet_of_same (pick_eq _ _ _ hpos wx)))
  rw [HX.out]
  have env6 := env.drewN nq
  obtain ⟨w6, hw6⟩ : ∃ w6, w5.drewN nq = w6 := ⟨_, rfl⟩
  rw [hw6] at env6 ⊢
  clear env hw6 r0 r1 r2 r3
  obtain ⟨r0, r1, r2, r3⟩ := env6.r4
  go_wp2
  go_quiet ((go_at_call 16; exact Calls.quiet_of_same (pick_eq _ _ _ hpos2 wy)))
  rw [HY.out]
  have env7 := env6.drewN nq
  obtain ⟨w7, hw7⟩ : ∃ w7, w6.drewN nq = w7 := ⟨_, rfl⟩
  rw [hw7] at env7 ⊢
  clear env6 hw7 r0 r1 r2 r3
  have hl4 : l.length ≤ 4 := by have := hcov.len hr; omega
  have hl1 : 0 < l.length := by have := hcov.len hr; omega
  have hm4 : l'.length ≤ 4 := by have := hcov'.len hs; omega
  have hk15 := hcov.k15 hr
  have hk15' := hcov'.k15 hs
  have hk0 : decide ((k : Int) < 0) = false := by simp
  have hk16 : decide ((16 : Int) < (k : Int)) = false := by simp; omega
  have hk0' : decide ((k' : Int) < 0) = false := by simp
  have hk16' : decide ((16 : Int) < (k' : Int)) = false := by simp; omega
  go_wp2_with fail
  refine (qcode_in X Y _ hX6 hY6).mono ?_
  rintro e w8 ⟨rfl, hw8⟩
  rw [hw8]
  clear hw8
  obtain ⟨P, hP⟩ : ∃ P, code X Y = P := ⟨_, rfl⟩
  rw [hP]
  have HP : Hid (code X Y = P) := hP
  clear hP
  go_wp2
  go_loopw [18] (fun i W => ∃ n : Nat, i = .int .i64 (n : Int) ∧ n ≤ l.length + l'.length ∧ Env w r s g l g' l' W) (fun i _ => l.length + l'.length - (intOf i).toNat)
  case atStart => exact ⟨0, rfl, by omega, env7⟩
  case round =>
    clear env7
    obtain ⟨n, rfl, hn, env⟩ := hrel
    have hgl := env.row.lt
    have hgl' := env.row'.lt
    have hn0 : (0 : Int) ≤ (n : Int) := by omega
    by_cases hlt : n < l.length
    · have hlt1 : (n : Int) < (l.length : Int) := by omega
      have hlt2 : (n : Int) < (l.length : Int) + (l'.length : Int) := by omega
      obtain ⟨a0, a1⟩ := env.row.at n hlt
      have hgood := hcov.good hr (List.getElem_mem hlt)
      rw [hgood.two] at a1
      obtain ⟨ci, hci⟩ : ∃ c, (l[n]).1 = c := ⟨_, rfl⟩
      rw [hci] at a0
      clear hci hgood
      go_wp2
      go_roundw
      case rel => exact ⟨n + 1, by go_num, by omega, env.alloc _⟩
      case measure => simp [intOf]; omega
    · have hlt1 : ¬ (n : Int) < (l.length : Int) := by omega
      by_cases hlt3 : n < l.length + l'.length
      · have hlt2 : (n : Int) < (l.length : Int) + (l'.length : Int) := by omega
        obtain ⟨m, hm⟩ : ∃ m, l.length + m = n := ⟨n - l.length, by omega⟩
        have hm2 : m < l'.length := by omega
        have hm3 : (m : Int) < (l'.length : Int) := by omega
        have hm0 : (0 : Int) ≤ (m : Int) := by omega
        have hsub : (n : Int) - (l.length : Int) = (m : Int) := by omega
        obtain ⟨a0, a1⟩ := env.row'.at m hm2
        have hgood := hcov'.good hs (List.getElem_mem hm2)
        rw [hgood.two] at a1
        obtain ⟨ci, hci⟩ : ∃ c, (l'[m]).1 = c := ⟨_, rfl⟩
        rw [hci] at a0
        clear hci hgood hm
        go_wp2
        go_roundw
        case rel => exact ⟨n + 1, by go_num, by omega, env.alloc _⟩
        case measure => simp [intOf]; omega
      · have hlt2 : ¬ (n : Int) < (l.length : Int) + (l'.length : Int) := by omega
        clear hlt hlt1 hlt3 hn hn0 hgl hgl' hk0 hk0' hk16 hk16'
        go_wp2
        clear hlt2
        obtain ⟨M, hM⟩ : ∃ M, 4 ^ k = M := ⟨_, rfl⟩
        have hM0 : 0 < M := by rw [← hM]; exact Nat.pow_pos (by decide)
        have hM0' : (0 : Int) < (M : Int) := by omega
        have hMb : M ≤ 1073741824 := by rw [← hM]; exact Nat.pow_le_pow_right (by decide) hk15
        have HSH : Hid (wrap64 (2 ^ (2 * k)) = (M : Int)) := shl1_of k M hM hk15
        have HM : Hid (4 ^ k = M) := hM
        clear hM
        go_loopw [17, 20] (fun c i W => ∃ n m : Nat, i = .int .i64 (n : Int) ∧ c = .int .i64 (m : Int) ∧ n ≤ l.length ∧ Hid (m = (l.take n).countP fun z => z.1 / 4 ^ k == P / 4 ^ k) ∧ Env w r s g l g' l' W) (fun _ i _ => l.length - (intOf i).toNat)
        case atStart => exact ⟨0, 0, rfl, rfl, by omega, rfl, env⟩
        case round =>
          clear env
          obtain ⟨n, m, rfl, rfl, hn, hcnt, env⟩ := hrel
          have hgl := env.row.lt
          have hm5 : m ≤ 4 := by
            have h1 : ((l.take n).countP fun z => z.1 / 4 ^ k == P / 4 ^ k) ≤ (l.take n).length := List.countP_le_length
            rw [← hcnt.out, List.length_take] at h1
            omega
          by_cases hlt : n < l.length
          · as_aux_lemma =>
              have hlt1 : (n : Int) < (l.length : Int) := by omega
              have hn0 : (0 : Int) ≤ (n : Int) := by omega
              have hl1' : (0 : Int) < (l.length : Int) := by omega
              obtain ⟨a0, a1⟩ := env.row.at n hlt
              have hgood := hcov.good hr (List.getElem_mem hlt)
              rw [hgood.two] at a1
              obtain ⟨b0, b1⟩ := env.row.at 0 hl1
              rw [(hcov.good hr (List.getElem_mem hl1)).two] at b1
              obtain ⟨ci, hci⟩ : ∃ c, (l[n]).1 = c := ⟨_, rfl⟩
              rw [hci] at a0
              have hmod : ((ci : Int) % (M : Int) != 0) = false := by
                have := hgood.cell
                rw [hci, HM.out] at this
                have h2 : ci % M = 0 := by rw [this]; exact Nat.mul_mod_left _ _
                simp; omega
              have HCI : Hid ((l[n]).1 = ci) := hci
              have HG : Hid (Good r k (l[n])) := hgood
              clear hci hgood b0
              by_cases hz : n = 0
              case' pos =>
                have hz1 : decide ((0 : Int) < (n : Int)) = false := decide_eq_false (by omega)
                have hz2 : decide (0 < n) = false := decide_eq_false (by omega)
                clear hz
                go_wp2
                refine wp_region_quiet_lit (by kernel_rfl) (by kernel_rfl) ?_
                iterate 41 (first | go_big_quiet_step (fail) | quiet_step (fail))
                rw [HSH.out]
                iterate 3 (first | go_big_quiet_step (fail) | quiet_step (fail))
                refine wpQuiet_nil ?_
                intro _ hw'
                obtain ⟨nq, hw''⟩ := hw'
                subst hw''
                clear hz1 hz2
              case' neg =>
                have hz1 : (0 : Int) < (n : Int) := by omega
                have hz2 : 0 < n := by omega
                obtain ⟨j, hj⟩ : ∃ j, j + 1 = n := ⟨n - 1, by omega⟩
                have hjn : j < l.length := by omega
                obtain ⟨d0, d1⟩ := env.row.at j hjn
                have hst := hcov.strict hr j n (by omega) hlt
                obtain ⟨cj, hcj⟩ : ∃ c, (l[j]).1 = c := ⟨_, rfl⟩
                rw [hcj] at d0
                rw [hcj, HCI.out] at hst
                have hlt4 : decide ((ci : Int) ≤ (cj : Int)) = false := decide_eq_false (by omega)
                have hlt5 : decide (ci ≤ cj) = false := decide_eq_false (by omega)
                have hsub : (n : Int) - 1 = (j : Int) := by omega
                have hj0 : (0 : Int) ≤ (j : Int) := by omega
                have hjl : (j : Int) < (l.length : Int) := by omega
                clear hz hj hcj hst d1
                go_wp2
                refine wp_region_quiet_lit (by kernel_rfl) (by kernel_rfl) ?_
                iterate 41 (first | go_big_quiet_step (fail) | quiet_step (fail))
                rw [HSH.out]
                iterate 3 (first | go_big_quiet_step (fail) | quiet_step (fail))
                refine wpQuiet_nil ?_
                intro _ hw'
                obtain ⟨nq, hw''⟩ := hw'
                subst hw''
                clear hz1 hz2 hlt4 hlt5 hsub hj0 hjl hjn d0
              all_goals
                have env9 := env.drewN nq
                obtain ⟨w9, hw9⟩ : ∃ w9, wr.drewN nq = w9 := ⟨_, rfl⟩
                rw [hw9] at env9 ⊢
                clear env hw9 a0 a1 b1 hgl hmod
                have hgl := env9.row.lt
                obtain ⟨a0, a1⟩ := env9.row.at n hlt
                rw [HG.out.two] at a1
                rw [HCI.out] at a0
                obtain ⟨r0, r1, r2, r3⟩ := env9.r4
                have hg := HG.out
                have hcell := hg.cell
                have hfits := hg.fits
                have hmeets := hg.meets
                rw [HCI.out] at hcell hfits hmeets
                have h17 : ∀ W, Calls Try.prog 18 #[.agg #[.int .i64 (ci : Int), .int .i64 (k : Int)]] W fun e w' => e = .returned (.agg #[.int .i64 (sqr (ci / 4 ^ k) k).a, .int .i64 (sqr (ci / 4 ^ k) k).b, .int .i64 (sqr (ci / 4 ^ k) k).c, .int .i64 (sqr (ci / 4 ^ k) k).d]) ∧ Below W.heap.size W w' := fun W => ksquare_any (ci / 4 ^ k) k W (by omega) hfits ci hcell
                obtain ⟨B, hB⟩ : ∃ B, sqr (ci / 4 ^ k) k = B := ⟨_, rfl⟩
                rw [hB] at h17 hmeets
                clear hg hcell hfits hB
                have keepS : ∀ W', Below w9.heap.size w9 W' → W'.cell? ⟨g, n * 2, none⟩ = some (.int .i64 (ci : Int)) ∧ W'.cell? ⟨g, n * 2 + 1, none⟩ = some (.int .i64 (k : Int)) ∧ W'.cell? ⟨w.heap.size, 0, none⟩ = some (.int .i64 (r.a : Int)) ∧ W'.cell? ⟨w.heap.size, 1, none⟩ = some (.int .i64 (r.b : Int)) ∧ W'.cell? ⟨w.heap.size, 2, none⟩ = some (.int .i64 (r.c : Int)) ∧ W'.cell? ⟨w.heap.size, 3, none⟩ = some (.int .i64 (r.d : Int)) := by
                  intro W' hb
                  have e := env9.on hb
                  obtain ⟨x0, x1⟩ := e.row.at n hlt
                  rw [HG.out.two] at x1
                  rw [HCI.out] at x0
                  exact ⟨x0, x1, e.r4⟩
                go_wp2
                go_region_held3 (fun W' => W'.cell? ⟨g, n * 2, none⟩ = some (.int .i64 (ci : Int)) ∧ W'.cell? ⟨g, n * 2 + 1, none⟩ = some (.int .i64 (k : Int)) ∧ W'.cell? ⟨w.heap.size, 0, none⟩ = some (.int .i64 (r.a : Int)) ∧ W'.cell? ⟨w.heap.size, 1, none⟩ = some (.int .i64 (r.b : Int)) ∧ W'.cell? ⟨w.heap.size, 2, none⟩ = some (.int .i64 (r.c : Int)) ∧ W'.cell? ⟨w.heap.size, 3, none⟩ = some (.int .i64 (r.d : Int)))
                  (first
                    | go_keep
                    | exact keepS _ ((Below.refl _ w9).drew.trans hb17)
                    | exact keepS _ (((Below.refl _ w9).drew.trans hb17).trans (hb16.mono hb17.size)))
                  (first
                    | (go_at_call 18; refine (h17 _).mono ?_; rintro e w17 ⟨rfl, hb17⟩)
                    | (go_at_call 17; refine (meet_any B r _).mono ?_; rintro e w16 ⟨rfl, hb16⟩))
                have env16 : Env w r s g l g' l' w16 := env9.on (((Below.refl _ w9).drew.trans hb17).trans (hb16.mono hb17.size))
                clear env9 hb17 hb16 keepS h17 hmeets a0 a1 r0 r1 r2 r3 hgl
                have hgl := env16.row.lt
                obtain ⟨a0, a1⟩ := env16.row.at n hlt
                rw [HG.out.two] at a1
                rw [HCI.out] at a0
                have hP1 := shr_of P k
                have hC1 := shr_of ci k
                obtain ⟨p1, hp1⟩ : ∃ p1, P / 4 ^ k = p1 := ⟨_, rfl⟩
                obtain ⟨c1, hc1⟩ : ∃ c1, ci / 4 ^ k = c1 := ⟨_, rfl⟩
                rw [hp1] at hP1
                rw [hc1] at hC1
                have HS2 : Hid ((l.take (n + 1)).countP (fun z => z.1 / 4 ^ k == P / 4 ^ k) = m + if c1 == p1 then 1 else 0) := by
                  show _ = _
                  rw [count_take l n hlt, HCI.out, hp1, hc1, hcnt.out, hp1]
                clear hp1 hc1
                by_cases he : p1 = c1
                case' pos =>
                  have ht : ((p1 : Int) == (c1 : Int)) = true := by rw [he]; simp
                  have hm1 : Hid (m + 1 = (l.take (n + 1)).countP fun z => z.1 / 4 ^ k == P / 4 ^ k) := by show _ = _; rw [HS2.out, he]; simp
                case' neg =>
                  have ht : ((p1 : Int) == (c1 : Int)) = false := by simp; omega
                  have hm1 : Hid (m = (l.take (n + 1)).countP fun z => z.1 / 4 ^ k == P / 4 ^ k) := by show _ = _; rw [HS2.out, if_neg (by simp; omega)]; rfl
                all_goals
                  clear he HS2
                  go_wp2
                  go_quiet (fail)
                  go_wp2
                  refine ⟨?_, by simp [intOf]; omega⟩
                  first
                    | exact ⟨n + 1, m + 1, by go_num, by go_num, by omega, hm1, env16.drewN _⟩
                    | exact ⟨n + 1, m, by go_num, rfl, by omega, hm1, env16.drewN _⟩
          · have hnl : n = l.length := by omega
            have hlt1 : ¬ (n : Int) < (l.length : Int) := by omega
            have hone : m = 1 := by
              have h1 := hcov.one hr hXY
              rw [HP.out] at h1
              rw [hcnt.out, hnl, List.take_of_length_le (Nat.le_refl _)]; exact h1
            subst hone
            clear hcnt hlt hn hnl hm5 HSH HM hM0 hM0' hMb
            have hlen := hcov.len hr
            have henv := env
            go_upto_region 31 with fail
            go_cut [241] (fun c wx => c = .bool false ∧ Env w r s g l g' l' wx)
            case first =>
              rcases hlen with hl | hl | hl
              · as_aux_lemma =>
                  have t1 : ((l.length : Int) != 1) = false := by rw [hl]; rfl
                  clear hl
                  go_wp2
                  go_meet
                  case rel => exact ⟨rfl, henv⟩
              · as_aux_lemma =>
                  have t1 : ((l.length : Int) != 1) = true := by rw [hl]; rfl
                  have t2 : ((l.length : Int) != 2) = false := by rw [hl]; rfl
                  clear hl
                  go_wp2
                  go_meet
                  case rel => exact ⟨rfl, henv⟩
              · as_aux_lemma =>
                  have t1 : ((l.length : Int) != 1) = true := by rw [hl]; rfl
                  have t2 : ((l.length : Int) != 2) = true := by rw [hl]; rfl
                  have t3 : ((l.length : Int) != 4) = false := by rw [hl]; rfl
                  clear hl
                  go_wp2
                  go_meet
                  case rel => exact ⟨rfl, henv⟩
            case rest =>
              clear henv env hgl hlen
              obtain ⟨rfl, env⟩ := hcut
              have hgl := env.row.lt
              have hl1' : (0 : Int) < (l.length : Int) := by omega
              obtain ⟨b0, b1⟩ := env.row.at 0 hl1
              rw [(hcov.good hr (List.getElem_mem hl1)).two] at b1
              clear b0
              obtain ⟨r0, r1, r2, r3⟩ := env.r4
              go_upto_region 34 with fail
              go_cut [275] (fun c wx => c = .bool false ∧ Env w r s g l g' l' wx)
              case first =>
                by_cases hkz : k = 0
                · have t1 : decide ((0 : Int) < (k : Int)) = false := decide_eq_false (by omega)
                  have t2 : decide (0 < k) = false := decide_eq_false (by omega)
                  clear hkz
                  as_aux_lemma =>
                    go_quiet (fail)
                    go_wp2
                    go_meet
                    case rel => exact ⟨rfl, env.drewN _⟩
                · have t1 : (0 : Int) < (k : Int) := by omega
                  have t2 : 0 < k := by omega
                  obtain ⟨j, hj⟩ : ∃ j, j + 1 = k := ⟨k - 1, by omega⟩
                  have hnf := hcov.size.2 j (by omega)
                  have hsub : (k : Int) - 1 = (j : Int) := by omega
                  have hj0 : (0 : Int) ≤ (j : Int) := by omega
                  have hj15 : j ≤ 15 := by omega
                  obtain ⟨A, hA⟩ : ∃ A, r.a / 2 ^ j = A := ⟨_, rfl⟩
                  obtain ⟨C, hC⟩ : ∃ A, r.c / 2 ^ j = A := ⟨_, rfl⟩
                  obtain ⟨B, hB⟩ : ∃ A, r.b / 2 ^ j = A := ⟨_, rfl⟩
                  obtain ⟨D, hD⟩ : ∃ A, r.d / 2 ^ j = A := ⟨_, rfl⟩
                  have sA := shr_nat r.a j
                  have sB := shr_nat r.b j
                  have sC := shr_nat r.c j
                  have sD := shr_nat r.d j
                  have lA : A ≤ r.a := by rw [← hA]; exact Nat.div_le_self _ _
                  have lB : B ≤ r.b := by rw [← hB]; exact Nat.div_le_self _ _
                  have lC : C ≤ r.c := by rw [← hC]; exact Nat.div_le_self _ _
                  have lD : D ≤ r.d := by rw [← hD]; exact Nat.div_le_self _ _
                  unfold Fits at hnf
                  rw [hA, hB, hC, hD] at hnf
                  rw [hA] at sA; rw [hB] at sB; rw [hC] at sC; rw [hD] at sD
                  clear hkz hj hA hB hC hD
                  by_cases h1 : C ≤ A + 1
                  · have u1 : (C : Int) - (A : Int) < 2 := by omega
                    have u2 : decide ((D : Int) - (B : Int) < 2) = false := decide_eq_false (by omega)
                    clear hnf h1
                    as_aux_lemma =>
                      go_quiet (fail)
                      go_wp2
                      go_meet
                      case rel => exact ⟨rfl, env.drewN _⟩
                  · have u1 : decide ((C : Int) - (A : Int) < 2) = false := decide_eq_false (by omega)
                    clear hnf h1
                    as_aux_lemma =>
                      go_quiet (fail)
                      go_wp2
                      go_meet
                      case rel => exact ⟨rfl, env.drewN _⟩
              case rest =>
                clear env hgl b1 r0 r1 r2 r3
                obtain ⟨rfl, env⟩ := hcut
                obtain ⟨mx, hmx⟩ : ∃ mx, max k k' = mx := ⟨_, rfl⟩
                have hmax : (if (k : Int) < (k' : Int) then (k' : Int) else (k : Int)) = (mx : Int) := by rw [both_max, hmx]
                have hmx15 : mx ≤ 15 := by omega
                have HMX : Hid (max k k' = mx) := hmx
                have HMAX : Hid (max (k : Int) (k' : Int) = (mx : Int)) := by show _ = _; omega
                clear hmx
                go_wp2
                go_loopw [23, 24] (fun q i W => ∃ (b : Bool) (n : Nat), q = .bool b ∧ i = .int .i64 (n : Int) ∧ n ≤ l.length ∧ Hid (b = false → ∀ i, i < n → ∀ j, j < l'.length → (l.getD i (0, 0)).1 / 4 ^ mx ≠ (l'.getD j (0, 0)).1 / 4 ^ mx) ∧ Env w r s g l g' l' W) (fun _ i _ => l.length - (intOf i).toNat)
                case atStart => exact ⟨false, 0, rfl, rfl, by omega, fun _ i hi => by omega, env⟩
                case round =>
                  clear env
                  obtain ⟨b, n, rfl, rfl, hn, hno, env⟩ := hrel
                  by_cases hlt : n < l.length
                  · have hlt1 : (n : Int) < (l.length : Int) := by omega
                    have hn0 : (0 : Int) ≤ (n : Int) := by omega
                    go_wp2
                    go_loopw [23, 25] (fun q i W => ∃ (b : Bool) (t : Nat), q = .bool b ∧ i = .int .i64 (t : Int) ∧ t ≤ l'.length ∧ Hid (b = false → (∀ i, i < n → ∀ j, j < l'.length → (l.getD i (0, 0)).1 / 4 ^ mx ≠ (l'.getD j (0, 0)).1 / 4 ^ mx) ∧ ∀ j, j < t → (l.getD n (0, 0)).1 / 4 ^ mx ≠ (l'.getD j (0, 0)).1 / 4 ^ mx) ∧ Env w r s g l g' l' W) (fun _ i _ => l'.length - (intOf i).toNat)
                    case atStart => exact ⟨b, 0, rfl, rfl, by omega, fun h => ⟨hno.out h, fun j hj => by omega⟩, env⟩
                    case round =>
                      clear env hno
                      obtain ⟨b2, t, rfl, rfl, ht, hno, env⟩ := hrel
                      by_cases hlt2 : t < l'.length
                      · as_aux_lemma =>
                          have ht1 : (t : Int) < (l'.length : Int) := by omega
                          have ht0 : (0 : Int) ≤ (t : Int) := by omega
                          have hcn : (l.getD n (0, 0)) = l[n] := by rw [List.getD_eq_getElem?_getD, List.getElem?_eq_getElem hlt]; rfl
                          have hct : (l'.getD t (0, 0)) = l'[t] := by rw [List.getD_eq_getElem?_getD, List.getElem?_eq_getElem hlt2]; rfl
                          obtain ⟨cn, hcn2⟩ : ∃ c, (l[n]).1 = c := ⟨_, rfl⟩
                          obtain ⟨ct, hct2⟩ : ∃ c, (l'[t]).1 = c := ⟨_, rfl⟩
                          have hno' : Hid (b2 = false → (∀ i, i < n → ∀ j, j < l'.length → (l.getD i (0, 0)).1 / 4 ^ mx ≠ (l'.getD j (0, 0)).1 / 4 ^ mx) ∧ ∀ j, j < t → (l.getD n (0, 0)).1 / 4 ^ mx ≠ (l'.getD j (0, 0)).1 / 4 ^ mx) := hno
                          have HNT : Hid ((l.getD n (0, 0)).1 = cn ∧ (l'.getD t (0, 0)).1 = ct) := ⟨by rw [hcn]; exact hcn2, by rw [hct]; exact hct2⟩
                          have g2 := (hcov.good hr (List.getElem_mem hlt)).two
                          have g2' := (hcov'.good hs (List.getElem_mem hlt2)).two
                          have at_of : ∀ W, Env w r s g l g' l' W → W.cell? ⟨g, n * 2, none⟩ = some (.int .i64 (cn : Int)) ∧ W.cell? ⟨g, n * 2 + 1, none⟩ = some (.int .i64 (k : Int)) ∧ W.cell? ⟨g', t * 2, none⟩ = some (.int .i64 (ct : Int)) ∧ W.cell? ⟨g', t * 2 + 1, none⟩ = some (.int .i64 (k' : Int)) := by
                            intro W e
                            obtain ⟨x0, x1⟩ := e.row.at n hlt
                            obtain ⟨y0, y1⟩ := e.row'.at t hlt2
                            rw [hcn2] at x0; rw [g2] at x1; rw [hct2] at y0; rw [g2'] at y1
                            exact ⟨x0, x1, y0, y1⟩
                          have hgl := env.row.lt
                          have hgl' := env.row'.lt
                          obtain ⟨a0, a1, d0, d1⟩ := at_of _ env
                          clear hno hcn hct hcn2 hct2 g2 g2'
                          go_wp2
                          go_quiet (fail)
                          rw [HMAX.out]
                          have env9 := env.drewN nq
                          obtain ⟨w9, hw9⟩ : ∃ w9, wr.drewN nq = w9 := ⟨_, rfl⟩
                          rw [hw9] at env9 ⊢
                          clear env hw9 a0 a1 d0 d1 hgl hgl'
                          have hgl := env9.row.lt
                          have hgl' := env9.row'.lt
                          obtain ⟨a0, a1, d0, d1⟩ := at_of _ env9
                          clear at_of
                          have sN := shr_of cn mx
                          have sT := shr_of ct mx
                          obtain ⟨p1, hp1⟩ : ∃ p1, cn / 4 ^ mx = p1 := ⟨_, rfl⟩
                          obtain ⟨c1, hc1⟩ : ∃ c1, ct / 4 ^ mx = c1 := ⟨_, rfl⟩
                          rw [hp1] at sN
                          rw [hc1] at sT
                          have HPC : Hid ((l.getD n (0, 0)).1 / 4 ^ mx = p1 ∧ (l'.getD t (0, 0)).1 / 4 ^ mx = c1) := ⟨by rw [HNT.out.1]; exact hp1, by rw [HNT.out.2]; exact hc1⟩
                          clear hp1 hc1
                          cases b2 with
                          | true =>
                            go_wp2
                            go_quiet (fail)
                            go_wp2
                            exact ⟨⟨true, t + 1, rfl, by go_num, by omega, (fun h => by cases h), env9.drewN _⟩, by simp [intOf]; omega⟩
                          | false =>
                            have HN : Hid ((∀ i, i < n → ∀ j, j < l'.length → (l.getD i (0, 0)).1 / 4 ^ mx ≠ (l'.getD j (0, 0)).1 / 4 ^ mx) ∧ ∀ j, j < t → (l.getD n (0, 0)).1 / 4 ^ mx ≠ (l'.getD j (0, 0)).1 / 4 ^ mx) := hno'.out rfl
                            clear hno'
                            go_wp2
                            go_quiet (fail)
                            go_wp2
                            refine ⟨⟨_, t + 1, rfl, by go_num, by omega, (fun h => ⟨HN.out.1, fun j hj => ?_⟩), env9.drewN _⟩, by simp [intOf]; omega⟩
                            by_cases hjt : j < t
                            · exact HN.out.2 j hjt
                            · rw [show j = t by omega, HPC.out.1, HPC.out.2]
                              intro e
                              rw [e] at h
                              simp at h
                      · have ht1 : ¬ (t : Int) < (l'.length : Int) := by omega
                        have htl : t = l'.length := by omega
                        have hno3 : Hid (b2 = false → ∀ i, i < n + 1 → ∀ j, j < l'.length → (l.getD i (0, 0)).1 / 4 ^ mx ≠ (l'.getD j (0, 0)).1 / 4 ^ mx) := by
                          intro hb i hi j hj
                          by_cases hin : i < n
                          · exact (hno.out hb).1 i hin j hj
                          · rw [show i = n by omega]; exact (hno.out hb).2 j (by omega)
                        clear hno htl
                        go_wp2
                        go_roundw
                        case rel => exact ⟨b2, n + 1, rfl, by go_num, by omega, hno3, env⟩
                        case measure => simp [intOf]; omega
                  · have hlt1 : ¬ (n : Int) < (l.length : Int) := by omega
                    have hcase : Hid (b = false → meetB r s = false) := by
                      intro hb
                      cases hm : meetB r s with
                      | false => rfl
                      | true =>
                        obtain ⟨c, hc, c', hc', e⟩ := covers_meet hr hs hcov hcov' hm
                        obtain ⟨i, hi, ei⟩ := List.getElem_of_mem hc
                        obtain ⟨j, hj, ej⟩ := List.getElem_of_mem hc'
                        have := hno.out hb i (by omega) j hj
                        rw [List.getD_eq_getElem?_getD, List.getD_eq_getElem?_getD, List.getElem?_eq_getElem hi, List.getElem?_eq_getElem hj, Option.getD_some, Option.getD_some, ei, ej, ← HMX.out] at this
                        exact absurd e this
                    clear hno
                    obtain ⟨r0, r1, r2, r3⟩ := env.r4
                    obtain ⟨s0, s1, s2, s3⟩ := env.s4
                    go_wp2_with fail
                    refine (meet_any r s _).mono ?_
                    rintro e w20 ⟨rfl, hb20⟩
                    have hfin : Below w.heap.size w w20 := (env.on hb20).bel
                    clear r0 r1 r2 r3 s0 s1 s2 s3
                    cases b with
                    | true =>
                      go_wp2
                      go_ret
                      exact ⟨rfl, hfin⟩
                    | false =>
                      have hmf := hcase.out rfl
                      go_wp2
                      go_ret
                      exact ⟨rfl, hfin⟩
end Go.Proofs.Ytdgbgmffpcooeaa
