/- Im2 Nw0 Nw1 Nw2 Nw3 Nw4 -/
import Derived.Test.YtdgbgmffpcooeaaGreatI50
import Derived.Lib.ConvBytes
namespace Go.Proofs.YtdgbgmffpcooeaaGreat
open Go.RowKit Go.Lib
section
structure ByA (W : World) (g m : Nat) : Prop where
  lt : g < W.heap.size
  there : W.there g 0 m
  cell : ∀ j, j < m → ∃ u : UInt8, W.cell? ⟨g, j, none⟩ = some (.int .u8 (u.toNat : Int))
theorem ByA.below {W W' : World} {g m : Nat} (h : ByA W g m) (hb : Below W.heap.size W W') : ByA W' g m := by
  have hblk := hb.block g h.lt
  have e : ∀ j, W'.cell? ⟨g, j, none⟩ = W.cell? ⟨g, j, none⟩ := fun j => World.cell?_of_block (a := ⟨g, j, none⟩) hblk
  have f : ∀ j, W'.frozen? ⟨g, j, none⟩ = W.frozen? ⟨g, j, none⟩ := fun j => by simp [World.frozen?, hblk]
  refine ⟨Nat.lt_of_lt_of_le h.lt hb.size, fun j hj => ?_, fun j hj => ?_⟩
  · rw [e, f]; exact h.there j hj
  · rw [e]; exact h.cell j hj
theorem ByA.puts {W : World} {g m : Nat} (h : ByA W g m) (o : Nat) (vs : List Value) (hv : ∀ v ∈ vs, ∃ u : UInt8, v = .int .u8 (u.toNat : Int)) (ho : o + vs.length ≤ m) : ByA (W.setCells g o vs) g m ∧ Off (fun k => k = g) W (W.setCells g o vs) := by
  have hoff : Off (fun k => k = g) W (W.setCells g o vs) := Off.setCells (F := fun k => k = g) (B := g) (.inl rfl) vs o W (Off.refl _ _)
  refine ⟨⟨Nat.lt_of_lt_of_le h.lt hoff.size, World.there_setCells h.there g o vs, fun j hj => ?_⟩, hoff⟩
  by_cases hin : o ≤ j ∧ j < o + vs.length
  · obtain ⟨k, rfl⟩ : ∃ k, j = o + k := ⟨j - o, by omega⟩
    have := World.cell?_setCells_in g vs o W (fun i hi => by have := (h.there (o + i) (by omega)).1; rwa [Nat.zero_add] at this) k (by omega)
    rw [this]
    obtain ⟨u, hu⟩ := hv (vs[k]'(by omega)) (List.getElem_mem _)
    exact ⟨u, by rw [hu]⟩
  · rw [World.cell?_setCells_out g vs o W ⟨g, j, none⟩ (fun _ _ => by show j < o ∨ o + vs.length ≤ j; omega)]
    exact h.cell j hj
theorem ByA.part {W : World} {g m : Nat} (h : ByA W g m) {o n : Nat} (ho : o + n ≤ m) : W.there g o n := fun j hj => by
  have := h.there (o + j) (by omega)
  rwa [Nat.zero_add] at this
theorem strCells_bytes (b : ByteArray) : ∀ v ∈ strCells b, ∃ u : UInt8, v = .int .u8 (u.toNat : Int) := fun v hv => by
  unfold strCells at hv
  obtain ⟨u, _, rfl⟩ := List.mem_map.1 hv
  exact ⟨u, rfl⟩
theorem ByA.list {W : World} {g m : Nat} (h : ByA W g m) : ∃ l : List UInt8, l.length = m ∧ ∀ j (hj : j < l.length), W.cell? ((⟨g, 0, none⟩ : Addr).add j) = some (.int .u8 (l[j].toNat : Int)) := by
  obtain ⟨f, hf⟩ : ∃ f : Nat → UInt8, ∀ j, j < m → W.cell? ⟨g, j, none⟩ = some (.int .u8 ((f j).toNat : Int)) := by
    refine ⟨fun j => if hj : j < m then (h.cell j hj).choose else 0, fun j hj => ?_⟩
    simp only [hj, dif_pos]
    exact (h.cell j hj).choose_spec
  refine ⟨(List.range m).map f, by simp, fun j hj => ?_⟩
  have hj' : j < m := by simpa using hj
  rw [Addr.add_mid, Nat.zero_add, hf j hj']
  simp
theorem ByA.new (w : World) (s : ByteArray) : ByA (bytesWorld w 5 s) w.heap.size s.size ∧ Below w.heap.size w (bytesWorld w 5 s) := by
  have hn := bytesWorld_at_new w 5 s
  have hsz : s.size ≤ (bytesCells w 5 s).size := by
    unfold bytesCells
    rw [Array.size_append, Array.size_map]
    have : s.data.size = s.size := rfl
    omega
  refine ⟨⟨by rw [bytesWorld_size]; omega, fun j hj => ?_, fun j hj => ⟨_, bytesWorld_cell w 5 s j hj⟩⟩, ⟨rfl, rfl, rfl, by rw [bytesWorld_size]; omega, fun k hk => bytesWorld_at_old w 5 s k hk⟩⟩
  rw [Nat.zero_add, bytesWorld_cell w 5 s j hj]
  refine ⟨rfl, ?_⟩
  simp [World.frozen?, hn]
  omega
theorem open_any {w : World} {N : Nat → Prop} {A : PA} {σ : PS} (hp : PD w 0 A σ) (hf : Free σ) (hN : (∀ k, A.F k → ¬ N k) ∧ ∀ k, N k → k < w.heap.size) :
    Calls Tryz.prog 21 #[.pointer (some ⟨A.p, 0, none⟩)] w fun e w' => ∃ (pv : Option Addr) (er : Int), e = .returned (.tuple #[.pointer pv, .int .i64 er]) ∧ CalmW N w w' ∧ ((∃ X' σ' tb, pv = some ⟨X', 0, none⟩ ∧ er = 0 ∧ LiveX w' N A.p X' σ.n σ' tb) ∨ (pv = none ∧ er = 7)) := by
  have hlf : -1 ≤ σ.left ∧ σ.left ≤ 9223372036854775807 := by have := hf.1; omega
  refine qopen_go w A.p A.q hp.blkP _ ((iopen_live w 0 A σ hp hf.brk hlf).mono ?_)
  rintro e w' ⟨ho, ⟨x, t, m', f, fr, root, es, us, tb, r, rfl, hm, ht, hx, hIx, hT, hfr, hI, _⟩ | ⟨rfl, _, _⟩⟩
  · left
    have hc : CalmW N w w' := CalmW.off ho hp.tags hN.1
    have hb : Below w'.heap.size w' (w'.alloc (.cells #[.pointer (some ⟨x, 0, none⟩)] 91)) := (Below.refl _ w').alloc (Nat.le_refl _) _
    have hfl : (σ.at_ r).flush.2 = (σ.at_ r).asked.spent.settled := by unfold PS.flush; rw [show (σ.at_ r).brk = false from hf.brk]; rfl
    have hfr2 := (Free.flush (s := σ.at_ r) hf).1
    refine ⟨x, rfl, _, 0, rfl, hc.trans (CalmW.below hb), .inl ⟨w'.heap.size, (σ.at_ r).flush.2, tb, rfl, rfl, { A with m := m' }, x, t, f, fr, root, es, us, rfl, by rw [hfl]; rfl, Blk.new w' 91 _, hIx.below hb, ?_, hfr2, newm hN.1 hN.2 hm, fun h => by have := hN.2 t h; omega, fun h => by have := hN.2 x h; omega, fun k hk => by have := hN.2 k hk; have := hc.size; have := hb.size; omega⟩⟩
    refine ⟨by rw [hfl]; exact hT.congr rfl rfl (fun _ _ => rfl), by rw [hfl]; exact hfr, hI, by rw [hfl]; exact fun _ => rfl, by have := hfr2.1; omega⟩
  · exact .inr ⟨7, by decide, rfl, none, 7, rfl, CalmW.off ho hp.tags hN.1, .inr ⟨rfl, rfl⟩⟩
end
section
def MoveR (w : World) (N : Nat → Prop) (G p n : Nat) (rm : Int) (e : Ending) (w' : World) : Prop :=
  e = .returned (.bool true) ∧ Keep N w w' ∧ ∃ X' σ' tb', GameX w' N G p X' n σ' rm tb'
def MoveT (w : World) (N : Nat → Prop) (G p n : Nat) (rm : Int) (tb : List (Int × Box)) (e : Ending) (w' : World) : Prop :=
  e = .returned (.bool true) ∧ Keep N w w' ∧ ∃ X' σ', GameX w' N G p X' n σ' rm tb
theorem MoveT.r {w : World} {N : Nat → Prop} {G p n : Nat} {rm : Int} {tb : List (Int × Box)} {e : Ending} {w' : World} (h : MoveT w N G p n rm tb e w') : MoveR w N G p n rm e w' := by
  obtain ⟨h1, h2, X', σ', h3⟩ := h
  exact ⟨h1, h2, X', σ', tb, h3⟩
section
variable {w : World} {N : Nat → Prop} {p X n : Nat} {σ : PS} {tb : List (Int × Box)}
theorem room_put (h : LiveX w N p X n σ tb) {id : Int} (hid : 0 ≤ id ∧ id ≤ 4611686018427387904) {v : Box} (hv : v.ok) :
    Calls Tryz.prog 10 #[.pointer (some ⟨X, 0, none⟩), .int .i64 id, .agg (boxC v)] w fun e w' => CalmW N w w' ∧ ∃ er : Int, e = .returned (.int .i64 er) ∧ ((er = 0 ∧ ∃ σ', LiveX w' N p X n σ' (tput id v tb)) ∨ (er = 10 ∧ ∃ σ', LiveX w' N p X n σ' tb)) := by
  refine (b_put h.b.1 hid hv (full := True) (.inl trivial)).mono ?_
  rintro e w' ⟨hc, ⟨e1, σ', hL, ha, hf⟩ | ⟨_, _, hn⟩ | ⟨e1, _, σ', hL, ha, hf⟩⟩
  · exact ⟨hc, 0, e1, .inl ⟨rfl, σ', hL.x (hf h.b.2)⟩⟩
  · exact absurd h.b.2 hn
  · exact ⟨hc, 10, e1, .inr ⟨rfl, σ', hL.x (hf h.b.2)⟩⟩
theorem room_del (h : LiveX w N p X n σ tb) {id : Int} (hid : 0 ≤ id ∧ id ≤ 4611686018427387904) {v0 : Box} (hg : tget id tb = some v0) :
    Calls Tryz.prog 35 #[.pointer (some ⟨X, 0, none⟩), .int .i64 id] w fun e w' => CalmW N w w' ∧ ∃ er : Int, e = .returned (.int .i64 er) ∧ ((er = 0 ∧ ∃ σ', LiveX w' N p X n σ' (tdel id tb)) ∨ (er = 10 ∧ ∃ σ', LiveX w' N p X n σ' tb)) := by
  refine (b_del h.b.1 hid hg (full := True) (.inl trivial)).mono ?_
  rintro e w' ⟨hc, ⟨e1, σ', hL, ha, hf⟩ | ⟨_, _, hn⟩ | ⟨e1, _, σ', hL, ha, hf⟩⟩
  · exact ⟨hc, 0, e1, .inl ⟨rfl, σ', hL.x (hf h.b.2)⟩⟩
  · exact absurd h.b.2 hn
  · exact ⟨hc, 10, e1, .inr ⟨rfl, σ', hL.x (hf h.b.2)⟩⟩
theorem room_none (h : LiveX w N p X n σ tb) {id : Int} (hid : 0 ≤ id ∧ id ≤ 4611686018427387904) (hg : tget id tb = none) :
    Calls Tryz.prog 35 #[.pointer (some ⟨X, 0, none⟩), .int .i64 id] w fun e w' => CalmW N w w' ∧ e = .returned (.int .i64 9) ∧ ∃ σ', LiveX w' N p X n σ' tb := by
  obtain ⟨A, x, t, f, fr, root, es, us, h1, h2, h3, h4, h5, h6⟩ := h
  refine qdel_go w X x h3 id _ (idel_go w x t h4.ix id (idB_of hid) _ ?_)
  refine (remove_new w 0 A σ x t false f fr root es us tb h4 h5 h6.1.brk id hg).mono ?_
  rintro e w' ⟨rfl, ho, r, hr, hI⟩
  refine ⟨9, rfl, ⟨_, hI.ix⟩, 9, rfl, ?_⟩
  have hc : CalmW N w w' := CalmW.off ho h4.pd.tags h6.2.1
  have hm : mindW w' x 9 = w' := by unfold mindW; rw [if_neg (by decide)]
  rw [hm]
  exact ⟨hc, rfl, _, live_at h1 h2 (hc.blk h3 (by unfold own5; omega)) r hI h5 ⟨h6.1, h6.2.1, h6.2.2.1, h6.2.2.2.1, fun k hk => Nat.lt_of_lt_of_le (h6.2.2.2.2 k hk) hc.size⟩⟩
end
end
section
set_option maxRecDepth 100000 in
set_option maxHeartbeats 4000000 in
theorem gputr_any (w : World) (N : Nat → Prop) (G p X n : Nat) (σ : PS) (room : Int) (tb : List (Int × Box)) (h : GameX w N G p X n σ room tb) (id : Int) (hid : 0 ≤ id ∧ id ≤ 4611686018427387904) (v : Box) (hv : v.ok)  :
    Calls Tryz.prog 25 #[.pointer (some ⟨G, 0, none⟩), .int .i64 id, .agg (boxC v)] w fun e w' => (∃ er : Int, e = .returned (.int .i64 er) ∧ (er = 0 ∨ er = 10)) ∧ Keep N w w' ∧ ∃ σ' tb', GameX w' N G p X n σ' room tb' := by
  obtain ⟨W0, hW0⟩ : ∃ W0, w.alloc (.cells #[.int .i64 (v.a : Int), .int .i64 (v.b : Int), .int .i64 (v.c : Int), .int .i64 (v.d : Int)] 34) = W0 := ⟨_, rfl⟩
  have hb0 : Below w.heap.size w W0 := by rw [← hW0]; exact (Below.refl _ w).alloc (Nat.le_refl _) _
  have B0 : Blk W0 w.heap.size 34 (boxC v) := by rw [← hW0]; exact Blk.new w 34 (boxC v)
  obtain ⟨sv, hG, hT, hL, hbG⟩ := h.below hb0
  have HBW : Hid (Keep N w W0) := Keep.below hb0
  have HW0 : Hid (w.alloc (.cells #[.int .i64 (v.a : Int), .int .i64 (v.b : Int), .int .i64 (v.c : Int), .int .i64 (v.d : Int)] 34) = W0) := hW0
  have HU : Hid (Ups tb ∧ tb.length ≤ 1000000) := ⟨hL.up.1, hL.up.2.2.2.1⟩
  have hc := room_put (hL.below ((Below.refl _ W0).drew)) hid hv
  have q0 : W0.cell? ⟨w.heap.size, 0, none⟩ = some (.int .i64 (v.a : Int)) := B0.cell 0
  have q1 : W0.cell? ⟨w.heap.size, 1, none⟩ = some (.int .i64 (v.b : Int)) := B0.cell 1
  have q2 : W0.cell? ⟨w.heap.size, 2, none⟩ = some (.int .i64 (v.c : Int)) := B0.cell 2
  have q3 : W0.cell? ⟨w.heap.size, 3, none⟩ = some (.int .i64 (v.d : Int)) := B0.cell 3
  have qX : W0.cell? ⟨G, 1, none⟩ = some (.pointer (some ⟨X, 0, none⟩)) := hG.cell 1
  have HK : Hid (∀ W', CalmW N W0.drew W' → Blk W' G 62 (gameC p X sv room) ∧ Blk W' w.heap.size 34 (boxC v) ∧ TabV W' 0 sv tb) := fun W' hC => ⟨hC.blk hG.drew (by unfold own5; omega), hC.blk B0.drew (by unfold own5; omega), hC.row (own_below hT ((Below.refl _ W0).drew)) (by unfold own5; omega)⟩
  have HS : Hid (∀ W', Blk W' G 62 (gameC p X sv room) → Blk W' w.heap.size 34 (boxC v) → W'.cell? ⟨G, 1, none⟩ = some (.pointer (some ⟨X, 0, none⟩)) ∧ W'.cell? ⟨w.heap.size, 0, none⟩ = some (.int .i64 (v.a : Int)) ∧ W'.cell? ⟨w.heap.size, 1, none⟩ = some (.int .i64 (v.b : Int)) ∧ W'.cell? ⟨w.heap.size, 2, none⟩ = some (.int .i64 (v.c : Int)) ∧ W'.cell? ⟨w.heap.size, 3, none⟩ = some (.int .i64 (v.d : Int))) := fun W' a b => ⟨a.cell 1, b.cell 0, b.cell 1, b.cell 2, b.cell 3⟩
  have hs0 := hb0.size
  clear hW0 h hG B0 hb0 hT hL
  go_enter Tryz.func25, Tryz.ntmps25
  go_upto_region 1 with fail
  rw [HW0.out]
  go_region_held3 (fun W' => W'.cell? ⟨G, 1, none⟩ = some (.pointer (some ⟨X, 0, none⟩)) ∧ W'.cell? ⟨w.heap.size, 0, none⟩ = some (.int .i64 (v.a : Int)) ∧ W'.cell? ⟨w.heap.size, 1, none⟩ = some (.int .i64 (v.b : Int)) ∧ W'.cell? ⟨w.heap.size, 2, none⟩ = some (.int .i64 (v.c : Int)) ∧ W'.cell? ⟨w.heap.size, 3, none⟩ = some (.int .i64 (v.d : Int)))
    (first
      | exact ⟨qX, q0, q1, q2, q3⟩
      | exact HS.out _ (HK.out _ hC1).1 (HK.out _ hC1).2.1
      | go_keep)
    ((go_at_call 10; refine hc.mono ?_; rintro e w1 ⟨hC1, er, rfl, hcase⟩))
  obtain ⟨g1, b1, t1⟩ := HK.out w1 hC1
  have hs1 : W0.heap.size ≤ w1.heap.size := hC1.size
  have HBW1 : Hid (Keep N w w1) := HBW.out.trans ((Keep.below ((Below.refl _ W0).drew)).trans hC1.keep)
  have HG1 : Hid (Blk w1 G 62 (gameC p X sv room)) := g1
  obtain ⟨sa, sc, rfl, _, _, _⟩ := own_shape t1
  have hmp := mput_any w1.drew 0 (.slice sa tb.length sc) tb (own_below t1 ((Below.refl _ w1).drew)) HU.out.1 HU.out.2 id v
  have p0 : w1.cell? ⟨w.heap.size, 0, none⟩ = some (.int .i64 (v.a : Int)) := b1.cell 0
  have p1 : w1.cell? ⟨w.heap.size, 1, none⟩ = some (.int .i64 (v.b : Int)) := b1.cell 1
  have p2 : w1.cell? ⟨w.heap.size, 2, none⟩ = some (.int .i64 (v.c : Int)) := b1.cell 2
  have p3 : w1.cell? ⟨w.heap.size, 3, none⟩ = some (.int .i64 (v.d : Int)) := b1.cell 3
  have pS : w1.cell? ⟨G, 2, none⟩ = some (.slice sa tb.length sc) := g1.cell 2
  have hGl := g1.lt
  have HT1 : Hid (TabV w1 0 (.slice sa tb.length sc) tb) := t1
  clear hc HK HS q0 q1 q2 q3 qX g1 b1 t1 hC1
  rcases hcase with ⟨rfl, σ', hL1⟩ | ⟨rfl, σ', hL1⟩
  · have HL1 : Hid (LiveX w1 N p X n σ' (tput id v tb)) := hL1
    clear hL1
    go_upto_region 3 with fail
    have hmx : Tryz.prog.follows .mixedOrders = true := by kernel_rfl
    go_region_with_o (first
      | (go_at_call 53; refine hmp.mono ?_; rintro e w2 ⟨ov, rfl, hT2, hb2⟩; obtain ⟨oa, oc, rfl, _, _, _⟩ := own_shape hT2; have hb2' : Below w1.heap.size w1 w2 := ((Below.refl _ w1).drew).trans hb2; have g2 := HG1.out.below hb2' hGl; have d2 : w2.cell? ⟨G, 2, none⟩ = some (.slice sa tb.length sc) := g2.cell 2; have f2 : w2.frozen? ⟨G, 2, none⟩ = false := g2.frozen 2))
    all_goals
      go_wp2
      go_ret
      have o2 : Off (fun k => k = G) w2 (w2.setCell ⟨G, 2, none⟩ (.slice oa (tput id v tb).length oc)) := Off.one w2 _
      have hbw2 : Keep N w w2 := HBW1.out.trans (Keep.below hb2')
      exact ⟨⟨0, rfl, .inl rfl⟩, hbw2.trans (Keep.off o2 (fun k h => h ▸ hbG)), σ', tput id v tb, ⟨_, g2.set 2 _, own_offv (own_mono hT2 (Nat.zero_le _)) o2 (fun g hg e => own_ne hT2 g2 (by decide) g hg e), (HL1.out.below hb2').off g2 (by unfold own5; omega) (by decide) (by decide) o2, hbG⟩⟩
  · have HL1 : Hid (LiveX w1 N p X n σ' tb) := hL1
    clear hL1 hmp
    go_wp2
    go_ret
    exact ⟨⟨10, rfl, .inr rfl⟩, HBW1.out, σ', tb, ⟨_, HG1.out, HT1.out, HL1.out, hbG⟩⟩
set_option maxRecDepth 100000 in
set_option maxHeartbeats 4000000 in
theorem movr_put (w : World) (N : Nat → Prop) (G p X n : Nat) (σ : PS) (tb : List (Int × Box)) (h : GameX w N G p X n σ 0 tb)  (K A B : Int) (wK : (Lit.int .i64 K).wf = true) (wA : (Lit.int .i64 A).wf = true) (wB : (Lit.int .i64 B).wf = true) (hk : 0 ≤ pickI K 10 ∧ pickI K 10 < 4) :
    Calls Tryz.prog 16 #[.pointer (some ⟨G, 0, none⟩), .agg #[.int .i64 K, .int .i64 A, .int .i64 B]] w (MoveR w N G p n 0) := by
  obtain ⟨W0, hW0⟩ : ∃ W0, w.alloc (.cells #[.int .i64 K, .int .i64 A, .int .i64 B] 56) = W0 := ⟨_, rfl⟩
  have hb0 : Below w.heap.size w W0 := by rw [← hW0]; exact (Below.refl _ w).alloc (Nat.le_refl _) _
  have B0 : Blk W0 w.heap.size 56 #[.int .i64 K, .int .i64 A, .int .i64 B] := by rw [← hW0]; exact Blk.new w 56 _
  have HW0 : Hid (w.alloc (.cells #[.int .i64 K, .int .i64 A, .int .i64 B] 56) = W0) := hW0
  obtain ⟨sv, hG, hT, hL, hbG⟩ := h.below hb0
  have HBW : Hid (Keep N w W0) := Keep.below hb0
  have hup := hL.up
  have HUP : Hid (Ups tb ∧ 256 ≤ n ∧ n ≤ 4096 ∧ tb.length ≤ 1000000 ∧ ∀ t ∈ tb, t.2.ok ∧ 0 ≤ t.1 ∧ t.1 ≤ 4611686018427387904) := hup
  have hnum := number_any A W0 wA
  have hpk := pick_eq K 10 W0 (by omega) wK
  have q0 : W0.cell? ⟨w.heap.size, 0, none⟩ = some (.int .i64 K) := B0.cell 0
  have q1 : W0.cell? ⟨w.heap.size, 1, none⟩ = some (.int .i64 A) := B0.cell 1
  have q2 : W0.cell? ⟨w.heap.size, 2, none⟩ = some (.int .i64 B) := B0.cell 2
  obtain ⟨sa, sc, rfl, _, _, _⟩ := own_shape hT
  have qS : W0.cell? ⟨G, 2, none⟩ = some (.slice sa tb.length sc) := hG.cell 2
  have HG0 : Hid (Blk W0 G 62 (gameC p X (.slice sa tb.length sc) 0)) := hG
  have HT0 : Hid (TabV W0 0 (.slice sa tb.length sc) tb) := hT
  have HL0 : Hid (LiveX W0 N p X n σ tb) := hL
  have HB0 : Hid (Blk W0 w.heap.size 56 #[.int .i64 K, .int .i64 A, .int .i64 B]) := B0
  have hn1 := hup.2.1
  have hn2 := hup.2.2.1
  have hlen := hup.2.2.2.1
  clear hW0 h hG hT hL B0 hb0 hup
  go_enter Tryz.func16, Tryz.ntmps16
  go_upto_region 1 with fail
  rw [HW0.out]
  clear HW0
  go_upto_region 2 with (go_at_call 43; refine hnum.mono ?_; rintro e w9 ⟨⟨id, hid, rfl⟩, rfl⟩)
  have hge := mget_any w9 0 (.slice sa tb.length sc) tb HT0.out HUP.out.1 HUP.out.2.2.2.1 (id : Int)
  have hid2 : 0 ≤ (id : Int) ∧ (id : Int) ≤ 4611686018427387904 := by omega
  go_upto_region 3 with (go_at_call 44; refine hge.mono ?_; rintro e w1 ⟨rfl, hb1⟩)
  obtain ⟨W1, hW1⟩ : ∃ W1, w1.alloc (.cells #[.int .i64 ((rectOf (tget (id : Int) tb)).a : Int), .int .i64 ((rectOf (tget (id : Int) tb)).b : Int), .int .i64 ((rectOf (tget (id : Int) tb)).c : Int), .int .i64 ((rectOf (tget (id : Int) tb)).d : Int)] 34) = W1 := ⟨_, rfl⟩
  have hbW : Below w9.heap.size w9 W1 := by rw [← hW1]; exact hb1.alloc hb1.size _
  have B6 : Blk W1 w1.heap.size 34 (boxA (rectOf (tget (id : Int) tb))) := by rw [← hW1]; exact Blk.new w1 34 _
  rw [hW1]
  have HBW1 : Hid (Keep N w W1) := HBW.out.trans (Keep.below hbW)
  have hG1 := HG0.out.below hbW HG0.out.lt
  have hT1 := own_below HT0.out hbW
  have hL1 := HL0.out.below hbW
  have hB1 := HB0.out.below hbW HB0.out.lt
  have p0 : W1.cell? ⟨w.heap.size, 0, none⟩ = some (.int .i64 K) := hB1.cell 0
  have p2 : W1.cell? ⟨w.heap.size, 2, none⟩ = some (.int .i64 B) := hB1.cell 2
  have pX : W1.cell? ⟨G, 1, none⟩ = some (.pointer (some ⟨X, 0, none⟩)) := hG1.cell 1
  have pS : W1.cell? ⟨G, 2, none⟩ = some (.slice sa tb.length sc) := hG1.cell 2
  have pR : W1.cell? ⟨G, 3, none⟩ = some (.int .i64 0) := hG1.cell 3
  have pD : W1.cell? ⟨G, 0, none⟩ = some (.pointer (some ⟨p, 0, none⟩)) := hG1.cell 0
  have hpk1 := pick_eq K 10 W1 (by omega) wK
  obtain ⟨kk, hkk⟩ : ∃ kk, pickI K 10 = kk := ⟨_, rfl⟩
  rw [hkk] at hpk1 hk
  have HG1 : Hid (Blk W1 G 62 (gameC p X (.slice sa tb.length sc) 0)) := hG1
  have HT1 : Hid (TabV W1 0 (.slice sa tb.length sc) tb) := hT1
  have HL1 : Hid (LiveX W1 N p X n σ tb) := hL1
  have HB1 : Hid (Blk W1 w.heap.size 56 #[.int .i64 K, .int .i64 A, .int .i64 B]) := hB1
  have HB6 : Hid (Blk W1 w1.heap.size 34 (boxA (rectOf (tget (id : Int) tb)))) := B6
  have GL1 := hG1.lt
  clear hW1 hbW hG1 hT1 hL1 hB1 B6 hge hnum hpk q0 q1 q2 qS HG0 HT0 HL0 HB0 hb1 hkk
  obtain ⟨hk1, hk2⟩ := hk
  have hrc := rect_any W1 B wB
  go_upto_region 6 with (first
    | (go_at_call 24; refine hpk1.mono ?_; rintro e w8 ⟨rfl, rfl⟩)
    | (go_at_call 26; refine hrc.mono ?_; rintro e w2 ⟨⟨v, hv, rfl⟩, hb2⟩))
  obtain ⟨W3, hW3⟩ : ∃ W3, w2.alloc (.cells #[.int .i64 (v.a : Int), .int .i64 (v.b : Int), .int .i64 (v.c : Int), .int .i64 (v.d : Int)] 34) = W3 := ⟨_, rfl⟩
  have hb3 : Below w2.heap.size w2 W3 := by rw [← hW3]; exact (Below.refl _ w2).alloc (Nat.le_refl _) _
  have B9 : Blk W3 w2.heap.size 34 (boxC v) := by rw [← hW3]; exact Blk.new w2 34 _
  have hG3 : GameX W3 N G p X n σ 0 tb := (GameX.below ⟨_, HG1.out, HT1.out, HL1.out, hbG⟩ hb2).below hb3
  have g3 := (HG1.out.below hb2 HG1.out.lt).below hb3 (HG1.out.below hb2 HG1.out.lt).lt
  rw [hW3]
  have rS : W3.cell? ⟨G, 2, none⟩ = some (.slice sa tb.length sc) := g3.cell 2
  have rR : W3.cell? ⟨G, 3, none⟩ = some (.int .i64 0) := g3.cell 3
  have s0 : W3.cell? ⟨w2.heap.size, 0, none⟩ = some (.int .i64 (v.a : Int)) := B9.cell 0
  have s1 : W3.cell? ⟨w2.heap.size, 1, none⟩ = some (.int .i64 (v.b : Int)) := B9.cell 1
  have s2 : W3.cell? ⟨w2.heap.size, 2, none⟩ = some (.int .i64 (v.c : Int)) := B9.cell 2
  have s3 : W3.cell? ⟨w2.heap.size, 3, none⟩ = some (.int .i64 (v.d : Int)) := B9.cell 3
  have HG3 : Hid (GameX W3 N G p X n σ 0 tb) := hG3
  have HBW3 : Hid (Keep N w W3) := (HBW1.out.trans (Keep.below hb2)).trans (Keep.below hb3)
  clear hW3 hb3 B9 g3 hG3 hrc p0 p2 pX pS pR pD HB6
  have hf1 : (0 : Int) ≤ (tb.length : Int) := by omega
  cases hg : tget (id : Int) tb
  all_goals
    go_quiet (fail)
    obtain ⟨W5, hW5⟩ : ∃ W5, W3.drewN nq = W5 := ⟨_, rfl⟩
    have hb5 : Below W3.heap.size W3 W5 := by rw [← hW5]; exact below_drewN W3 nq _
    have u0 : W5.cell? ⟨w2.heap.size, 0, none⟩ = some (.int .i64 (v.a : Int)) := by rw [← hW5]; exact s0
    have u1 : W5.cell? ⟨w2.heap.size, 1, none⟩ = some (.int .i64 (v.b : Int)) := by rw [← hW5]; exact s1
    have u2 : W5.cell? ⟨w2.heap.size, 2, none⟩ = some (.int .i64 (v.c : Int)) := by rw [← hW5]; exact s2
    have u3 : W5.cell? ⟨w2.heap.size, 3, none⟩ = some (.int .i64 (v.d : Int)) := by rw [← hW5]; exact s3
    have r5 : W5.cell? ⟨G, 3, none⟩ = some (.int .i64 0) := by rw [← hW5]; exact rR
    have hgp := gputr_any W5 N G p X n σ _ tb (HG3.out.below hb5) (id : Int) hid2 v hv
    rw [hW5]
    clear hW5 s0 s1 s2 s3 rR rS
    go_upto_region 10 with (go_at_call 25; refine hgp.mono ?_; rintro e w6 ⟨⟨er, rfl, her⟩, hs6, σ6, tb6, hG6⟩)
    have HG6 : Hid (GameX w6 N G p X n σ6 0 tb6) := hG6
    obtain ⟨sv6, g6, _⟩ := hG6
    have r6 : w6.cell? ⟨G, 3, none⟩ = some (.int .i64 0) := g6.cell 3
    clear g6 hgp u0 u1 u2 u3 r5
    rcases her with rfl | rfl
    all_goals
      go_wp2
      go_ret
      exact ⟨rfl, (HBW3.out.trans (Keep.below hb5)).trans hs6, X, σ6, tb6, HG6.out⟩
end
section
set_option maxRecDepth 100000 in
set_option maxHeartbeats 4000000 in
theorem movr_del (w : World) (N : Nat → Prop) (G p X n : Nat) (σ : PS) (tb : List (Int × Box)) (h : GameX w N G p X n σ 0 tb)  (K A B : Int) (wK : (Lit.int .i64 K).wf = true) (wA : (Lit.int .i64 A).wf = true) (wB : (Lit.int .i64 B).wf = true) (hk : 4 ≤ pickI K 10 ∧ pickI K 10 < 6) :
    Calls Tryz.prog 16 #[.pointer (some ⟨G, 0, none⟩), .agg #[.int .i64 K, .int .i64 A, .int .i64 B]] w (MoveR w N G p n 0) := by
  obtain ⟨W0, hW0⟩ : ∃ W0, w.alloc (.cells #[.int .i64 K, .int .i64 A, .int .i64 B] 56) = W0 := ⟨_, rfl⟩
  have hb0 : Below w.heap.size w W0 := by rw [← hW0]; exact (Below.refl _ w).alloc (Nat.le_refl _) _
  have B0 : Blk W0 w.heap.size 56 #[.int .i64 K, .int .i64 A, .int .i64 B] := by rw [← hW0]; exact Blk.new w 56 _
  have HW0 : Hid (w.alloc (.cells #[.int .i64 K, .int .i64 A, .int .i64 B] 56) = W0) := hW0
  obtain ⟨sv, hG, hT, hL, hbG⟩ := h.below hb0
  have HBW : Hid (Keep N w W0) := Keep.below hb0
  have hup := hL.up
  have HUP : Hid (Ups tb ∧ 256 ≤ n ∧ n ≤ 4096 ∧ tb.length ≤ 1000000 ∧ ∀ t ∈ tb, t.2.ok ∧ 0 ≤ t.1 ∧ t.1 ≤ 4611686018427387904) := hup
  have hnum := number_any A W0 wA
  have hpk := pick_eq K 10 W0 (by omega) wK
  have q0 : W0.cell? ⟨w.heap.size, 0, none⟩ = some (.int .i64 K) := B0.cell 0
  have q1 : W0.cell? ⟨w.heap.size, 1, none⟩ = some (.int .i64 A) := B0.cell 1
  have q2 : W0.cell? ⟨w.heap.size, 2, none⟩ = some (.int .i64 B) := B0.cell 2
  obtain ⟨sa, sc, rfl, _, _, _⟩ := own_shape hT
  have qS : W0.cell? ⟨G, 2, none⟩ = some (.slice sa tb.length sc) := hG.cell 2
  have HG0 : Hid (Blk W0 G 62 (gameC p X (.slice sa tb.length sc) 0)) := hG
  have HT0 : Hid (TabV W0 0 (.slice sa tb.length sc) tb) := hT
  have HL0 : Hid (LiveX W0 N p X n σ tb) := hL
  have HB0 : Hid (Blk W0 w.heap.size 56 #[.int .i64 K, .int .i64 A, .int .i64 B]) := B0
  have hn1 := hup.2.1
  have hn2 := hup.2.2.1
  have hlen := hup.2.2.2.1
  clear hW0 h hG hT hL B0 hb0 hup
  go_enter Tryz.func16, Tryz.ntmps16
  go_upto_region 1 with fail
  rw [HW0.out]
  clear HW0
  go_upto_region 2 with (go_at_call 43; refine hnum.mono ?_; rintro e w9 ⟨⟨id, hid, rfl⟩, rfl⟩)
  have hge := mget_any w9 0 (.slice sa tb.length sc) tb HT0.out HUP.out.1 HUP.out.2.2.2.1 (id : Int)
  have hid2 : 0 ≤ (id : Int) ∧ (id : Int) ≤ 4611686018427387904 := by omega
  go_upto_region 3 with (go_at_call 44; refine hge.mono ?_; rintro e w1 ⟨rfl, hb1⟩)
  obtain ⟨W1, hW1⟩ : ∃ W1, w1.alloc (.cells #[.int .i64 ((rectOf (tget (id : Int) tb)).a : Int), .int .i64 ((rectOf (tget (id : Int) tb)).b : Int), .int .i64 ((rectOf (tget (id : Int) tb)).c : Int), .int .i64 ((rectOf (tget (id : Int) tb)).d : Int)] 34) = W1 := ⟨_, rfl⟩
  have hbW : Below w9.heap.size w9 W1 := by rw [← hW1]; exact hb1.alloc hb1.size _
  have B6 : Blk W1 w1.heap.size 34 (boxA (rectOf (tget (id : Int) tb))) := by rw [← hW1]; exact Blk.new w1 34 _
  rw [hW1]
  have HBW1 : Hid (Keep N w W1) := HBW.out.trans (Keep.below hbW)
  have hG1 := HG0.out.below hbW HG0.out.lt
  have hT1 := own_below HT0.out hbW
  have hL1 := HL0.out.below hbW
  have hB1 := HB0.out.below hbW HB0.out.lt
  have p0 : W1.cell? ⟨w.heap.size, 0, none⟩ = some (.int .i64 K) := hB1.cell 0
  have p2 : W1.cell? ⟨w.heap.size, 2, none⟩ = some (.int .i64 B) := hB1.cell 2
  have pX : W1.cell? ⟨G, 1, none⟩ = some (.pointer (some ⟨X, 0, none⟩)) := hG1.cell 1
  have pS : W1.cell? ⟨G, 2, none⟩ = some (.slice sa tb.length sc) := hG1.cell 2
  have pR : W1.cell? ⟨G, 3, none⟩ = some (.int .i64 0) := hG1.cell 3
  have pD : W1.cell? ⟨G, 0, none⟩ = some (.pointer (some ⟨p, 0, none⟩)) := hG1.cell 0
  have hpk1 := pick_eq K 10 W1 (by omega) wK
  obtain ⟨kk, hkk⟩ : ∃ kk, pickI K 10 = kk := ⟨_, rfl⟩
  rw [hkk] at hpk1 hk
  have HG1 : Hid (Blk W1 G 62 (gameC p X (.slice sa tb.length sc) 0)) := hG1
  have HT1 : Hid (TabV W1 0 (.slice sa tb.length sc) tb) := hT1
  have HL1 : Hid (LiveX W1 N p X n σ tb) := hL1
  have HB1 : Hid (Blk W1 w.heap.size 56 #[.int .i64 K, .int .i64 A, .int .i64 B]) := hB1
  have HB6 : Hid (Blk W1 w1.heap.size 34 (boxA (rectOf (tget (id : Int) tb)))) := B6
  have GL1 := hG1.lt
  clear hW1 hbW hG1 hT1 hL1 hB1 B6 hge hnum hpk q0 q1 q2 qS HG0 HT0 HL0 HB0 hb1 hkk
  have _ := wB
  obtain ⟨hk1, hk2⟩ := hk
  have hk4 : ¬ kk < 4 := by omega
  cases hg : tget (id : Int) tb with
  | none =>
    have hdl := room_none HL1.out hid2 hg
    clear p2 pS pR pD HB6
    go_wp2_with (first
      | (go_at_call 24; refine hpk1.mono ?_; rintro e w8 ⟨rfl, rfl⟩)
      | (go_at_call 35; refine hdl.mono ?_; rintro e w3 ⟨hC3, rfl, σ3, hL3⟩))
    go_ret
    exact ⟨rfl, HBW1.out.trans hC3.keep, X, σ3, tb, ⟨_, hC3.blk HG1.out (by unfold own5; omega), hC3.row HT1.out (by unfold own5; omega), hL3, hbG⟩⟩
  | some v0 =>
    have hdl := room_del HL1.out hid2 hg
    clear p2 pS pD HB6
    go_upto_region 13 with (first
      | (go_at_call 24; refine hpk1.mono ?_; rintro e w8 ⟨rfl, rfl⟩)
      | (go_at_call 35; refine hdl.mono ?_; rintro e w3 ⟨hC3, er, rfl, hcase⟩))
    have g3 := hC3.blk HG1.out (by unfold own5; omega)
    have t3 := hC3.row HT1.out (by unfold own5; omega)
    have c2 : w3.cell? ⟨G, 2, none⟩ = some (.slice sa tb.length sc) := g3.cell 2
    have c3 : w3.cell? ⟨G, 3, none⟩ = some (.int .i64 0) := g3.cell 3
    have g3l := g3.lt
    have hbw3 := HBW1.out.trans hC3.keep
    have HG3 : Hid (Blk w3 G 62 (gameC p X (.slice sa tb.length sc) 0)) := g3
    have HT3 : Hid (TabV w3 0 (.slice sa tb.length sc) tb) := t3
    have HBW3 : Hid (Keep N w w3) := hbw3
    clear hdl pR hC3 hbw3
    rcases hcase with ⟨rfl, σ3, hL3⟩ | ⟨rfl, σ3, hL3⟩
    · have hmd := mdel_any w3 0 (.slice sa tb.length sc) tb t3 HUP.out.2.2.2.1 (id : Int)
      have HL3 : Hid (LiveX w3 N p X n σ3 (tdel (id : Int) tb)) := hL3
      clear hL3 g3 t3
      go_wp2_with (go_at_call 45; refine hmd.mono ?_; rintro e w4 ⟨ov, rfl, hT4, hb4⟩; obtain ⟨oa, oc, rfl, _, _, _⟩ := own_shape hT4; have g4 := HG3.out.below hb4 g3l; have d2 : w4.cell? ⟨G, 2, none⟩ = some (.slice sa tb.length sc) := g4.cell 2; have f2 : w4.frozen? ⟨G, 2, none⟩ = false := g4.frozen 2)
      go_ret
      have o2 : Off (fun k => k = G) w4 (w4.setCell ⟨G, 2, none⟩ (.slice oa (tdel (id : Int) tb).length oc)) := Off.one w4 _
      have hbw4 := HBW3.out.trans (Keep.below hb4)
      exact ⟨rfl, hbw4.trans (Keep.off o2 (fun k h => h ▸ hbG)), X, σ3, tdel (id : Int) tb, ⟨_, g4.set 2 _, own_offv (own_mono hT4 (Nat.zero_le _)) o2 (fun g hg e => own_ne hT4 g4 (by decide) g hg e), (HL3.out.below hb4).off g4 (by unfold own5; omega) (by decide) (by decide) o2, hbG⟩⟩
    · have HL3 : Hid (LiveX w3 N p X n σ3 tb) := hL3
      clear hL3 g3 t3
      go_wp2
      go_ret
      exact ⟨rfl, HBW3.out, X, σ3, tb, ⟨_, HG3.out, HT3.out, HL3.out, hbG⟩⟩
end
section
set_option maxRecDepth 100000 in
set_option maxHeartbeats 4000000 in
theorem movr_get (w : World) (N : Nat → Prop) (G p X n : Nat) (σ : PS) (rm : Int) (tb : List (Int × Box)) (h : GameX w N G p X n σ rm tb)  (K A B : Int) (wK : (Lit.int .i64 K).wf = true) (wA : (Lit.int .i64 A).wf = true) (wB : (Lit.int .i64 B).wf = true) (hk : 6 ≤ pickI K 10 ∧ pickI K 10 < 8) :
    Calls Tryz.prog 16 #[.pointer (some ⟨G, 0, none⟩), .agg #[.int .i64 K, .int .i64 A, .int .i64 B]] w (MoveT w N G p n rm tb) := by
  obtain ⟨W0, hW0⟩ : ∃ W0, w.alloc (.cells #[.int .i64 K, .int .i64 A, .int .i64 B] 56) = W0 := ⟨_, rfl⟩
  have hb0 : Below w.heap.size w W0 := by rw [← hW0]; exact (Below.refl _ w).alloc (Nat.le_refl _) _
  have B0 : Blk W0 w.heap.size 56 #[.int .i64 K, .int .i64 A, .int .i64 B] := by rw [← hW0]; exact Blk.new w 56 _
  have HW0 : Hid (w.alloc (.cells #[.int .i64 K, .int .i64 A, .int .i64 B] 56) = W0) := hW0
  obtain ⟨sv, hG, hT, hL, hbG⟩ := h.below hb0
  have HBW : Hid (Keep N w W0) := Keep.below hb0
  have hup := hL.up
  have HUP : Hid (Ups tb ∧ 256 ≤ n ∧ n ≤ 4096 ∧ tb.length ≤ 1000000 ∧ ∀ t ∈ tb, t.2.ok ∧ 0 ≤ t.1 ∧ t.1 ≤ 4611686018427387904) := hup
  have hnum := number_any A W0 wA
  have hpk := pick_eq K 10 W0 (by omega) wK
  have q0 : W0.cell? ⟨w.heap.size, 0, none⟩ = some (.int .i64 K) := B0.cell 0
  have q1 : W0.cell? ⟨w.heap.size, 1, none⟩ = some (.int .i64 A) := B0.cell 1
  have q2 : W0.cell? ⟨w.heap.size, 2, none⟩ = some (.int .i64 B) := B0.cell 2
  obtain ⟨sa, sc, rfl, _, _, _⟩ := own_shape hT
  have qS : W0.cell? ⟨G, 2, none⟩ = some (.slice sa tb.length sc) := hG.cell 2
  have HG0 : Hid (Blk W0 G 62 (gameC p X (.slice sa tb.length sc) rm)) := hG
  have HT0 : Hid (TabV W0 0 (.slice sa tb.length sc) tb) := hT
  have HL0 : Hid (LiveX W0 N p X n σ tb) := hL
  have HB0 : Hid (Blk W0 w.heap.size 56 #[.int .i64 K, .int .i64 A, .int .i64 B]) := B0
  have hn1 := hup.2.1
  have hn2 := hup.2.2.1
  have hlen := hup.2.2.2.1
  clear hW0 h hG hT hL B0 hb0 hup
  go_enter Tryz.func16, Tryz.ntmps16
  go_upto_region 1 with fail
  rw [HW0.out]
  clear HW0
  go_upto_region 2 with (go_at_call 43; refine hnum.mono ?_; rintro e w9 ⟨⟨id, hid, rfl⟩, rfl⟩)
  have hge := mget_any w9 0 (.slice sa tb.length sc) tb HT0.out HUP.out.1 HUP.out.2.2.2.1 (id : Int)
  have hid2 : 0 ≤ (id : Int) ∧ (id : Int) ≤ 4611686018427387904 := by omega
  go_upto_region 3 with (go_at_call 44; refine hge.mono ?_; rintro e w1 ⟨rfl, hb1⟩)
  obtain ⟨W1, hW1⟩ : ∃ W1, w1.alloc (.cells #[.int .i64 ((rectOf (tget (id : Int) tb)).a : Int), .int .i64 ((rectOf (tget (id : Int) tb)).b : Int), .int .i64 ((rectOf (tget (id : Int) tb)).c : Int), .int .i64 ((rectOf (tget (id : Int) tb)).d : Int)] 34) = W1 := ⟨_, rfl⟩
  have hbW : Below w9.heap.size w9 W1 := by rw [← hW1]; exact hb1.alloc hb1.size _
  have B6 : Blk W1 w1.heap.size 34 (boxA (rectOf (tget (id : Int) tb))) := by rw [← hW1]; exact Blk.new w1 34 _
  rw [hW1]
  have HBW1 : Hid (Keep N w W1) := HBW.out.trans (Keep.below hbW)
  have hG1 := HG0.out.below hbW HG0.out.lt
  have hT1 := own_below HT0.out hbW
  have hL1 := HL0.out.below hbW
  have hB1 := HB0.out.below hbW HB0.out.lt
  have p0 : W1.cell? ⟨w.heap.size, 0, none⟩ = some (.int .i64 K) := hB1.cell 0
  have p2 : W1.cell? ⟨w.heap.size, 2, none⟩ = some (.int .i64 B) := hB1.cell 2
  have pX : W1.cell? ⟨G, 1, none⟩ = some (.pointer (some ⟨X, 0, none⟩)) := hG1.cell 1
  have pS : W1.cell? ⟨G, 2, none⟩ = some (.slice sa tb.length sc) := hG1.cell 2
  have pR : W1.cell? ⟨G, 3, none⟩ = some (.int .i64 rm) := hG1.cell 3
  have pD : W1.cell? ⟨G, 0, none⟩ = some (.pointer (some ⟨p, 0, none⟩)) := hG1.cell 0
  have hpk1 := pick_eq K 10 W1 (by omega) wK
  obtain ⟨kk, hkk⟩ : ∃ kk, pickI K 10 = kk := ⟨_, rfl⟩
  rw [hkk] at hpk1 hk
  have HG1 : Hid (Blk W1 G 62 (gameC p X (.slice sa tb.length sc) rm)) := hG1
  have HT1 : Hid (TabV W1 0 (.slice sa tb.length sc) tb) := hT1
  have HL1 : Hid (LiveX W1 N p X n σ tb) := hL1
  have HB1 : Hid (Blk W1 w.heap.size 56 #[.int .i64 K, .int .i64 A, .int .i64 B]) := hB1
  have HB6 : Hid (Blk W1 w1.heap.size 34 (boxA (rectOf (tget (id : Int) tb)))) := B6
  have GL1 := hG1.lt
  clear hW1 hbW hG1 hT1 hL1 hB1 B6 hge hnum hpk q0 q1 q2 qS HG0 HT0 HL0 HB0 hb1 hkk
  have _ := wB
  obtain ⟨hk1, hk2⟩ := hk
  have hk4 : ¬ kk < 4 := by omega
  have hk6 : ¬ kk < 6 := by omega
  have hgt := live_get HL1.out hid2
  have l6 := HB6.out.lt
  cases hg : tget (id : Int) tb with
  | none =>
    rw [hg] at hgt
    simp only [foundR, boxC, zeroBox] at hgt
    have heq := eq34 0 0 0 0 0 0 0 0
    rw [decide_eq_true rfl] at heq
    clear HB6 p2 pS pR pD
    go_wp2_with (first
      | (go_at_call 24; refine hpk1.mono ?_; rintro e w8 ⟨rfl, rfl⟩)
      | (go_at_call 37; refine hgt.mono ?_; rintro e w3 ⟨rfl, hC3, σ3, hL3, _⟩))
    go_ret
    have hb4 : Below w3.heap.size w3 (w3.alloc (.cells #[.int .i64 0, .int .i64 0, .int .i64 0, .int .i64 0] 34)) := (Below.refl _ w3).alloc (Nat.le_refl _) _
    have hbw3 := HBW1.out.trans hC3.keep
    exact ⟨rfl, hbw3.trans (Keep.below hb4), X, σ3, GameX.below ⟨_, hC3.blk HG1.out (by unfold own5; omega), hC3.row HT1.out (by unfold own5; omega), hL3, hbG⟩ hb4⟩
  | some v0 =>
    rw [hg] at hgt HB6
    simp only [foundR, boxC] at hgt
    simp only [rectOf, Option.getD_some] at HB6
    have heq := eq34 (v0.a : Int) (v0.b : Int) (v0.c : Int) (v0.d : Int) (v0.a : Int) (v0.b : Int) (v0.c : Int) (v0.d : Int)
    rw [decide_eq_true rfl] at heq
    clear p2 pS pR pD
    go_wp2_with (first
      | (go_at_call 24; refine hpk1.mono ?_; rintro e w8 ⟨rfl, rfl⟩)
      | (go_at_call 37; refine hgt.mono ?_; rintro e w3 ⟨rfl, hC3, σ3, hL3, _⟩; have k6 := hC3.blk HB6.out (by unfold own5; omega); have l63 := k6.lt; have s0 : w3.cell? ⟨w1.heap.size, 0, none⟩ = some (.int .i64 (v0.a : Int)) := k6.cell 0; have s1 : w3.cell? ⟨w1.heap.size, 1, none⟩ = some (.int .i64 (v0.b : Int)) := k6.cell 1; have s2 : w3.cell? ⟨w1.heap.size, 2, none⟩ = some (.int .i64 (v0.c : Int)) := k6.cell 2; have s3 : w3.cell? ⟨w1.heap.size, 3, none⟩ = some (.int .i64 (v0.d : Int)) := k6.cell 3))
    go_ret
    have hb4 : Below w3.heap.size w3 (w3.alloc (.cells #[.int .i64 (v0.a : Int), .int .i64 (v0.b : Int), .int .i64 (v0.c : Int), .int .i64 (v0.d : Int)] 34)) := (Below.refl _ w3).alloc (Nat.le_refl _) _
    have hbw3 := HBW1.out.trans hC3.keep
    exact ⟨rfl, hbw3.trans (Keep.below hb4), X, σ3, GameX.below ⟨_, hC3.blk HG1.out (by unfold own5; omega), hC3.row HT1.out (by unfold own5; omega), hL3, hbG⟩ hb4⟩
end
section
set_option maxRecDepth 100000 in
set_option maxHeartbeats 4000000 in
theorem movr_win (w : World) (N : Nat → Prop) (G p X n : Nat) (σ : PS) (rm : Int) (tb : List (Int × Box)) (h : GameX w N G p X n σ rm tb)  (K A B : Int) (wK : (Lit.int .i64 K).wf = true) (wA : (Lit.int .i64 A).wf = true) (wB : (Lit.int .i64 B).wf = true) (hk : pickI K 10 = 8) :
    Calls Tryz.prog 16 #[.pointer (some ⟨G, 0, none⟩), .agg #[.int .i64 K, .int .i64 A, .int .i64 B]] w (MoveT w N G p n rm tb) := by
  obtain ⟨W0, hW0⟩ : ∃ W0, w.alloc (.cells #[.int .i64 K, .int .i64 A, .int .i64 B] 56) = W0 := ⟨_, rfl⟩
  have hb0 : Below w.heap.size w W0 := by rw [← hW0]; exact (Below.refl _ w).alloc (Nat.le_refl _) _
  have B0 : Blk W0 w.heap.size 56 #[.int .i64 K, .int .i64 A, .int .i64 B] := by rw [← hW0]; exact Blk.new w 56 _
  have HW0 : Hid (w.alloc (.cells #[.int .i64 K, .int .i64 A, .int .i64 B] 56) = W0) := hW0
  obtain ⟨sv, hG, hT, hL, hbG⟩ := h.below hb0
  have HBW : Hid (Keep N w W0) := Keep.below hb0
  have hup := hL.up
  have HUP : Hid (Ups tb ∧ 256 ≤ n ∧ n ≤ 4096 ∧ tb.length ≤ 1000000 ∧ ∀ t ∈ tb, t.2.ok ∧ 0 ≤ t.1 ∧ t.1 ≤ 4611686018427387904) := hup
  have hnum := number_any A W0 wA
  have hpk := pick_eq K 10 W0 (by omega) wK
  have q0 : W0.cell? ⟨w.heap.size, 0, none⟩ = some (.int .i64 K) := B0.cell 0
  have q1 : W0.cell? ⟨w.heap.size, 1, none⟩ = some (.int .i64 A) := B0.cell 1
  have q2 : W0.cell? ⟨w.heap.size, 2, none⟩ = some (.int .i64 B) := B0.cell 2
  obtain ⟨sa, sc, rfl, _, _, _⟩ := own_shape hT
  have qS : W0.cell? ⟨G, 2, none⟩ = some (.slice sa tb.length sc) := hG.cell 2
  have HG0 : Hid (Blk W0 G 62 (gameC p X (.slice sa tb.length sc) rm)) := hG
  have HT0 : Hid (TabV W0 0 (.slice sa tb.length sc) tb) := hT
  have HL0 : Hid (LiveX W0 N p X n σ tb) := hL
  have HB0 : Hid (Blk W0 w.heap.size 56 #[.int .i64 K, .int .i64 A, .int .i64 B]) := B0
  have hn1 := hup.2.1
  have hn2 := hup.2.2.1
  have hlen := hup.2.2.2.1
  clear hW0 h hG hT hL B0 hb0 hup
  go_enter Tryz.func16, Tryz.ntmps16
  go_upto_region 1 with fail
  rw [HW0.out]
  clear HW0
  go_upto_region 2 with (go_at_call 43; refine hnum.mono ?_; rintro e w9 ⟨⟨id, hid, rfl⟩, rfl⟩)
  have hge := mget_any w9 0 (.slice sa tb.length sc) tb HT0.out HUP.out.1 HUP.out.2.2.2.1 (id : Int)
  have hid2 : 0 ≤ (id : Int) ∧ (id : Int) ≤ 4611686018427387904 := by omega
  go_upto_region 3 with (go_at_call 44; refine hge.mono ?_; rintro e w1 ⟨rfl, hb1⟩)
  obtain ⟨W1, hW1⟩ : ∃ W1, w1.alloc (.cells #[.int .i64 ((rectOf (tget (id : Int) tb)).a : Int), .int .i64 ((rectOf (tget (id : Int) tb)).b : Int), .int .i64 ((rectOf (tget (id : Int) tb)).c : Int), .int .i64 ((rectOf (tget (id : Int) tb)).d : Int)] 34) = W1 := ⟨_, rfl⟩
  have hbW : Below w9.heap.size w9 W1 := by rw [← hW1]; exact hb1.alloc hb1.size _
  have B6 : Blk W1 w1.heap.size 34 (boxA (rectOf (tget (id : Int) tb))) := by rw [← hW1]; exact Blk.new w1 34 _
  rw [hW1]
  have HBW1 : Hid (Keep N w W1) := HBW.out.trans (Keep.below hbW)
  have hG1 := HG0.out.below hbW HG0.out.lt
  have hT1 := own_below HT0.out hbW
  have hL1 := HL0.out.below hbW
  have hB1 := HB0.out.below hbW HB0.out.lt
  have p0 : W1.cell? ⟨w.heap.size, 0, none⟩ = some (.int .i64 K) := hB1.cell 0
  have p2 : W1.cell? ⟨w.heap.size, 2, none⟩ = some (.int .i64 B) := hB1.cell 2
  have pX : W1.cell? ⟨G, 1, none⟩ = some (.pointer (some ⟨X, 0, none⟩)) := hG1.cell 1
  have pS : W1.cell? ⟨G, 2, none⟩ = some (.slice sa tb.length sc) := hG1.cell 2
  have pR : W1.cell? ⟨G, 3, none⟩ = some (.int .i64 rm) := hG1.cell 3
  have pD : W1.cell? ⟨G, 0, none⟩ = some (.pointer (some ⟨p, 0, none⟩)) := hG1.cell 0
  have hpk1 := pick_eq K 10 W1 (by omega) wK
  obtain ⟨kk, hkk⟩ : ∃ kk, pickI K 10 = kk := ⟨_, rfl⟩
  rw [hkk] at hpk1 hk
  have HG1 : Hid (Blk W1 G 62 (gameC p X (.slice sa tb.length sc) rm)) := hG1
  have HT1 : Hid (TabV W1 0 (.slice sa tb.length sc) tb) := hT1
  have HL1 : Hid (LiveX W1 N p X n σ tb) := hL1
  have HB1 : Hid (Blk W1 w.heap.size 56 #[.int .i64 K, .int .i64 A, .int .i64 B]) := hB1
  have HB6 : Hid (Blk W1 w1.heap.size 34 (boxA (rectOf (tget (id : Int) tb)))) := B6
  have GL1 := hG1.lt
  clear hW1 hbW hG1 hT1 hL1 hB1 B6 hge hnum hpk q0 q1 q2 qS HG0 HT0 HL0 HB0 hb1 hkk
  subst hk
  have hrc := rect_any W1 B wB
  go_wp2_with (first
    | (go_at_call 24; refine hpk1.mono ?_; rintro e w8 ⟨rfl, rfl⟩)
    | (go_at_call 26; refine hrc.mono ?_; rintro e w2 ⟨⟨v, hv, rfl⟩, hb2⟩; have hgw := gwin_any w2 N G p X n σ _ tb (GameX.below ⟨_, HG1.out, HT1.out, HL1.out, hbG⟩ hb2) v hv)
    | (go_at_call 46; refine hgw.mono ?_; rintro e w3 ⟨rfl, hC3, σ3, hG3⟩))
  go_ret
  exact ⟨rfl, (HBW1.out.trans (Keep.below hb2)).trans hC3.keep, X, σ3, hG3⟩
end
end Go.Proofs.YtdgbgmffpcooeaaGreat
