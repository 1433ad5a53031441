/- Nm3 -/
import Derived.Test.YtdgbgmffpcooeaaGreatK40
section
/- An index on a disk that does not break: the outer calls. -/
namespace Go.Proofs.YtdgbgmffpcooeaaGreat
open Go.RowKit Go.Lib
theorem idB_of {id : Int} (h : 0 ≤ id ∧ id ≤ 4611686018427387904) : idB id = true := by unfold idB; simp [h.1, h.2]
section
variable {w : World} {N : Nat → Prop} {p X n : Nat} {σ : PS} {tb : List (Int × Box)}
theorem newm {A : PA} {m' : Nat} {W : World} (h1 : ∀ k, A.F k → ¬ N k) (h2 : ∀ k, N k → k < W.heap.size) (hm : m' = A.m ∨ W.heap.size ≤ m') : ∀ k, ({ A with m := m' } : PA).F k → ¬ N k := fun k hk hN => by
  rcases hk with e | e | e | e
  · exact h1 k (.inl e) hN
  · exact h1 k (.inr (.inl e)) hN
  · exact h1 k (.inr (.inr (.inl e))) hN
  · rcases hm with g | g
    · exact h1 k (.inr (.inr (.inr (e.trans g)))) hN
    · have := h2 k hN
      have : k = m' := e
      omega
/-- What a call that changes the table leaves of an index. -/
theorem call_fin {W w' : World} {A : PA} {x t : Nat} {f : Value} {fr : List Nat} {tb' : List (Int × Box)} {e : Ending} (hX : Blk W X 91 #[.pointer (some ⟨x, 0, none⟩)]) (hI : IxS W 0 A σ x t false f fr) (hf : Free σ) (hbt : (∀ k, A.F k → ¬ N k) ∧ ¬ N t ∧ ¬ N x ∧ ∀ k, N k → k < W.heap.size) (hn : σ.n = n) (hp : A.p = p) (h : CallP W 0 A σ x t false f fr tb tb' False e w') :
    e = .returned (.int .i64 0) ∧ CalmW N W w' ∧ ∃ σ', LiveX w' N p X n σ' tb' ∧ Adds σ σ' 400 := by
  obtain ⟨ho, ⟨_, h1, _⟩ | ⟨rfl, m', s', f', fr', root', es', us', hm', hI', hG', hn', ha, _, hfr⟩ | ⟨_, m', s', _, _, _, _, _, _, h1⟩⟩ := h
  · exact h1.elim
  · have hc : CalmW N W w' := CalmW.off ho hI.tags (fun k hk => hk.elim (hbt.1 k) (fun h => h.elim (fun e => e ▸ hbt.2.1) (fun e => e ▸ hbt.2.2.1)))
    exact ⟨rfl, hc, s', ⟨{ A with m := m' }, x, t, f', fr', root', es', us', hp, hn'.trans hn, hc.blk hX (by unfold own5; omega), hI', hG', hfr hf, newm hbt.1 hbt.2.2.2 hm', hbt.2.1, hbt.2.2.1, fun k hk => Nat.lt_of_lt_of_le (hbt.2.2.2 k hk) ho.size⟩, ha⟩
  · exact absurd hf h1
theorem live_put (h : LiveX w N p X n σ tb) {id : Int} (hid : 0 ≤ id ∧ id ≤ 4611686018427387904) {v : Box} (hv : v.ok) (hr1 : tb.length ≤ (n - 200) / 4) (hr2 : (tput id v tb).length ≤ (n - 200) / 4) :
    Calls Tryz.prog 10 #[.pointer (some ⟨X, 0, none⟩), .int .i64 id, .agg (boxC v)] w fun e w' => e = .returned (.int .i64 0) ∧ CalmW N w w' ∧ ∃ σ', LiveX w' N p X n σ' (tput id v tb) ∧ Adds σ σ' 400 := by
  obtain ⟨A, x, t, f, fr, root, es, us, h1, h2, h3, h4, h5, h6⟩ := h
  refine qput_go w N X x h3 id v _ (fun W hb => ?_)
  have h4W := h4.below hb
  have h3W : Blk W X 91 #[.pointer (some ⟨x, 0, none⟩)] := (hb.block X h3.lt).trans h3
  have hn1 := h4.pd.n1
  refine iput_go W x t h4W.ix id (idB_of hid) v hv _ (fun W' hb' => ?_)
  have h4V := h4W.below hb'
  have h3V : Blk W' X 91 #[.pointer (some ⟨x, 0, none⟩)] := (hb'.block X h3W.lt).trans h3W
  have hfin : ∀ e w', DoneP W' 0 A σ x t false f fr tb (tput id v tb) False e w' → ∃ er : Int, e = .returned (.int .i64 er) ∧ (∃ dead, IdxB w' x t dead) ∧ ∃ er_1 : Int, e = .returned (.int .i64 er_1) ∧ CalmW N W (mindW w' x er) ∧ (e = .returned (.int .i64 0) ∧ CalmW N w (mindW w' x er) ∧ ∃ σ', LiveX (mindW w' x er) N p X n σ' (tput id v tb) ∧ Adds σ σ' 400) := fun e w' hD => by
    obtain ⟨er, rfl, hx', hC⟩ := hD.minded
    obtain ⟨e0, c1, c2⟩ := call_fin h3V h4V h6.1 ⟨h6.2.1, h6.2.2.1, h6.2.2.2.1, fun k hk => by have := h6.2.2.2.2 k hk; have := hb.size; have := hb'.size; omega⟩ h2 h1 hC
    exact ⟨er, rfl, ⟨_, hx'⟩, er, rfl, (CalmW.below hb').trans c1, e0, ((CalmW.below hb).trans (CalmW.below hb')).trans c1, c2⟩
  have hf1 : fr.length < 140 → False := fun hh => by have := h5.room (by omega) (by rw [h2]; exact hr1); omega
  have hf2 : ∀ es', Idx plc (tput id v tb) es' → es'.length + 4 > 4 * (σ.n - 1 - 50) ∨ σ.n - 1 < 50 → False := fun es' hi hh => (room2 hi (n := σ.n) (by omega) (by rw [h2]; exact hr2)).1 hh
  cases hg : tget id tb with
  | none => exact (put_new W' 0 A σ x t false f fr root es us tb h4V h5 h6.1.brk id hid v hv hg False hf1 hf2).mono (fun e w' hD => hfin e w' hD)
  | some v0 => exact (put_old W' 0 A σ x t false f fr root es us tb h4V h5 h6.1.brk id hid v hv v0 hg False hf1 hf2).mono (fun e w' hD => hfin e w' hD)
theorem live_at {A : PA} {x t : Nat} {f : Value} {fr : List Nat} {root : Nat} {es : List (Key × Box)} {us : List Nat} (hp : A.p = p) (hn : σ.n = n) (h3 : Blk w X 91 #[.pointer (some ⟨x, 0, none⟩)]) (r : Nat) (h4 : IxS w 0 A (σ.at_ r) x t false f fr) (h5 : Gd σ fr root es us tb) (h6 : Free σ ∧ (∀ k, A.F k → ¬ N k) ∧ ¬ N t ∧ ¬ N x ∧ ∀ k, N k → k < w.heap.size) : LiveX w N p X n (σ.at_ r) tb :=
  ⟨A, x, t, f, fr, root, es, us, hp, hn, h3, h4, h5.at_ r, h6⟩
theorem live_del (h : LiveX w N p X n σ tb) {id : Int} (hid : 0 ≤ id ∧ id ≤ 4611686018427387904) (hr1 : tb.length ≤ (n - 200) / 4) :
    Calls Tryz.prog 35 #[.pointer (some ⟨X, 0, none⟩), .int .i64 id] w fun e w' => CalmW N w w' ∧ (((tget id tb).isSome = true ∧ e = .returned (.int .i64 0) ∧ ∃ σ', LiveX w' N p X n σ' (tdel id tb) ∧ Adds σ σ' 400) ∨ ((tget id tb).isSome = false ∧ e = .returned (.int .i64 9) ∧ ∃ σ', LiveX w' N p X n σ' tb ∧ Adds σ σ' 400)) := by
  obtain ⟨A, x, t, f, fr, root, es, us, h1, h2, h3, h4, h5, h6⟩ := h
  have hn1 := h4.pd.n1
  refine qdel_go w X x h3 id _ (idel_go w x t h4.ix id (idB_of hid) _ ?_)
  cases hg : tget id tb with
  | none =>
    refine (remove_new w 0 A σ x t false f fr root es us tb h4 h5 h6.1.brk id hg).mono ?_
    rintro e w' ⟨rfl, ho, r, hr, hI⟩
    refine ⟨9, rfl, ⟨_, hI.ix⟩, 9, rfl, ?_⟩
    have hc : CalmW N w w' := CalmW.off ho h4.pd.tags h6.2.1
    have hm : mindW w' x 9 = w' := by unfold mindW; rw [if_neg (by decide)]
    rw [hm]
    exact ⟨hc, .inr ⟨rfl, rfl, _, live_at h1 h2 (hc.blk h3 (by unfold own5; omega)) r hI h5 ⟨h6.1, h6.2.1, h6.2.2.1, h6.2.2.2.1, fun k hk => Nat.lt_of_lt_of_le (h6.2.2.2.2 k hk) hc.size⟩, (Adds.at_ σ r).mono (by omega)⟩⟩
  | some v0 =>
    have hl := tdel_len (id := id) (tb := tb)
    have hf1 : fr.length < 140 → False := fun hh => by have := h5.room (by omega) (by rw [h2]; exact hr1); omega
    have hf2 : ∀ es', Idx plc (tdel id tb) es' → es'.length + 4 > 4 * (σ.n - 1 - 0) ∨ σ.n - 1 < 0 → False := fun es' hi hh => (room2 hi (n := σ.n) (by omega) (by rw [h2]; omega)).2 hh
    refine (remove_old w 0 A σ x t false f fr root es us tb h4 h5 h6.1.brk id v0 hg False hf1 hf2).mono ?_
    intro e w' hD
    obtain ⟨er, rfl, hx', hC⟩ := hD.minded
    obtain ⟨e0, c1, c2⟩ := call_fin h3 h4 h6.1 h6.2 h2 h1 hC
    exact ⟨er, rfl, ⟨_, hx'⟩, er, rfl, c1, .inl ⟨rfl, e0, c2⟩⟩
theorem live_get (h : LiveX w N p X n σ tb) {id : Int} (hid : 0 ≤ id ∧ id ≤ 4611686018427387904) :
    Calls Tryz.prog 37 #[.pointer (some ⟨X, 0, none⟩), .int .i64 id] w fun e w' => e = .returned (.tuple #[.agg (boxC (foundR (tget id tb)).1), .int .i64 (foundR (tget id tb)).2]) ∧ CalmW N w w' ∧ ∃ σ', LiveX w' N p X n σ' tb ∧ Adds σ σ' 400 := by
  obtain ⟨A, x, t, f, fr, root, es, us, h1, h2, h3, h4, h5, h6⟩ := h
  have h4l := h4.ix.lt
  have h4t := h4.tr.lt
  have h3l := h3.lt
  have hF : ∀ k, A.F k → k < w.heap.size := fun k hk => (h4.pd.lt k hk).2
  have hm : ∀ W, mindW W x (foundR (tget id tb)).2 = W := fun W => by
    unfold mindW foundR
    cases tget id tb <;> simp
  refine qget_go w N X x h3 id _ (fun W hb => ?_)
  have h4W := h4.below hb
  have hFW : ∀ k, A.F k → k < W.heap.size := fun k hk => (h4W.pd.lt k hk).2
  have hs := hb.size
  refine (iget_go W A x t h4W.ix hFW h4W.nx.1 id (idB_of hid) (foundR (tget id tb)).1 (foundR (tget id tb)).2 (fun w' => ∃ r, r ≤ 12 ∧ PD w' 0 A (σ.at_ r) ∧ TreeB w' t A f) (fun V hv => ?_)).mono ?_
  · have h4V := h4W.below hv
    exact find_live V 0 A σ t x false f root es us tb h4V.pd h4V.tr h4V.ix h6.1.brk h5.tr h5.idx id
  · rintro e w' ⟨rfl, w1, w2, ⟨r, hr, hp1, ht1⟩, ho1, ho2, ho3⟩
    rw [hm] at ho3
    have hI1 : IxS w1 0 A (σ.at_ r) x t false f fr := h4W.off (ho1.mono (fun k _ hk => .inl hk)) hp1 ht1
    have hc1 : CalmW N W w1 := CalmW.off ho1 h4W.pd.tags h6.2.1
    have ho23 : Off (fun k => W.heap.size ≤ k) w1 w' := ho2.trans ho3
    have hX1 : Blk w1 X 91 #[.pointer (some ⟨x, 0, none⟩)] := hc1.blk ((hb.block X h3.lt).trans h3) (by unfold own5; omega)
    have hcc : CalmW N W w' := ⟨ho23.os.trans hc1.os, ho23.tape.trans hc1.tape, ho23.output.trans hc1.output, Nat.le_trans hc1.size ho23.size, fun k cs ty g e n => (ho23.block k (Array.getElem?_eq_some_iff.1 (hc1.block k cs ty g e n)).1 (by have := (Array.getElem?_eq_some_iff.1 e).1; omega)).trans (hc1.block k cs ty g e n), fun k h1 h2 => (ho23.block k (Nat.lt_of_lt_of_le h2 hc1.size) (by omega)).trans (hc1.low k h1 h2)⟩
    refine ⟨(foundR (tget id tb)).1, (foundR (tget id tb)).2, rfl, hcc, fun W' hW' => ?_⟩
    have ho4 : Off (fun k => w.heap.size ≤ k) w1 W' := (ho23.mono (fun k _ h => by omega)).trans (hW'.mono (fun k _ h => by omega))
    have hI2 : IxS W' 0 A (σ.at_ r) x t false f fr := ⟨hI1.pd.off ho4 (fun k hk hh => by have := hF k hk; omega), hI1.tr.off ho4 (by omega), own_offv (own_below h4.row hb |> fun q => hc1.row q (by unfold own5; omega)) ho4 (fun g hg hh => by have := own_lt2 h4.row hg; omega), hI1.ix.off ho4 (by omega)⟩
    have hX2 : Blk W' X 91 #[.pointer (some ⟨x, 0, none⟩)] := hX1.off ho4 (by omega)
    have hc2 : CalmW N w W' := ⟨ho4.os.trans (hc1.os.trans hb.os), ho4.tape.trans (hc1.tape.trans hb.tape), ho4.output.trans (hc1.output.trans hb.output), Nat.le_trans hs (Nat.le_trans hc1.size ho4.size), fun k cs ty g e n => by
      have hk := (Array.getElem?_eq_some_iff.1 e).1
      have e1 := hc1.block k cs ty g ((hb.block k hk).trans e) n
      exact (ho4.block k (Array.getElem?_eq_some_iff.1 e1).1 (by omega)).trans e1, fun k h1 h2 => (ho4.block k (by have := hc1.size; omega) (by omega)).trans ((hc1.low k h1 (by omega)).trans (hb.block k h2))⟩
    exact ⟨rfl, hc2, _, live_at h1 h2 hX2 r hI2 h5 ⟨h6.1, h6.2.1, h6.2.2.1, h6.2.2.2.1, fun k hk => Nat.lt_of_lt_of_le (h6.2.2.2.2 k hk) hc2.size⟩, (Adds.at_ σ r).mono (by omega)⟩
theorem live_count (h : LiveX w N p X n σ tb) :
    Calls Tryz.prog 38 #[.pointer (some ⟨X, 0, none⟩)] w fun e w' => e = .returned (.tuple #[.int .i64 (tb.length : Int), .int .i64 0]) ∧ CalmW N w w' ∧ ∃ σ', LiveX w' N p X n σ' tb := by
  obtain ⟨A, x, t, f, fr, root, es, us, h1, h2, h3, h4, h5, h6⟩ := h
  refine qcount_go w X x h3 _ ((icount_go w x t h4.ix (tb.length : Int) 0 (fun w' => Off A.F w w' ∧ ∃ r, PD w' 0 A (σ.at_ r) ∧ TreeB w' t A f) ?_).mono ?_)
  · refine (count_live w 0 A σ t x false f root es us tb h4.pd h4.tr h4.ix h6.1.brk h5.tr h5.idx).mono ?_
    rintro e w' ⟨rfl, ho, r, hp, ht⟩
    exact ⟨rfl, h4.ix.off ho h4.nx.1, ho, r, hp, ht⟩
  · rintro e w' ⟨rfl, w1, ⟨ho, r, hp, ht⟩, hw⟩
    have hm : mindW w1 x 0 = w1 := by unfold mindW; rw [if_neg (by decide)]
    rw [hm] at hw
    subst hw
    have hc : CalmW N w w' := CalmW.off ho h4.pd.tags h6.2.1
    exact ⟨_, _, rfl, rfl, hc, _, live_at h1 h2 (hc.blk h3 (by unfold own5; omega)) r (h4.off (ho.mono (fun k _ hk => .inl hk)) hp ht) h5 ⟨h6.1, h6.2.1, h6.2.2.1, h6.2.2.2.1, fun k hk => Nat.lt_of_lt_of_le (h6.2.2.2.2 k hk) hc.size⟩⟩
theorem live_win (h : LiveX w N p X n σ tb) {r : Box} (hr : r.ok) :
    Calls Tryz.prog 11 #[.pointer (some ⟨X, 0, none⟩), .agg (boxC r)] w fun e w' => ∃ v, e = .returned (.tuple #[v, .int .i64 0]) ∧ w'.ownsRow w.heap.size 3 1 v (winL r tb).length (intsV (winL r tb)) ∧ CalmW N w w' ∧ ∃ σ', LiveX w' N p X n σ' tb := by
  obtain ⟨A, x, t, f, fr, root, es, us, h1, h2, h3, h4, h5, h6⟩ := h
  refine qwin_go w N X x h3 r _ (fun W hb => ?_)
  have h4W := h4.below hb
  have h3W : Blk W X 91 #[.pointer (some ⟨x, 0, none⟩)] := (hb.block X h3.lt).trans h3
  refine iwin_go W x t h4W.ix r hr _ (fun V hv => ?_)
  have h4V := h4W.below hv
  refine (search_live h4V h5 h6.1.brk r hr).mono ?_
  rintro e w' ⟨v, ids, rfl, hi, hrow, ho, r', hI⟩
  have hm : mindW w' x 0 = w' := by unfold mindW; rw [if_neg (by decide)]
  obtain ⟨sa, sc, rfl, _, _, _⟩ := own_shape hrow
  have hc : CalmW N V w' := CalmW.off ho h4V.pd.tags h6.2.1
  have e1 := hi.is h5.idx.up
  refine ⟨sa, ids.length, sc, 0, rfl, hI.ix, ?_⟩
  rw [hm]
  refine ⟨sa, ids.length, sc, 0, rfl, (CalmW.below hv).trans hc, _, rfl, ?_, ((CalmW.below hb).trans (CalmW.below hv)).trans hc, _, live_at h1 h2 (hc.blk ((hv.block X h3W.lt).trans h3W) (by unfold own5; omega)) r' hI h5 ⟨h6.1, h6.2.1, h6.2.2.1, h6.2.2.2.1, fun k hk => by have := h6.2.2.2.2 k hk; have := hb.size; have := hv.size; have := hc.size; omega⟩⟩
  rw [← e1]
  exact own_mono hrow (Nat.le_trans hb.size hv.size)
theorem fromK_of {es : List (Key × Box)} (h : Idx plc tb es) : FromK es := fun x hx => by
  obtain ⟨⟨a, _⟩, b⟩ := ent_kind h hx
  unfold klt
  rcases b with b | ⟨c, _, b⟩
  · left; rw [b]; simp only [NUM]; omega
  · rw [b]
    simp only
    omega
/-- Opening an index where one lies. -/
theorem open_on {A : PA} {root : Nat} {es : List (Key × Box)} {us : List Nat} (hp : PD w 0 A σ) (hT : Tr σ root es us) (hI : Idx plc tb es) (hf : Free σ) (hN : (∀ k, A.F k → ¬ N k) ∧ ∀ k, N k → k < w.heap.size) :
    Calls Tryz.prog 21 #[.pointer (some ⟨A.p, 0, none⟩)] w fun e w' => ∃ X', e = .returned (.tuple #[.pointer (some ⟨X', 0, none⟩), .int .i64 0]) ∧ CalmW N w w' ∧ ∃ σ', LiveX w' N A.p X' σ.n σ' tb := by
  have hlf : -1 ≤ σ.left ∧ σ.left ≤ 9223372036854775807 := by have := hf.1; omega
  refine qopen_go w A.p A.q hp.blkP _ ((iopen_live w 0 A σ hp hf.brk hlf).mono ?_)
  rintro e w' ⟨ho, ⟨x, t, m', f, fr, root', es', us', tb', r, rfl, hm, ht, hx, hIx, hT', hfr, hI'⟩ | ⟨rfl, _, hh⟩⟩
  · left
    obtain ⟨rfl, rfl, rfl⟩ := hT.one hT'
    have := hI.one hI'
    subst this
    have hc : CalmW N w w' := CalmW.off ho hp.tags hN.1
    have hb : Below w'.heap.size w' (w'.alloc (.cells #[.pointer (some ⟨x, 0, none⟩)] 91)) := (Below.refl _ w').alloc (Nat.le_refl _) _
    have hfl : (σ.at_ r).flush.2 = (σ.at_ r).asked.spent.settled := by unfold PS.flush; rw [show (σ.at_ r).brk = false from hf.brk]; rfl
    refine ⟨x, rfl, w'.heap.size, rfl, hc.trans (CalmW.below hb), (σ.at_ r).flush.2, { A with m := m' }, x, t, f, fr, root, es, us, rfl, by rw [hfl]; rfl, Blk.new w' 91 _, hIx.below hb, ?_, (Free.flush (s := σ.at_ r) hf).1, newm hN.1 hN.2 hm, fun h => by have := hN.2 t h; omega, fun h => by have := hN.2 x h; omega, fun k hk => by have := hN.2 k hk; have := hc.size; have := hb.size; omega⟩
    have hfr2 := (Free.flush (s := σ.at_ r) hf).1
    refine ⟨by rw [hfl]; exact hT.congr rfl rfl (fun _ _ => rfl), by rw [hfl]; exact hfr, hI, by rw [hfl]; exact fun _ => rfl, by have := hfr2.1; omega⟩
  · exfalso
    rcases hh with hh | ⟨root', es', us', hT', _, hno⟩
    · exact hh root es us hT (fromK_of hI)
    · obtain ⟨rfl, rfl, rfl⟩ := hT.one hT'
      exact hno tb hI
theorem live_open (h : LiveX w N p X n σ tb) :
    Calls Tryz.prog 21 #[.pointer (some ⟨p, 0, none⟩)] w fun e w' => ∃ X', e = .returned (.tuple #[.pointer (some ⟨X', 0, none⟩), .int .i64 0]) ∧ CalmW N w w' ∧ ∃ σ', LiveX w' N p X' n σ' tb := by
  obtain ⟨A, x, t, f, fr, root, es, us, rfl, rfl, h3, h4, h5, h6⟩ := h
  exact open_on h4.pd h5.tr h5.idx h6.1 ⟨h6.2.1, h6.2.2.2.2⟩
end
theorem PI.held {W : World} {base q g m : Nat} {s : PS} (h : PI W base q g m s) (hb : base ≤ W.heap.size) : PD (W.alloc (.cells #[.pointer (some ⟨q, 0, none⟩)] 109)) base ⟨W.heap.size, q, g, m⟩ s := by
  obtain ⟨l1, l2, l3⟩ := h.le
  obtain ⟨k, D, m1, m2, m3⟩ := h.map
  have ho : Off (fun _ => False) W (W.alloc (.cells #[.pointer (some ⟨q, 0, none⟩)] 109)) := (Off.refl _ _).alloc _
  exact ⟨⟨hb, l1, l2, l3⟩, Blk.new W 109 _, h.blkQ.off ho (fun h => h), h.sec.off ho (fun h => h), ⟨k, D, map_off m1 ho (fun h => h), m2, m3⟩, h.n1, h.n2⟩
theorem qhold_ok (w : World) (base q g m : Nat) (s : PS) (h : PI w base q g m s) (hb : base ≤ w.heap.size) :
    Calls Tryz.prog 48 #[.pointer (some ⟨q, 0, none⟩), .int .i64 0] w fun e w' => ∃ A : PA, e = .returned (.tuple #[.pointer (some ⟨A.p, 0, none⟩), .int .i64 0]) ∧ PD w' base A s ∧ Below w.heap.size w w' := by
  have hR := h.held hb
  go_enter Tryz.func48, Tryz.ntmps48
  go_wp2
  go_ret2
  exact ⟨⟨w.heap.size, q, g, m⟩, rfl, hR, (Below.refl _ _).alloc (Nat.le_refl _) _⟩
theorem qnewd_ok (w : World) (n : Nat) (h1 : 256 ≤ n) (h2 : n ≤ 4096) :
    Calls Tryz.prog 29 #[.int .i64 (n : Int)] w fun e w' => ∃ A : PA, e = .returned (.tuple #[.pointer (some ⟨A.p, 0, none⟩), .int .i64 0]) ∧ PD w' w.heap.size A (PS.fresh n (fun _ => zeros 256)) ∧ Below w.heap.size w w' := by
  have hcon := pnew_ok w n h1 h2
  go_enter Tryz.func29, Tryz.ntmps29
  go_wp2_with (first
    | (go_at_call 57; refine hcon.mono ?_; rintro e w1 ⟨q, g, m, rfl, hI, hb1⟩; have hcon2 := qhold_ok w1 w.heap.size q g m _ hI hb1.size)
    | (go_at_call 48; refine hcon2.mono ?_; rintro e w2 ⟨A, rfl, hR, hb2⟩))
  go_ret2
  exact ⟨A, rfl, hR, hb1.trans (hb2.mono hb1.size)⟩
theorem tr_fresh (n : Nat) : Tr (PS.fresh n (fun _ => zeros 256)) 0 [] [] := by
  refine ⟨?_, .inl ⟨rfl, rfl, rfl⟩, List.nodup_nil, fun t ht => (by cases ht), List.Pairwise.nil⟩
  have : (zeros 256).data.toList = headB 0 := by rw [headB_zero]; rfl
  show headOf (zeros 256).data.toList = some 0
  rw [this]
  exact headOf_B (by omega)
theorem idx_nil : Idx plc [] ([] : List (Key × Box)) := ⟨List.Pairwise.nil, fun x => by simp, List.Pairwise.nil, fun t ht => (by cases ht), fun t ht => (by cases ht)⟩
end Go.Proofs.YtdgbgmffpcooeaaGreat
end
