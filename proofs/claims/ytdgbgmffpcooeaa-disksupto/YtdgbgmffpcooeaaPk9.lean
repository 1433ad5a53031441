/- What the program's disk does at Crash. -/
import Derived.Test.YtdgbgmffpcooeaaPk8
namespace Go.Proofs.Ytdgbgmffpcooeaa
open Go.RowKit Go.Lib Go.Maps

theorem step_delete_own {H : Type} {P : Program} {ops : Array Oper} {o : Oper} {a : Act} {w : World} {K : Act → World → Prop} {Q : Exit → Act → World → Prop} {E : Prop}
    (hg : o.guard = none) (m x : Operand) (t k : TypeId) (hop : o.op = Op.call { callee := Callee.builtin Builtin.delete, args := #[m, x], argTypes := #[t, k] })
    (e : TypeId) (Ky : Keyed P k) (ht : P.underlying t = some (.map k e)) (R : Value → Option (DataW H × List MemPlace)) (b n : Nat) (D : DataW H)
    (hm : a.eval m = .map (some b)) (hown : w.ownsMap P k R b n D) (key : Value) (kl : Lit) (hx : a.eval x = key) (hkey : keyOf P k key = some kl)
    (hK : ∀ w', w'.ownsMap P k R b n (D.del kl) → w.mapTurned w' b → K (a.put o.dst (.tuple #[])) w') :
    if Region.wanted o (yielded ops a.tmps) = true then Oper.wp P o a w K Q else E := by
  have hw : Region.wanted o (yielded ops a.tmps) = true := by simp [Region.wanted, hg]
  rw [if_pos hw]
  obtain ⟨w', hrun, r1, r2⟩ := hown.drop Ky ht hkey o.type
  unfold Oper.wp
  simp [execOp, hop, resolve, invoke, builtin, hm, hx, hrun, Result.andThen]
  exact hK w' r1 r2

theorem secV_inv_eq {a b : ByteArray} (h : secV a = secV b) : a = b := secV_inj h
theorem has_of_at {D : DataW Unit} {k : Lit} {y : DataW Unit} (h : ∀ z, D.atKey k z = y) : Maps.has D k = true := by
  have h1 := h (.lit (.bool true))
  have h2 := h (.lit (.bool false))
  cases D with
  | map es =>
    rw [has_eq]
    cases hf : es.find? (fun p => p.1.sameKey k) with
    | none => simp only [DataW.atKey, hf] at h1 h2; rw [← h2] at h1; cases h1
    | some p => exact List.any_eq_true.2 ⟨p, List.mem_of_find?_eq_some hf, List.find?_some (p := fun p : Lit × DataW Unit => p.1.sameKey k) hf⟩
  | _ => simp only [DataW.atKey] at h1 h2; rw [← h2] at h1; cases h1

theorem ranges_off {F : Nat → Prop} {W W' : World} {b r n cnt : Nat} {D : DataW Unit} {left : Lit → Bool} (h : W.ranges Try.prog 3 secR b r n D left cnt) (ho : Off F W W') (hb : ¬ F b) (hr : ¬ F r) : W'.ranges Try.prog 3 secR b r n D left cnt := by
  obtain ⟨es, clock, since, seen, c0, h1, h2, h3, h4, h5, h6⟩ := h
  exact ⟨es, clock, since, seen, c0, (ho.block b (Array.getElem?_eq_some_iff.1 h1).1 hb).trans h1, h2, h3, h4, (ho.block r (Array.getElem?_eq_some_iff.1 h5).1 hr).trans h5, h6⟩
theorem Sec.congr {W : World} {g n : Nat} {now now' : Nat → ByteArray} (h : Sec W g n now) (he : ∀ t, t < n → now' t = now t) : Sec W g n now' :=
  ⟨h.blk, fun t ht => by rw [he t ht]; exact h.at_ t ht, fun t ht => by rw [he t ht]; exact h.size t ht⟩
theorem same_kl {i j : Nat} : (kl i).sameKey (kl j) = decide (i = j) := by
  by_cases h : i = j
  · subst h; simp [Lit.sameKey]
  · simp [Lit.sameKey, h]
    omega

def PS.crash (s : PS) (lk : Nat) (K : Nat → Int) : PS := ⟨s.n, fun t => (keptOld s.old K lk t).getD (s.now t), fun _ => none, -1, false, s.steps⟩

set_option maxRecDepth 100000 in
set_option maxHeartbeats 4000000 in
theorem pcrash_any (w : World) (base : Nat) (A : PA) (s : PS) (h : PD w base A s) (hst : 0 ≤ s.steps ∧ s.steps ≤ 1073741824) (ak : Option Addr) (lk ck : Nat) (K : Nat → Int) (hK : KAt w ak lk K) (hlk : lk ≤ 1073741824) (hout : ∀ a, ak = some a → 0 < lk → ¬ A.F a.block) :
    Calls Try.prog 65 #[.pointer (some ⟨A.q, 0, none⟩), .slice ak lk ck] w fun e w' => ∃ A' : PA, e = .returned (.tuple #[]) ∧ PD w' base A' (s.crash lk K) ∧ Off A.F w w' ∧ A'.p = A.p ∧ ∀ k, A'.F k → A.F k ∨ w.heap.size ≤ k := by
  have hn2 := h.n2
  obtain ⟨c0, c1, c2, c3, c4⟩ := h.cells
  obtain ⟨km, D, hm1, hm2, hm3⟩ := h.map
  have hkmb : km ≤ 1073741824 := by omega
  have hsz := map_size hm1
  have hsc := sorted_call A.m km D secR w hm1 (by unfold maxLen; omega) (by omega)
  go_enter Try.func65, Try.ntmps65
  go_upto_region 2 with (first
    | (go_at_call 81; refine (keys_call _ _).mono ?_; rintro e w1 ⟨rfl, rfl⟩)
    | (go_at_call 80; refine hsc.mono ?_; rintro e w2 ⟨v, ss, rfl, hperm, hrow, hnil, hb2⟩))
  obtain ⟨hs1, hs2⟩ := keys_sorted hm1 hm3 hperm
  rw [hs1, hs2] at hrow
  have hB2 : Below w.heap.size w w2 := ((Below.refl _ w).alloc (Nat.le_refl _) _).trans (hb2.mono (by simp))
  have hrow2 := own_mono hrow (show w.heap.size ≤ _ by simp)
  clear hsc hperm hnil hb2 hs1 hs2 hrow c0 c1 c2 c3 c4
  obtain ⟨dl, hdl⟩ : ∃ dl, rowOf (dirtyOf s.old) s.n = dl := ⟨_, rfl⟩
  rw [hdl] at hrow2
  have HDL : Hid (rowOf (dirtyOf s.old) s.n = dl) := hdl
  clear hdl
  obtain ⟨av, capv, hvs, _, hvm, _⟩ := own_shape hrow2
  subst hvs
  have hR2 := h.below hB2
  have hm2' := map_off hm1 (Off.of_below (F := fun _ => False) hB2) (fun h => h)
  have hKc : ∀ W', Off A.F w W' → ∀ i, i < lk → ∃ a, ak = some a ∧ W'.cell? (a.add i) = some (.int .i64 (K i)) := fun W' ho i hi => by
    obtain ⟨a, ha, hb, hc⟩ := hK.at_ i hi
    have hblk : (a.add i).block = a.block := by unfold Addr.add; split <;> rfl
    exact ⟨a, ha, (World.cell?_of_block (ho.block (a.add i).block (by rw [hblk]; exact hb) (by rw [hblk]; exact hout a ha (by omega)))).trans hc⟩
  have hoff2 : Off A.F w w2 := Off.of_below hB2
  clear hB2 hm1 hsz hK hout
  go_loopw [17] (fun x wr => ∃ (k : Nat) (D' : DataW Unit), x = .int .i64 (k : Int) ∧ k ≤ lk ∧ wr.ownsMap Try.prog 3 secR A.m km D' ∧ MapIs D' (keptOld s.old K k) s.n ∧ Off (fun x => x = A.m) w2 wr) (fun x _ => lk - (intOf x).toNat)
  case atStart => exact ⟨0, D, rfl, by omega, hm2', by rw [keptOld_zero]; exact hm3, Off.refl _ _⟩
  case round =>
    obtain ⟨k, D', rfl, hk, hmap, hmi, ho⟩ := hrel
    have hoA : Off A.F w wr := hoff2.trans (ho.mono (fun x _ hx => .inr (.inr (.inr hx))))
    obtain ⟨a1, a2, a3, a4, a5, a6⟩ := hR2.apart
    have hbq := hR2.blkQ.off ho (Ne.symm a3)
    have c1 : wr.cell? ⟨A.q, 1, none⟩ = some (.map (some A.m)) := hbq.cell 1
    by_cases hlt : k < lk
    · have hlt' : (k : Int) < (lk : Int) := by omega
      obtain ⟨a, ha, hca⟩ := hKc wr hoA k hlt
      subst ha
      obtain ⟨pk, hpk⟩ : ∃ pk, K k = pk := ⟨_, rfl⟩
      rw [hpk] at hca
      have HPK : Hid (K k = pk) := hpk
      clear hpk
      by_cases hin : 0 ≤ pk ∧ pk < (dl.length : Int)
      · obtain ⟨p, rfl⟩ : ∃ p : Nat, pk = p := ⟨pk.toNat, by omega⟩
        have hpl : p < dl.length := by omega
        have t1 : (0 : Int) ≤ (p : Int) := by omega
        have t2 : (p : Int) < (dl.length : Int) := by omega
        obtain ⟨i, hi⟩ : ∃ i, dl[p]? = some i := ⟨_, List.getElem?_eq_getElem hpl⟩
        obtain ⟨gv, cv, ev, _, hgv⟩ := hrow2.form (by omega)
        cases ev
        have hgm : gv ≠ A.m := fun e => by
          obtain ⟨_, cs, hh⟩ := own_tagged hrow2 (j := gv) rfl
          obtain ⟨es, c, hh2, _⟩ := hm2'
          rw [e, hh2] at hh; cases hh
        have hrw := own_off hrow2 ho hgm
        have cr := (own_cell hrw p (by omega)).1
        rw [List.getElem?_map, List.getElem?_map, hi] at cr
        have cr' : wr.cell? ⟨gv, p, none⟩ = some (.int .i64 (i : Int)) := cr
        have hgvw := (own_lt hrw).2
        have hin2 : i < s.n := by
          have := HDL.out
          rw [← this] at hi
          exact (rank_of_get _ hi).1
        have hkey := key_of i (by omega)
        have HIN : Hid (∀ t, t < s.n → keptOld s.old K (k + 1) t = upd (keptOld s.old K k) i none t) := by
          have h1 := HDL.out
          rw [← h1] at hi
          exact keptOld_in s.old K k s.n p i HPK.out hi
        clear hin hi cr
        go_wp2
        go_region_law (refine step_delete_own rfl (.tmp 32) (.tmp 36) 103 3 rfl 107 keyed3 Try.underlying103 secR A.m km D' (by simp [Act.eval]) hmap.drew (.int .i64 (i : Int)) (kl i) (by simp [Act.eval]) hkey ?_; intro w5 hm5 hturn)
        all_goals
          go_wp2
          go_roundw
          case rel =>
            refine ⟨k + 1, D'.del (kl i), by go_num, by omega, hm5, (hmi.del hin2).congr HIN.out, ?_⟩
            exact ho.drew.trans ((Off.refl _ _).grown hturn.grown (fun j hj => .inl (by cases hj; rfl)))
          case measure => simp [intOf]; omega
      · have HOUT : Hid (∀ t, t < s.n → keptOld s.old K (k + 1) t = keptOld s.old K k t) := by
          refine keptOld_out s.old K k s.n ?_
          rw [HPK.out, HDL.out]; omega
        by_cases t1 : 0 ≤ pk
        · have t2 : decide (pk < (dl.length : Int)) = false := by simp; omega
          clear hin
          go_wp2
          go_roundw
          case rel => exact ⟨k + 1, D', by go_num, by omega, hmap, hmi.congr HOUT.out, ho⟩
          case measure => simp [intOf]; omega
        · have t1' : decide (0 ≤ pk) = false := by simp; omega
          clear hin
          go_wp2
          go_roundw
          case rel => exact ⟨k + 1, D', by go_num, by omega, hmap, hmi.congr HOUT.out, ho⟩
          case measure => simp [intOf]; omega
    · have hlt' : decide ((k : Int) < (lk : Int)) = false := by simp; omega
      have hlt2 : decide (k < lk) = false := by simp; omega
      have hkl : k = lk := by omega
      rw [hkl] at hmi
      have hoff3 := hoA
      have hR3 : PD wr base A { s with old := keptOld s.old K lk } := ⟨hR2.le, hR2.blkP.off ho (Ne.symm a5), hbq, hR2.sec.off ho (Ne.symm a6), ⟨km, D', hmap, hm2, hmi⟩, hR2.n1, hR2.n2⟩
      clear hkl hrow2 hR2 hm2' hoff2 hoA ho hbq c1
      obtain ⟨W3, rfl⟩ : ∃ W3, W3 = wr := ⟨_, rfl⟩
      obtain ⟨old1, hold1⟩ : ∃ o, keptOld s.old K lk = o := ⟨_, rfl⟩
      rw [hold1] at hR3 hmi
      have HOLD : Hid (keptOld s.old K lk = old1) := hold1
      clear hold1 hKc HDL hm3
      have c1 : W3.cell? ⟨A.q, 1, none⟩ = some (.map (some A.m)) := hR3.cells.2.1
      go_upto_region 8 with (at_range; refine wpList_range_own _ rfl (.tmp 41) 103 rfl 3 107 keyed3 Try.underlying103 secR A.m km D' rfl hmap ?_; intro w4 hrg0 hg0 hs0)
      go_frame
      have ho4 : Off (fun x => x = A.g) W3 w4 := (Off.refl _ _).grown hg0 (fun j hj => by cases hj)
      have hsec4 : Sec w4 A.g s.n s.now := hR3.sec.off (F := fun _ => False) ((Off.refl _ _).grown hg0 (fun j hj => by cases hj)) (fun h => h)
      clear c1
      go_loopw [7] (fun _ wq => ∃ (left : Lit → Bool) (cnt : Nat), wq.ranges Try.prog 3 secR A.m W3.heap.size km D' left cnt ∧ Sec wq A.g s.n (fun t => if left (kl t) then s.now t else (old1 t).getD (s.now t)) ∧ Off (fun x => x = A.g) W3 wq) (fun _ wq => wq.rangeLeft A.m W3.heap.size)
      case atStart =>
        refine ⟨_, _, hrg0, ⟨hsec4.blk, fun t ht => ?_, fun t ht => ?_⟩, ho4⟩
        · have hh := hmi.has_ t ht
          cases ho1 : old1 t with
          | none => simp only [Option.getD_none, ite_self]; exact hsec4.at_ t ht
          | some b => rw [ho1] at hh; simp only [hh, Option.isSome_some, if_true]; exact hsec4.at_ t ht
        · have hh := hmi.has_ t ht
          cases ho1 : old1 t with
          | none => simp only [Option.getD_none, ite_self]; exact hsec4.size t ht
          | some b => rw [ho1] at hh; simp only [hh, Option.isSome_some, if_true]; exact hsec4.size t ht
      case round =>
        obtain ⟨left, cnt, hrg, hsec, hoq⟩ := hrel
        clear hrg0 hg0 hs0 ho4 hsec4
        go_wp2_with (first
          | (at_next; refine wpList_next_ranges _ rfl (.tmp 42) rfl 3 keyed3 secR (Value.int .i64) secV (fun key kl hkey => by obtain ⟨x, rfl, _⟩ := Maps.keyOf_int_inv Try.underlying3 hkey; exact ⟨x, rfl⟩) (fun v y hv => by obtain ⟨c, _, rfl, _⟩ := secR_inv hv; exact ⟨c, rfl⟩) A.m W3.heap.size km D' left cnt rfl hrg ?_ ?_))
        · intro _ hl0
          obtain ⟨a1, a2, a3, a4, a5, a6⟩ := hR3.apart
          have hR5 : PD wr base A { s with old := old1, now := fun t => (old1 t).getD (s.now t) } := by
            refine ⟨hR3.le, hR3.blkP.off hoq (Ne.symm a4), hR3.blkQ.off hoq (Ne.symm a2), ⟨hsec.blk, fun t ht => ?_, fun t ht => ?_⟩, ⟨km, D', hrg.owns, hm2, hmi⟩, hR3.n1, hR3.n2⟩
            · have := hsec.at_ t ht
              simp only [hl0] at this
              exact this
            · have := hsec.size t ht
              simp only [hl0] at this
              exact this
          have hoF : Off A.F w wr := hoff3.trans (hoq.mono (fun x _ hx => .inr (.inr (.inl hx))))
          clear hsec hrg hl0 hmap hmi
          go_wp2_with (go_at_call 82; refine (psettle_any wr base A _ hR5 hst.1).mono ?_; rintro e w6 ⟨rfl, hR6, ho6⟩; have e2 : w6.cell? ⟨A.q, 2, none⟩ = some (.int .i64 s.left) := hR6.cells.2.2.1; have e3 : w6.cell? ⟨A.q, 3, none⟩ = some (.bool s.broken) := hR6.cells.2.2.2.1; have f2 : w6.frozen? ⟨A.q, 2, none⟩ = false := hR6.blkQ.frozen 2; have f3 : w6.frozen? ⟨A.q, 3, none⟩ = false := hR6.blkQ.frozen 3)
          have hR7 := (hR6.cell 3 (.bool false) (s' := ⟨s.n, fun t => (old1 t).getD (s.now t), fun _ => none, s.left, false, s.steps⟩) rfl rfl rfl (Int.le_refl _) rfl).cell 2 (.int .i64 (-1)) (s' := ⟨s.n, fun t => (old1 t).getD (s.now t), fun _ => none, -1, false, s.steps⟩) rfl rfl rfl (Int.le_refl _) rfl
          have ho7 := ((hoF.trans ho6).setCell (B := A.q) (i := 3) (.bool false) (.inl (.inr (.inl rfl)))).setCell (B := A.q) (i := 2) (.int .i64 (-1)) (.inl (.inr (.inl rfl)))
          refine bodyPost_end (v := .tuple #[]) (by simp [results, Try.results65]) rfl ⟨{ A with m := wr.heap.size }, rfl, ?_, ho7, rfl, fun x hx => ?_⟩
          · unfold PS.crash
            rw [HOLD.out]; exact hR7
          · have := hoF.size
            rcases hx with rfl | rfl | rfl | rfl
            · exact .inl (.inl rfl)
            · exact .inl (.inr (.inl rfl))
            · exact .inl (.inr (.inr (.inl rfl)))
            · exact .inr this
        · intro x c kx y1 y2 w5 cnt5 hkx hlx hv hat hrg5 hlt5 hg5 hs5 hen
          obtain ⟨x', ex, rfl, hwx⟩ := Maps.keyOf_int_inv Try.underlying3 hkx
          cases ex
          obtain ⟨c', hc256, ec, ey⟩ := secR_inv hv
          obtain rfl := secV_inv_eq ec
          simp only [Prod.mk.injEq] at ey
          obtain ⟨rfl, rfl⟩ := ey
          obtain ⟨i, hi, e1⟩ := hmi.keys _ (has_of_at hat)
          have e1' : (Lit.int .i64 x) = .int .i64 (i : Int) := e1
          injection e1' with _ e2
          subst e2
          have hsome := has_of_at hat
          rw [show (Lit.int .i64 (i : Int)) = kl i from rfl, hmi.has_ i hi] at hsome
          obtain ⟨b, hob⟩ := Option.isSome_iff_exists.1 hsome
          have hbc : b = c := lit_inj ((hmi.val i b hi hob (.lit (.bool true))).symm.trans (hat _))
          rw [hbc] at hob
          clear hsome hbc e1 hv hkx ec
          have hgr : A.g < W3.heap.size := hR3.sec.lt
          have ho5 : Off (fun x => x = W3.heap.size) wr w5 := (Off.refl _ _).grown hg5 (fun j hj => .inl (by cases hj; rfl))
          have hsec5 := hsec.off ho5 (by omega)
          have hoq5 : Off (fun x => x = A.g) W3 w5 := hoq.step ho5 (fun x hx he => by omega)
          obtain ⟨a1, a2, a3, a4, a5, a6⟩ := hR3.apart
          have hsz5 := hoq5.size
          clear hsec ho5 hg5 hs5
          have hcc : c.size = 256 := hc256
          go_upto_region 10 with (first
            | (refine wpList_store_mid rfl 107 (.tmp 8) (.tmp 47) rfl w5.heap.size 0 (strCells c).toArray rfl rfl (by rw [size_strCells hcc]; exact there_new w5) (by rw [size107, size_strCells hcc]) (all_strCells c) ?_))
          have hbel6 : Below w5.heap.size w5 ((w5.alloc (.cells Try.zeroCells107 107)).setCells w5.heap.size 0 (strCells c)) := below_setCells (Nat.le_refl _) _ _ _ ((Below.refl _ _).alloc (Nat.le_refl _) _)
          have hth8 := (there_of_new (W := w5) hcc).1
          have ho56 : Off (fun _ => False) w5 ((w5.alloc (.cells Try.zeroCells107 107)).setCells w5.heap.size 0 (strCells c)) := Off.of_below hbel6
          have hg8 : A.g ≠ w5.heap.size := by have := hsec5.lt; omega
          have hq8 : A.q < w5.heap.size := by have := (hR3.lt A.q (.inr (.inl rfl))).2; omega
          obtain ⟨B8, hB8⟩ : ∃ B, w5.heap.size = B := ⟨_, rfl⟩
          rw [hB8] at hth8 ho56 hg8 hq8 hbel6 ⊢
          clear hB8
          obtain ⟨W6, hW6⟩ : ∃ W6, (w5.alloc (.cells Try.zeroCells107 107)).setCells B8 0 (strCells c) = W6 := ⟨_, rfl⟩
          rw [hW6] at hth8 ho56 hbel6 ⊢
          clear hW6 hbel6
          have hrg6 := ranges_off hrg5 ho56 (fun h => h) (fun h => h)
          have hsec6 := hsec5.off ho56 (fun h => h)
          have hoq6 : Off (fun x => x = A.g) W3 W6 := hoq5.trans (ho56.mono (fun x _ hx => hx.elim))
          have c0 : W6.cell? ⟨A.q, 0, none⟩ = some (.slice (some ⟨A.g, 0, none⟩) s.n s.n) := (hR3.blkQ.off hoq6 (Ne.symm a2)).cell 0
          have hth : W6.there A.g (i * 256) 256 := hsec6.there hi
          have hu7 := Try.underlying107
          have hlc : (strCells c).length = 256 := by rw [strCells_length, hcc]
          have hi7 : (Try.prog.info? 107).map (·.size) = some (strCells c).length := by rw [size107, hlc]
          have hone := strCells_oneCell c
          have hsecN := (hsec6.off ((Off.refl (fun _ => False) W6).drew) (fun h => h)).set (i := i) hi hcc
          have hrgN := ranges_off hrg6 ((Off.refl (fun x => x = A.g) W6).drew.trans (Off.setCells (F := fun x => x = A.g) (B := A.g) (.inl rfl) (strCells c) (i * 256) _ (Off.refl _ _))) a6 (by omega)
          have hoN : Off (fun x => x = A.g) W3 (W6.drew.setCells A.g (i * 256) (strCells c)) := Off.setCells (F := fun x => x = A.g) (B := A.g) (.inl rfl) (strCells c) (i * 256) _ hoq6.drew
          have d0 : (W6.drew.setCells A.g (i * 256) (strCells c)).cell? ⟨A.q, 0, none⟩ = some (.slice (some ⟨A.g, 0, none⟩) s.n s.n) := (hR3.blkQ.off hoN (Ne.symm a2)).cell 0
          have hr8 : (W6.drew.setCells A.g (i * 256) (strCells c)).rangeAt B8 0 (strCells c) := World.rangeAt_setCells_apart (w := W6.drew) (fun j v hv => (World.cell?_drew W6 _).trans (hth8 j v hv)) _ _ _ (.inl (Ne.symm hg8))
          clear hrg5 hsec5 hoq5 ho56 hrg6 hoq6 hen hat hwx hsz5
          go_region_held3 (fun W' => W'.cell? ⟨A.q, 0, none⟩ = some (.slice (some ⟨A.g, 0, none⟩) s.n s.n) ∧ W'.rangeAt B8 0 (strCells c) ∧ W'.there A.g (i * 256) (strCells c).length)
            (first
              | exact ⟨d0, hr8, by rw [hlc]; exact hsecN.there hi⟩
              | exact ⟨c0, hth8, by rw [hlc]; exact hth⟩
              | go_keep)
            (fail)
          all_goals
            go_wp2
            go_roundw
            case rel =>
              refine ⟨_, _, hrgN, hsecN.congr (fun t ht => ?_), hoN⟩
              have hk := same_kl (i := t) (j := i)
              show (if (left (kl t) && !(kl t).sameKey (kl i)) = true then s.now t else (old1 t).getD (s.now t)) = upd (fun t => if left (kl t) = true then s.now t else (old1 t).getD (s.now t)) i c t
              unfold upd
              by_cases hti : t = i
              · subst hti
                simp [hk, hob]
              · simp [hk, hti]
            case measure => rw [hrgN.left_eq, hrg.left_eq]; exact hlt5
end Go.Proofs.Ytdgbgmffpcooeaa
