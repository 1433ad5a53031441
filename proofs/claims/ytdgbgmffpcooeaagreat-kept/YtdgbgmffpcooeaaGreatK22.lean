/- Pk9 Tr1 Ch1 Ch2 Ch3 Fr1 -/
import Derived.Test.YtdgbgmffpcooeaaGreatK21
import Derived.Test.YtdgbgmffpcooeaaGreatK19
import Derived.Test.YtdgbgmffpcooeaaGreatK10
import Derived.Test.YtdgbgmffpcooeaaGreatK13
import Derived.Shelf.Abstract
import Derived.Shelf.AbstractIn
import Derived.Shelf.RegionOpen
import Derived.WalkKit
import Derived.OwnWalkIn
import Derived.TacticsInMore
import Derived.LoopNIn
import Derived.LoopIn
import Derived.Sort.CutIn
section
/- What the program's disk does at Crash. -/
namespace Go.Proofs.YtdgbgmffpcooeaaGreat
open Go.RowKit Go.Lib Go.Maps

theorem step_delete_own {H : Type} {P : Program} {ops : Array Oper} {o : Oper} {a : Act} {w : World} {K : Act → World → Prop} {Q : Exit → Act → World → Prop} {E : Prop}
    (hg : o.guard = none) (m x : Operand) (t k : TypeId) (hop : o.op = Op.call { callee := Callee.builtin Builtin.delete, args := #[m, x], argTypes := #[t, k] })
    (e : TypeId) (Ky : Keyed P k) (ht : P.underlying t = some (.map k e)) (R : Value → Option (DataW H × List MemPlace)) (b n : Nat) (D : DataW H)
    (hm : a.eval m = .map (some b)) (hown : w.ownsMap P k R b n D) (key : Value) (kl : Lit) (hx : a.eval x = key) (hkey : keyOf P k key = some kl)
    (hK : ∀ w', w'.ownsMap P k R b n (D.del kl) → w.mapTurned w' b → K (a.put o.dst (.tuple #[])) w') :
    if Region.wanted o (yielded ops a.tmps) = true then Oper.wp P o a w K Q else E := by
  have hw : Region.wanted o (yielded ops a.tmps) = true := by simp [Region.wanted, hg]
  rw [if_pos hw]
  obtain ⟨w', hrun, r1, r2⟩ := hown.drop Ky ht hkey o.type
  unfold Oper.wp
  simp [execOp, hop, resolve, invoke, builtin, hm, hx, hrun, Result.andThen]
  exact hK w' r1 r2

theorem secV_inv_eq {a b : ByteArray} (h : secV a = secV b) : a = b := secV_inj h
theorem has_of_at {D : DataW Unit} {k : Lit} {y : DataW Unit} (h : ∀ z, D.atKey k z = y) : Maps.has D k = true := by
  have h1 := h (.lit (.bool true))
  have h2 := h (.lit (.bool false))
  cases D with
  | map es =>
    rw [has_eq]
    cases hf : es.find? (fun p => p.1.sameKey k) with
    | none => simp only [DataW.atKey, hf] at h1 h2; rw [← h2] at h1; cases h1
    | some p => exact List.any_eq_true.2 ⟨p, List.mem_of_find?_eq_some hf, List.find?_some (p := fun p : Lit × DataW Unit => p.1.sameKey k) hf⟩
  | _ => simp only [DataW.atKey] at h1 h2; rw [← h2] at h1; cases h1

theorem ranges_off {F : Nat → Prop} {W W' : World} {b r n cnt : Nat} {D : DataW Unit} {left : Lit → Bool} (h : W.ranges Tryz.prog 3 secR b r n D left cnt) (ho : Off F W W') (hb : ¬ F b) (hr : ¬ F r) : W'.ranges Tryz.prog 3 secR b r n D left cnt := by
  obtain ⟨es, clock, since, seen, c0, h1, h2, h3, h4, h5, h6⟩ := h
  exact ⟨es, clock, since, seen, c0, (ho.block b (Array.getElem?_eq_some_iff.1 h1).1 hb).trans h1, h2, h3, h4, (ho.block r (Array.getElem?_eq_some_iff.1 h5).1 hr).trans h5, h6⟩
theorem Sec.congr {W : World} {g n : Nat} {now now' : Nat → ByteArray} (h : Sec W g n now) (he : ∀ t, t < n → now' t = now t) : Sec W g n now' :=
  ⟨h.blk, fun t ht => by rw [he t ht]; exact h.at_ t ht, fun t ht => by rw [he t ht]; exact h.size t ht⟩
theorem same_kl {i j : Nat} : (kl i).sameKey (kl j) = decide (i = j) := by
  by_cases h : i = j
  · subst h; simp [Lit.sameKey]
  · simp [Lit.sameKey, h]
    omega

def PS.crash (s : PS) (lk : Nat) (K : Nat → Int) : PS := ⟨s.n, fun t => (keptOld s.old K lk t).getD (s.now t), fun _ => none, -1, false, s.steps⟩

set_option maxRecDepth 100000 in
set_option maxHeartbeats 4000000 in
theorem pcrash_any (w : World) (base : Nat) (A : PA) (s : PS) (h : PD w base A s) (ak : Option Addr) (lk ck : Nat) (K : Nat → Int) (hK : KAt w ak lk K) (hlk : lk ≤ 9223372036854775807) (hout : ∀ a, ak = some a → 0 < lk → ¬ A.F a.block) :
    Calls Tryz.prog 50 #[.pointer (some ⟨A.q, 0, none⟩), .slice ak lk ck] w fun e w' => ∃ A' : PA, e = .returned (.tuple #[]) ∧ PD w' base A' (s.crash lk K) ∧ Off A.F w w' ∧ A'.p = A.p ∧ ∀ k, A'.F k → A.F k ∨ w.heap.size ≤ k := by
  have hn2 := h.n2
  obtain ⟨c0, c1, c2, c3, c4⟩ := h.cells
  obtain ⟨km, D, hm1, hm2, hm3⟩ := h.map
  have hkmb : km ≤ 1073741824 := by omega
  have hsz := map_size hm1
  have hsc := sorted_call A.m km D secR w hm1 (by unfold maxLen; omega) (by omega)
  go_enter Tryz.func50, Tryz.ntmps50
  go_upto_region 2 with (first
    | (go_at_call 72; refine (keys_call _ _).mono ?_; rintro e w1 ⟨rfl, rfl⟩)
    | (go_at_call 71; refine hsc.mono ?_; rintro e w2 ⟨v, ss, rfl, hperm, hrow, hnil, hb2⟩))
  obtain ⟨hs1, hs2⟩ := keys_sorted hm1 hm3 hperm
  rw [hs1, hs2] at hrow
  have hB2 : Below w.heap.size w w2 := ((Below.refl _ w).alloc (Nat.le_refl _) _).trans (hb2.mono (by simp))
  have hrow2 := own_mono hrow (show w.heap.size ≤ _ by simp)
  clear hsc hperm hnil hb2 hs1 hs2 hrow c0 c1 c2 c3 c4
  obtain ⟨dl, hdl⟩ : ∃ dl, rowOf (dirtyOf s.old) s.n = dl := ⟨_, rfl⟩
  rw [hdl] at hrow2
  have HDL : Hid (rowOf (dirtyOf s.old) s.n = dl) := hdl
  clear hdl
  obtain ⟨av, capv, hvs, _, hvm, _⟩ := own_shape hrow2
  subst hvs
  have hR2 := h.below hB2
  have hm2' := map_off hm1 (Off.of_below (F := fun _ => False) hB2) (fun h => h)
  have hKc : ∀ W', Off A.F w W' → ∀ i, i < lk → ∃ a, ak = some a ∧ W'.cell? (a.add i) = some (.int .i64 (K i)) := fun W' ho i hi => by
    obtain ⟨a, ha, hb, hc⟩ := hK.at_ i hi
    have hblk : (a.add i).block = a.block := by unfold Addr.add; split <;> rfl
    exact ⟨a, ha, (World.cell?_of_block (ho.block (a.add i).block (by rw [hblk]; exact hb) (by rw [hblk]; exact hout a ha (by omega)))).trans hc⟩
  have hoff2 : Off A.F w w2 := Off.of_below hB2
  clear hB2 hm1 hsz hK hout
  go_loopw [17] (fun x wr => ∃ (k : Nat) (D' : DataW Unit), x = .int .i64 (k : Int) ∧ k ≤ lk ∧ wr.ownsMap Tryz.prog 3 secR A.m km D' ∧ MapIs D' (keptOld s.old K k) s.n ∧ Off (fun x => x = A.m) w2 wr) (fun x _ => lk - (intOf x).toNat)
  case atStart => exact ⟨0, D, rfl, by omega, hm2', by rw [keptOld_zero]; exact hm3, Off.refl _ _⟩
  case round =>
    obtain ⟨k, D', rfl, hk, hmap, hmi, ho⟩ := hrel
    have hoA : Off A.F w wr := hoff2.trans (ho.mono (fun x _ hx => .inr (.inr (.inr hx))))
    obtain ⟨a1, a2, a3, a4, a5, a6⟩ := hR2.apart
    have hbq := hR2.blkQ.off ho (Ne.symm a3)
    have c1 : wr.cell? ⟨A.q, 1, none⟩ = some (.map (some A.m)) := hbq.cell 1
    by_cases hlt : k < lk
    · have hlt' : (k : Int) < (lk : Int) := by omega
      obtain ⟨a, ha, hca⟩ := hKc wr hoA k hlt
      subst ha
      obtain ⟨pk, hpk⟩ : ∃ pk, K k = pk := ⟨_, rfl⟩
      rw [hpk] at hca
      have HPK : Hid (K k = pk) := hpk
      clear hpk
      by_cases hin : 0 ≤ pk ∧ pk < (dl.length : Int)
      · obtain ⟨p, rfl⟩ : ∃ p : Nat, pk = p := ⟨pk.toNat, by omega⟩
        have hpl : p < dl.length := by omega
        have t1 : (0 : Int) ≤ (p : Int) := by omega
        have t2 : (p : Int) < (dl.length : Int) := by omega
        obtain ⟨i, hi⟩ : ∃ i, dl[p]? = some i := ⟨_, List.getElem?_eq_getElem hpl⟩
        obtain ⟨gv, cv, ev, _, hgv⟩ := hrow2.form (by omega)
        cases ev
        have hgm : gv ≠ A.m := fun e => by
          obtain ⟨_, cs, hh⟩ := own_tagged hrow2 (j := gv) rfl
          obtain ⟨es, c, hh2, _⟩ := hm2'
          rw [e, hh2] at hh; cases hh
        have hrw := own_off hrow2 ho hgm
        have cr := (own_cell hrw p (by omega)).1
        rw [List.getElem?_map, List.getElem?_map, hi] at cr
        have cr' : wr.cell? ⟨gv, p, none⟩ = some (.int .i64 (i : Int)) := cr
        have hgvw := (own_lt hrw).2
        have hin2 : i < s.n := by
          have := HDL.out
          rw [← this] at hi
          exact (rank_of_get _ hi).1
        have hkey := key_of i (by omega)
        have HIN : Hid (∀ t, t < s.n → keptOld s.old K (k + 1) t = upd (keptOld s.old K k) i none t) := by
          have h1 := HDL.out
          rw [← h1] at hi
          exact keptOld_in s.old K k s.n p i HPK.out hi
        clear hin hi cr
        go_wp2
        go_region_law (refine step_delete_own rfl (.tmp 32) (.tmp 36) 131 3 rfl 135 keyed3 Tryz.underlying131 secR A.m km D' (by simp [Act.eval]) hmap.drew (.int .i64 (i : Int)) (kl i) (by simp [Act.eval]) hkey ?_; intro w5 hm5 hturn)
        all_goals
          go_wp2
          go_roundw
          case rel =>
            refine ⟨k + 1, D'.del (kl i), by go_num, by omega, hm5, (hmi.del hin2).congr HIN.out, ?_⟩
            exact ho.drew.trans ((Off.refl _ _).grown hturn.grown (fun j hj => .inl (by cases hj; rfl)))
          case measure => simp [intOf]; omega
      · have HOUT : Hid (∀ t, t < s.n → keptOld s.old K (k + 1) t = keptOld s.old K k t) := by
          refine keptOld_out s.old K k s.n ?_
          rw [HPK.out, HDL.out]; omega
        by_cases t1 : 0 ≤ pk
        · have t2 : decide (pk < (dl.length : Int)) = false := by simp; omega
          clear hin
          go_wp2
          go_roundw
          case rel => exact ⟨k + 1, D', by go_num, by omega, hmap, hmi.congr HOUT.out, ho⟩
          case measure => simp [intOf]; omega
        · have t1' : decide (0 ≤ pk) = false := by simp; omega
          clear hin
          go_wp2
          go_roundw
          case rel => exact ⟨k + 1, D', by go_num, by omega, hmap, hmi.congr HOUT.out, ho⟩
          case measure => simp [intOf]; omega
    · have hlt' : decide ((k : Int) < (lk : Int)) = false := by simp; omega
      have hlt2 : decide (k < lk) = false := by simp; omega
      have hkl : k = lk := by omega
      rw [hkl] at hmi
      have hoff3 := hoA
      have hR3 : PD wr base A { s with old := keptOld s.old K lk } := ⟨hR2.le, hR2.blkP.off ho (Ne.symm a5), hbq, hR2.sec.off ho (Ne.symm a6), ⟨km, D', hmap, hm2, hmi⟩, hR2.n1, hR2.n2⟩
      clear hkl hrow2 hR2 hm2' hoff2 hoA ho hbq c1
      obtain ⟨W3, rfl⟩ : ∃ W3, W3 = wr := ⟨_, rfl⟩
      obtain ⟨old1, hold1⟩ : ∃ o, keptOld s.old K lk = o := ⟨_, rfl⟩
      rw [hold1] at hR3 hmi
      have HOLD : Hid (keptOld s.old K lk = old1) := hold1
      clear hold1 hKc HDL hm3
      have c1 : W3.cell? ⟨A.q, 1, none⟩ = some (.map (some A.m)) := hR3.cells.2.1
      go_upto_region 8 with (at_range; refine wpList_range_own _ rfl (.tmp 41) 131 rfl 3 135 keyed3 Tryz.underlying131 secR A.m km D' rfl hmap ?_; intro w4 hrg0 hg0 hs0)
      go_frame
      have ho4 : Off (fun x => x = A.g) W3 w4 := (Off.refl _ _).grown hg0 (fun j hj => by cases hj)
      have hsec4 : Sec w4 A.g s.n s.now := hR3.sec.off (F := fun _ => False) ((Off.refl _ _).grown hg0 (fun j hj => by cases hj)) (fun h => h)
      clear c1
      go_loopw [7] (fun _ wq => ∃ (left : Lit → Bool) (cnt : Nat), wq.ranges Tryz.prog 3 secR A.m W3.heap.size km D' left cnt ∧ Sec wq A.g s.n (fun t => if left (kl t) then s.now t else (old1 t).getD (s.now t)) ∧ Off (fun x => x = A.g) W3 wq) (fun _ wq => wq.rangeLeft A.m W3.heap.size)
      case atStart =>
        refine ⟨_, _, hrg0, ⟨hsec4.blk, fun t ht => ?_, fun t ht => ?_⟩, ho4⟩
        · have hh := hmi.has_ t ht
          cases ho1 : old1 t with
          | none => simp only [Option.getD_none, ite_self]; exact hsec4.at_ t ht
          | some b => rw [ho1] at hh; simp only [hh, Option.isSome_some, if_true]; exact hsec4.at_ t ht
        · have hh := hmi.has_ t ht
          cases ho1 : old1 t with
          | none => simp only [Option.getD_none, ite_self]; exact hsec4.size t ht
          | some b => rw [ho1] at hh; simp only [hh, Option.isSome_some, if_true]; exact hsec4.size t ht
      case round =>
        obtain ⟨left, cnt, hrg, hsec, hoq⟩ := hrel
        clear hrg0 hg0 hs0 ho4 hsec4
        go_wp2_with (first
          | (at_next; refine wpList_next_ranges _ rfl (.tmp 42) rfl 3 keyed3 secR (Value.int .i64) secV (fun key kl hkey => by obtain ⟨x, rfl, _⟩ := Maps.keyOf_int_inv Tryz.underlying3 hkey; exact ⟨x, rfl⟩) (fun v y hv => by obtain ⟨c, _, rfl, _⟩ := secR_inv hv; exact ⟨c, rfl⟩) A.m W3.heap.size km D' left cnt rfl hrg ?_ ?_))
        · intro _ hl0
          obtain ⟨a1, a2, a3, a4, a5, a6⟩ := hR3.apart
          have hR5 : PD wr base A { s with old := old1, now := fun t => (old1 t).getD (s.now t) } := by
            refine ⟨hR3.le, hR3.blkP.off hoq (Ne.symm a4), hR3.blkQ.off hoq (Ne.symm a2), ⟨hsec.blk, fun t ht => ?_, fun t ht => ?_⟩, ⟨km, D', hrg.owns, hm2, hmi⟩, hR3.n1, hR3.n2⟩
            · have := hsec.at_ t ht
              simp only [hl0] at this
              exact this
            · have := hsec.size t ht
              simp only [hl0] at this
              exact this
          have hoF : Off A.F w wr := hoff3.trans (hoq.mono (fun x _ hx => .inr (.inr (.inl hx))))
          clear hsec hrg hl0 hmap hmi
          go_wp2_with (go_at_call 73; refine (psettle_any wr base A _ hR5).mono ?_; rintro e w6 ⟨rfl, hR6, ho6⟩; have e2 : w6.cell? ⟨A.q, 2, none⟩ = some (.int .i64 s.left) := hR6.cells.2.2.1; have e3 : w6.cell? ⟨A.q, 3, none⟩ = some (.bool s.broken) := hR6.cells.2.2.2.1; have f2 : w6.frozen? ⟨A.q, 2, none⟩ = false := hR6.blkQ.frozen 2; have f3 : w6.frozen? ⟨A.q, 3, none⟩ = false := hR6.blkQ.frozen 3)
          have hR7 := (hR6.cell 3 (.bool false) (s' := ⟨s.n, fun t => (old1 t).getD (s.now t), fun _ => none, s.left, false, s.steps⟩) rfl rfl rfl rfl).cell 2 (.int .i64 (-1)) (s' := ⟨s.n, fun t => (old1 t).getD (s.now t), fun _ => none, -1, false, s.steps⟩) rfl rfl rfl rfl
          have ho7 := ((hoF.trans ho6).setCell (B := A.q) (i := 3) (.bool false) (.inl (.inr (.inl rfl)))).setCell (B := A.q) (i := 2) (.int .i64 (-1)) (.inl (.inr (.inl rfl)))
          refine bodyPost_end (v := .tuple #[]) (by simp [results, Tryz.results50]) rfl ⟨{ A with m := wr.heap.size }, rfl, ?_, ho7, rfl, fun x hx => ?_⟩
          · unfold PS.crash
            rw [HOLD.out]; exact hR7
          · have := hoF.size
            rcases hx with rfl | rfl | rfl | rfl
            · exact .inl (.inl rfl)
            · exact .inl (.inr (.inl rfl))
            · exact .inl (.inr (.inr (.inl rfl)))
            · exact .inr this
        · intro x c kx y1 y2 w5 cnt5 hkx hlx hv hat hrg5 hlt5 hg5 hs5 hen
          obtain ⟨x', ex, rfl, hwx⟩ := Maps.keyOf_int_inv Tryz.underlying3 hkx
          cases ex
          obtain ⟨c', hc256, ec, ey⟩ := secR_inv hv
          obtain rfl := secV_inv_eq ec
          simp only [Prod.mk.injEq] at ey
          obtain ⟨rfl, rfl⟩ := ey
          obtain ⟨i, hi, e1⟩ := hmi.keys _ (has_of_at hat)
          have e1' : (Lit.int .i64 x) = .int .i64 (i : Int) := e1
          injection e1' with _ e2
          subst e2
          have hsome := has_of_at hat
          rw [show (Lit.int .i64 (i : Int)) = kl i from rfl, hmi.has_ i hi] at hsome
          obtain ⟨b, hob⟩ := Option.isSome_iff_exists.1 hsome
          have hbc : b = c := lit_inj ((hmi.val i b hi hob (.lit (.bool true))).symm.trans (hat _))
          rw [hbc] at hob
          clear hsome hbc e1 hv hkx ec
          have hgr : A.g < W3.heap.size := hR3.sec.lt
          have ho5 : Off (fun x => x = W3.heap.size) wr w5 := (Off.refl _ _).grown hg5 (fun j hj => .inl (by cases hj; rfl))
          have hsec5 := hsec.off ho5 (by omega)
          have hoq5 : Off (fun x => x = A.g) W3 w5 := hoq.step ho5 (fun x hx he => by omega)
          obtain ⟨a1, a2, a3, a4, a5, a6⟩ := hR3.apart
          have hsz5 := hoq5.size
          clear hsec ho5 hg5 hs5
          have hcc : c.size = 256 := hc256
          go_upto_region 10 with (first
            | (refine wpList_store_mid rfl 135 (.tmp 8) (.tmp 47) rfl w5.heap.size 0 (strCells c).toArray rfl rfl (by rw [size_strCells hcc]; exact there_new w5) (by rw [size135, size_strCells hcc]) (all_strCells c) ?_))
          have hbel6 : Below w5.heap.size w5 ((w5.alloc (.cells Tryz.zeroCells135 135)).setCells w5.heap.size 0 (strCells c)) := below_setCells (Nat.le_refl _) _ _ _ ((Below.refl _ _).alloc (Nat.le_refl _) _)
          have hth8 := (there_of_new (W := w5) hcc).1
          have ho56 : Off (fun _ => False) w5 ((w5.alloc (.cells Tryz.zeroCells135 135)).setCells w5.heap.size 0 (strCells c)) := Off.of_below hbel6
          have hg8 : A.g ≠ w5.heap.size := by have := hsec5.lt; omega
          have hq8 : A.q < w5.heap.size := by have := (hR3.lt A.q (.inr (.inl rfl))).2; omega
          obtain ⟨B8, hB8⟩ : ∃ B, w5.heap.size = B := ⟨_, rfl⟩
          rw [hB8] at hth8 ho56 hg8 hq8 hbel6 ⊢
          clear hB8
          obtain ⟨W6, hW6⟩ : ∃ W6, (w5.alloc (.cells Tryz.zeroCells135 135)).setCells B8 0 (strCells c) = W6 := ⟨_, rfl⟩
          rw [hW6] at hth8 ho56 hbel6 ⊢
          clear hW6 hbel6
          have hrg6 := ranges_off hrg5 ho56 (fun h => h) (fun h => h)
          have hsec6 := hsec5.off ho56 (fun h => h)
          have hoq6 : Off (fun x => x = A.g) W3 W6 := hoq5.trans (ho56.mono (fun x _ hx => hx.elim))
          have c0 : W6.cell? ⟨A.q, 0, none⟩ = some (.slice (some ⟨A.g, 0, none⟩) s.n s.n) := (hR3.blkQ.off hoq6 (Ne.symm a2)).cell 0
          have hth : W6.there A.g (i * 256) 256 := hsec6.there hi
          have hu7 := Tryz.underlying135
          have hlc : (strCells c).length = 256 := by rw [strCells_length, hcc]
          have hi7 : (Tryz.prog.info? 135).map (·.size) = some (strCells c).length := by rw [size135, hlc]
          have hone := strCells_oneCell c
          have hsecN := (hsec6.off ((Off.refl (fun _ => False) W6).drew) (fun h => h)).set (i := i) hi hcc
          have hrgN := ranges_off hrg6 ((Off.refl (fun x => x = A.g) W6).drew.trans (Off.setCells (F := fun x => x = A.g) (B := A.g) (.inl rfl) (strCells c) (i * 256) _ (Off.refl _ _))) a6 (by omega)
          have hoN : Off (fun x => x = A.g) W3 (W6.drew.setCells A.g (i * 256) (strCells c)) := Off.setCells (F := fun x => x = A.g) (B := A.g) (.inl rfl) (strCells c) (i * 256) _ hoq6.drew
          have d0 : (W6.drew.setCells A.g (i * 256) (strCells c)).cell? ⟨A.q, 0, none⟩ = some (.slice (some ⟨A.g, 0, none⟩) s.n s.n) := (hR3.blkQ.off hoN (Ne.symm a2)).cell 0
          have hr8 : (W6.drew.setCells A.g (i * 256) (strCells c)).rangeAt B8 0 (strCells c) := World.rangeAt_setCells_apart (w := W6.drew) (fun j v hv => (World.cell?_drew W6 _).trans (hth8 j v hv)) _ _ _ (.inl (Ne.symm hg8))
          clear hrg5 hsec5 hoq5 ho56 hrg6 hoq6 hen hat hwx hsz5
          go_region_held3 (fun W' => W'.cell? ⟨A.q, 0, none⟩ = some (.slice (some ⟨A.g, 0, none⟩) s.n s.n) ∧ W'.rangeAt B8 0 (strCells c) ∧ W'.there A.g (i * 256) (strCells c).length)
            (first
              | exact ⟨d0, hr8, by rw [hlc]; exact hsecN.there hi⟩
              | exact ⟨c0, hth8, by rw [hlc]; exact hth⟩
              | go_keep)
            (fail)
          all_goals
            go_wp2
            go_roundw
            case rel =>
              refine ⟨_, _, hrgN, hsecN.congr (fun t ht => ?_), hoN⟩
              have hk := same_kl (i := t) (j := i)
              show (if (left (kl t) && !(kl t).sameKey (kl i)) = true then s.now t else (old1 t).getD (s.now t)) = upd (fun t => if left (kl t) = true then s.now t else (old1 t).getD (s.now t)) i c t
              unfold upd
              by_cases hti : t = i
              · subst hti
                simp [hk, hob]
              · simp [hk, hti]
            case measure => rw [hrgN.left_eq, hrg.left_eq]; exact hlt5
end Go.Proofs.YtdgbgmffpcooeaaGreat
end
section
/- The tree on its disk: its root, and its nodes, as they are read. -/
namespace Go.Proofs.YtdgbgmffpcooeaaGreat
open Go.RowKit Go.Lib

/-- One step more. -/
def PS.adv (s : PS) : PS := { s with steps := wrap64 (s.steps + 1) }
theorem PS.live {s : PS} (h : s.brk = false) : s.asked = s := by
  unfold PS.asked
  have : s.broken = false := by unfold PS.brk at h; cases hb : s.broken with
    | false => rfl
    | true => rw [hb] at h; simp at h
  rw [h, ← this]
theorem PS.read_live {s : PS} (h : s.brk = false) {i : Nat} (hi : i < s.n) : s.read (i : Int) = (s.now i, 0, s.adv) := by
  unfold PS.read
  rw [if_neg (by omega), h, PS.live h]; rfl
theorem PS.read_dead {s : PS} (h : s.brk = true) {i : Nat} (hi : i < s.n) : s.read (i : Int) = (ByteArray.empty, 4, s.asked) := by
  unfold PS.read
  rw [if_neg (by omega), h]; rfl
/-- The nodes that stand on the disk. -/
noncomputable def nodesOf (s : PS) (t : Nat) : Option (Node Box) := nodeOf (s.now t).data.toList
def TreeB (W : World) (t : Nat) (A : PA) (f : Value) : Prop := Blk W t 169 #[.pointer (some ⟨A.q, 0, none⟩), f]
set_option maxRecDepth 100000 in
set_option maxHeartbeats 2000000 in
theorem root_dead (w : World) (base : Nat) (A : PA) (s : PS) (h : PD w base A s) (t : Nat) (f : Value) (ht : TreeB w t A f) (hs : s.brk = true) :
    Calls Tryz.prog 100 #[.pointer (some ⟨t, 0, none⟩)] w fun e w' => e = .returned (.tuple #[.int .i64 0, .int .i64 4]) ∧ PD w' base A s.asked ∧ Off A.F w w' := by
  have c0 : w.cell? ⟨t, 0, none⟩ = some (.pointer (some ⟨A.q, 0, none⟩)) := ht.cell 0
  have hcon := pread_any w base A s h 0
  have e := PS.read_dead hs (i := 0) (by have := h.n1; omega)
  rw [show ((0 : Nat) : Int) = 0 from rfl] at e
  rw [e] at hcon
  clear e ht
  go_enter Tryz.func100, Tryz.ntmps100
  go_wp2_with (go_at_call 128; refine hcon.mono ?_; rintro e w1 ⟨rfl, hP, ho⟩)
  go_ret2
  exact ⟨rfl, hP, ho⟩
set_option maxRecDepth 100000 in
set_option maxHeartbeats 2000000 in
theorem root_live (w : World) (base : Nat) (A : PA) (s : PS) (h : PD w base A s) (t : Nat) (f : Value) (ht : TreeB w t A f) (hs : s.brk = false) :
    Calls Tryz.prog 100 #[.pointer (some ⟨t, 0, none⟩)] w fun e w' => e = .returned (match headOf (s.now 0).data.toList with | some r => .tuple #[.int .i64 (r : Int), .int .i64 0] | none => .tuple #[.int .i64 0, .int .i64 7]) ∧ PD w' base A s.adv ∧ Off A.F w w' := by
  have c0 : w.cell? ⟨t, 0, none⟩ = some (.pointer (some ⟨A.q, 0, none⟩)) := ht.cell 0
  have hcon := pread_any w base A s h 0
  have e := PS.read_live hs (i := 0) (by have := h.n1; omega)
  rw [show ((0 : Nat) : Int) = 0 from rfl] at e
  rw [e] at hcon
  have hsz := h.sec.size 0 (by have := h.n1; omega)
  have hrh := fun W => readHead_any W (s.now 0) hsz
  have hh : headOf (s.now 0).data.toList = if (headOf (s.now 0).data.toList).isSome then some (rootOf (s.now 0).data.toList) else none := by
    unfold headOf; split <;> simp
  have HH : Hid _ := hh
  have HF : Hid (∀ k, A.F k → k < w.heap.size) := fun k hk => (h.lt k hk).2
  clear e ht hh h
  generalize rootOf (s.now 0).data.toList = r at hrh HH
  cases hf : (headOf (s.now 0).data.toList).isSome with
  | true =>
    rw [hf] at hrh HH
    have e2 : headOf (s.now 0).data.toList = some r := HH.out
    rw [e2]
    clear HH hf e2
    go_enter Tryz.func100, Tryz.ntmps100
    go_wp2_with (first
      | (go_at_call 128; refine hcon.mono ?_; rintro e w1 ⟨rfl, hP, ho⟩)
      | (go_at_call 129; refine (hrh _).mono ?_; rintro e w2 ⟨rfl, hb⟩))
    go_ret2
    exact ⟨rfl, hP.below hb, ho.trans (Off.of_below hb)⟩
  | false =>
    rw [hf] at hrh HH
    have e2 : headOf (s.now 0).data.toList = none := HH.out
    rw [e2]
    clear HH hf e2
    go_enter Tryz.func100, Tryz.ntmps100
    go_wp2_with (first
      | (go_at_call 128; refine hcon.mono ?_; rintro e w1 ⟨rfl, hP, ho⟩)
      | (go_at_call 129; refine (hrh _).mono ?_; rintro e w2 ⟨rfl, hb⟩))
    go_ret2
    exact ⟨rfl, hP.below hb, ho.trans (Off.of_below hb)⟩
/-- What a read of a node answers. -/
def ReadT (W : World) (base : Nat) (s : PS) (sec : Nat) (e : Ending) : Prop :=
  (∃ v nd, nodesOf s sec = some nd ∧ e = .returned (.tuple #[v, .int .i64 0]) ∧ NodeV W v nd ∧ Fresh base v) ∨ (nodesOf s sec = none ∧ e = .returned (.tuple #[.nilIface, .int .i64 7]))
set_option maxRecDepth 100000 in
set_option maxHeartbeats 2000000 in
theorem tread_live (w : World) (base : Nat) (A : PA) (s : PS) (h : PD w base A s) (t : Nat) (f : Value) (ht : TreeB w t A f) (hs : s.brk = false) (sec : Nat) (hsec : sec < s.n) :
    Calls Tryz.prog 130 #[.pointer (some ⟨t, 0, none⟩), .int .i64 (sec : Int)] w fun e w' => ReadT w' w.heap.size s sec e ∧ PD w' base A s.adv ∧ Off A.F w w' := by
  have c0 : w.cell? ⟨t, 0, none⟩ = some (.pointer (some ⟨A.q, 0, none⟩)) := ht.cell 0
  have hcon := pread_any w base A s h (sec : Int)
  rw [PS.read_live hs hsec] at hcon
  have hsz := h.sec.size sec hsec
  have hrn := fun W => readNode_any W (s.now sec) hsz
  cases hn : nodesOf s sec with
  | some nd =>
    have hrn2 : ∀ W, Calls Tryz.prog 167 #[.string (s.now sec)] W fun e w' => ∃ v, e = .returned (.tuple #[v, .bool true]) ∧ NodeV w' v nd ∧ Fresh W.heap.size v ∧ Below W.heap.size W w' := fun W => (hrn W).mono fun e w' ⟨h1, h2⟩ => by
      rcases h1 with ⟨v, nd', g1, g2, g3, g4⟩ | ⟨g1, _⟩
      · have : nd' = nd := Option.some.inj (g1.symm.trans hn)
        subst this; exact ⟨v, g2, g3, g4, h2⟩
      · have : (none : Option (Node Box)) = some nd := g1.symm.trans hn
        cases this
    have HN : Hid (nodesOf s sec = some nd) := hn
    clear hrn hn h ht hs hsec hsz
    go_enter Tryz.func130, Tryz.ntmps130
    go_wp2_with (first
      | (go_at_call 128; refine hcon.mono ?_; rintro e w1 ⟨rfl, hP, ho⟩)
      | (go_at_call 167; refine (hrn2 _).mono ?_; rintro e w2 ⟨v, rfl, hv, hfr, hb⟩))
    go_ret2
    exact ⟨.inl ⟨v, nd, HN.out, rfl, hv, hfr.mono ho.size⟩, hP.below hb, ho.trans (Off.of_below hb)⟩
  | none =>
    have hrn2 : ∀ W, Calls Tryz.prog 167 #[.string (s.now sec)] W fun e w' => ∃ v, e = .returned (.tuple #[v, .bool false]) ∧ Below W.heap.size W w' := fun W => (hrn W).mono fun e w' ⟨h1, h2⟩ => by
      rcases h1 with ⟨v, nd', g1, g2, g3⟩ | ⟨_, v, g2⟩
      · have : (none : Option (Node Box)) = some nd' := hn.symm.trans g1
        cases this
      · exact ⟨v, g2, h2⟩
    have HN : Hid (nodesOf s sec = none) := hn
    clear hrn hn h ht hs hsec hsz
    go_enter Tryz.func130, Tryz.ntmps130
    go_wp2_with (first
      | (go_at_call 128; refine hcon.mono ?_; rintro e w1 ⟨rfl, hP, ho⟩)
      | (go_at_call 167; refine (hrn2 _).mono ?_; rintro e w2 ⟨v, rfl, hb⟩))
    go_ret2
    exact ⟨.inr ⟨HN.out, rfl⟩, hP.below hb, ho.trans (Off.of_below hb)⟩
end Go.Proofs.YtdgbgmffpcooeaaGreat
end
section
/- A change in memory: where it lies, what a step leaves of the rest. -/
namespace Go.Proofs.YtdgbgmffpcooeaaGreat
open Go.RowKit Go.Lib Go.Maps

theorem wrap64_add (x : Int) (k : Nat) : wrap64 (wrap64 (x + (k : Int)) + 1) = wrap64 (x + ((k + 1 : Nat) : Int)) := by unfold wrap64; omega
/-- The disk behind so many reads more. -/
def PS.at_ (s : PS) (k : Nat) : PS := { s with steps := wrap64 (s.steps + (k : Int)) }
theorem PS.at_adv (s : PS) (k : Nat) : (s.at_ k).adv = s.at_ (k + 1) := by unfold PS.at_ PS.adv; simp only [wrap64_add]
theorem PS.at_brk (s : PS) (k : Nat) : (s.at_ k).brk = s.brk := rfl
/-- How a node in a map is read: as it stands. -/
def nodR (v : Value) : Option (DataW Value × List MemPlace) := some (.held v, [])
/-- What the map of new nodes holds. -/
structure MadeIs (W : World) (D : DataW Value) (made : Nat → Option (Node Box)) : Prop where
  has_ : ∀ i, i < 4096 → Maps.has D (kl i) = (made i).isSome
  val : ∀ i nd, made i = some nd → ∃ v, NodeV W v nd ∧ ∀ z, D.atKey (kl i) z = .held v
  keys : ∀ k, Maps.has D k = true → ∃ i, i < 4096 ∧ k = kl i
  low : ∀ i nd, made i = some nd → i < 4096
theorem MadeIs.off {F : Nat → Prop} {W W' : World} {D : DataW Value} {made : Nat → Option (Node Box)} (h : MadeIs W D made) (ho : Off F W W') (hF : ∀ b, F b → ¬ RowTag W b) : MadeIs W' D made :=
  ⟨h.has_, fun i nd hi => by obtain ⟨v, h1, h2⟩ := h.val i nd hi; exact ⟨v, h1.off ho hF, h2⟩, h.keys, h.low⟩
abbrev secsV (l : List Nat) : List Value := l.map fun i : Nat => .int .i64 (i : Int)
/-- A change in its blocks. -/
structure ChS (W : World) (cb c t mb root : Nat) (s : CS Box) (fv lv : Value) : Prop where
  blk : Blk W c 185 #[.pointer (some ⟨t, 0, none⟩), .int .i64 (root : Int), .map (some mb), fv, lv]
  le : cb ≤ c ∧ cb ≤ mb
  free : W.ownsRow cb 3 1 fv s.free.length (secsV s.free)
  left : W.ownsRow cb 3 1 lv s.left.length (secsV s.left)
  ne : ∀ g, fv.ownBlock = some g → lv.ownBlock ≠ some g
  made : ∃ k D, W.ownsMap Tryz.prog 3 nodR mb k D ∧ k ≤ 4096 ∧ MadeIs W D s.made
  few : s.free.length + s.left.length ≤ 100000
def IntTag (W : World) (k : Nat) : Prop := ∃ cs f, W.heap[k]? = some (.cells cs 3 f)
/-- What a change may write: the disk, its own blocks, its rows of numbers. -/
def ChF (W : World) (A : PA) (cb c mb : Nat) (k : Nat) : Prop := A.F k ∨ k = c ∨ k = mb ∨ (cb ≤ k ∧ IntTag W k)
theorem ChF.trans {A : PA} {cb c mb : Nat} {a b d : World} (h : Off (ChF a A cb c mb) a b) (k : Off (ChF b A cb c mb) b d) : Off (ChF a A cb c mb) a d := h.step k fun i hi hg => by
  rcases hg with hg | hg | hg | ⟨h1, cs, f, h2⟩
  · exact .inl hg
  · exact .inr (.inl hg)
  · exact .inr (.inr (.inl hg))
  · refine Classical.byContradiction fun hn => hn (.inr (.inr (.inr ⟨h1, cs, f, ?_⟩)))
    rw [← h2]; exact (h.block i hi hn).symm
theorem ChF.disk {A : PA} {cb c mb : Nat} {a b : World} (h : Off A.F a b) : Off (ChF a A cb c mb) a b := h.mono fun _ _ hk => .inl hk
theorem nmap_off {F : Nat → Prop} {W W' : World} {m k : Nat} {D : DataW Value} (h : W.ownsMap Tryz.prog 3 nodR m k D) (ho : Off F W W') (hm : ¬ F m) : W'.ownsMap Tryz.prog 3 nodR m k D := by
  obtain ⟨es, c, h1, h2⟩ := h
  exact ⟨es, c, (ho.block m (Array.getElem?_eq_some_iff.1 h1).1 hm).trans h1, h2⟩
theorem PD.norow {W : World} {base : Nat} {A : PA} {s : PS} (h : PD W base A s) : ∀ k, A.F k → ¬ RowTag W k := fun k hk hr => by
  obtain ⟨c, D, ⟨es, cc, h1, _⟩, _⟩ := h.map
  obtain ⟨cur, h2, _⟩ := h.sec.blk
  have hp : W.heap[A.p]? = _ := h.blkP
  have hq : W.heap[A.q]? = _ := h.blkQ
  have fin : ∀ tg, (∃ cs, W.heap[k]? = some (.cells cs tg (0, 0))) → tg ≠ 109 → tg ≠ 133 → tg ≠ 135 → False := fun tg ⟨cs, hc⟩ n1 n2 n3 => by
    rcases hk with rfl | rfl | rfl | rfl
    · rw [hp] at hc; simp only [Option.some.injEq, Obj.cells.injEq] at hc; exact n1 hc.2.1.symm
    · rw [hq] at hc; simp only [Option.some.injEq, Obj.cells.injEq] at hc; exact n2 hc.2.1.symm
    · rw [h2] at hc; simp only [Option.some.injEq, Obj.cells.injEq] at hc; exact n3 hc.2.1.symm
    · rw [h1] at hc; cases hc
  rcases hr with hr | hr
  · exact fin 156 hr (by decide) (by decide) (by decide)
  · exact fin 234 hr (by decide) (by decide) (by decide)
/-- A change, its tree and its disk, together. -/
structure Cg (W : World) (base : Nat) (A : PA) (s0 : PS) (t : Nat) (f : Value) (cb c mb root : Nat) (s : CS Box) (fv lv : Value) : Prop where
  pd : PD W base A (s0.at_ s.reads)
  tr : TreeB W t A f
  ch : ChS W cb c t mb root s fv lv
  tl : t < cb
  al : ∀ k, A.F k → k < cb
  cl : c < W.heap.size ∧ mb < W.heap.size ∧ cb ≤ W.heap.size
theorem Cg.norow {W : World} {base : Nat} {A : PA} {s0 : PS} {t : Nat} {f : Value} {cb c mb root : Nat} {s : CS Box} {fv lv : Value} (h : Cg W base A s0 t f cb c mb root s fv lv) : ∀ k, ChF W A cb c mb k → ¬ RowTag W k := fun k hk hr => by
  rcases hk with hk | rfl | rfl | ⟨_, cs, ff, hk⟩
  · exact h.pd.norow k hk hr
  · have hb : W.heap[k]? = _ := h.ch.blk
    rcases hr with ⟨c2, hr⟩ | ⟨c2, hr⟩ <;> rw [hb] at hr <;> simp at hr
  · obtain ⟨kk, D, ⟨es, c2, hb, _⟩, _⟩ := h.ch.made
    rcases hr with ⟨c2, hr⟩ | ⟨c2, hr⟩ <;> rw [hb] at hr <;> cases hr
  · rcases hr with ⟨c2, hr⟩ | ⟨c2, hr⟩ <;> rw [hk] at hr <;> simp at hr
/-- What is read alone, or laid anew, leaves a change as it was; reads count. -/
theorem ChS.off {F : Nat → Prop} {W W' : World} {cb c t mb root : Nat} {s : CS Box} {fv lv : Value} (h : ChS W cb c t mb root s fv lv) (ho : Off F W W') (hF : ∀ k, F k → k < cb) (hr : ∀ b, F b → ¬ RowTag W b) : ChS W' cb c t mb root s fv lv := by
  obtain ⟨k, D, h1, h2, h3⟩ := h.made
  have hle := h.le
  refine ⟨h.blk.off ho (fun hf => by have := hF _ hf; omega), h.le, own_offv h.free ho (fun g hg hf => ?_), own_offv h.left ho (fun g hg hf => ?_), h.ne, ⟨k, D, nmap_off h1 ho (fun hf => by have := hF _ hf; omega), h2, h3.off ho hr⟩, h.few⟩
  · have := hF _ hf; have := (own_tagged h.free hg).1; omega
  · have := hF _ hf; have := (own_tagged h.left hg).1; omega
theorem Cg.below {W W' : World} {base : Nat} {A : PA} {s0 : PS} {t : Nat} {f : Value} {cb c mb root : Nat} {s : CS Box} {fv lv : Value} (h : Cg W base A s0 t f cb c mb root s fv lv) (hb : Below W.heap.size W W') : Cg W' base A s0 t f cb c mb root s fv lv :=
  ⟨h.pd.below hb, h.tr.below hb h.tr.lt, h.ch.off (F := fun _ => False) (Off.of_below hb) (fun _ h => h.elim) (fun _ h => h.elim), h.tl, h.al, by have := h.cl; have := hb.size; exact ⟨by omega, by omega, by omega⟩⟩
end Go.Proofs.YtdgbgmffpcooeaaGreat
end
section
/- A change in memory: what its own steps do to its blocks. -/
namespace Go.Proofs.YtdgbgmffpcooeaaGreat
open Go.RowKit Go.Lib Go.Maps
section
variable {W W' : World} {base : Nat} {A : PA} {s0 : PS} {t : Nat} {f : Value} {cb c mb root : Nat} {s : CS Box} {fv lv : Value}
theorem Cg.step (h : Cg W base A s0 t f cb c mb root s fv lv) {F : Nat → Prop} (ho : Off F W W') (hF : ∀ k, F k → cb ≤ k) {root' : Nat} {s' : CS Box} {fv' lv' : Value} (hc : ChS W' cb c t mb root' s' fv' lv') (hr : s'.reads = s.reads) : Cg W' base A s0 t f cb c mb root' s' fv' lv' := by
  have hcl := h.cl
  have hs := ho.size
  refine ⟨?_, h.tr.off ho (fun hf => by have := hF _ hf; have := h.tl; omega), hc, h.tl, h.al, ⟨by omega, by omega, by omega⟩⟩
  rw [hr]
  exact h.pd.off ho (fun k hk hf => by have := hF _ hf; have := h.al k hk; omega)
theorem ChS.cne (h : ChS W cb c t mb root s fv lv) : mb ≠ c := fun e => by
  obtain ⟨k, D, ⟨es, cc, h1, _⟩, _⟩ := h.made
  have hb : W.heap[c]? = _ := h.blk
  rw [e, hb] at h1; cases h1
theorem notrow {W : World} {b tg : Nat} {cs : Array Value} {ff : Nat × Nat} (h : W.heap[b]? = some (.cells cs tg ff)) (h1 : tg ≠ 156) (h2 : tg ≠ 234) : ¬ RowTag W b := fun hr => by
  rcases hr with ⟨c2, hr⟩ | ⟨c2, hr⟩ <;> rw [h] at hr <;> simp only [Option.some.injEq, Obj.cells.injEq] at hr
  · exact h1 hr.2.1
  · exact h2 hr.2.1
/-- A cell of the change's own block is written. -/
theorem Cg.cell (h : Cg W base A s0 t f cb c mb root s fv lv) (i : Nat) (u : Value) {root' : Nat} {fv' lv' : Value} (hcs : (#[.pointer (some ⟨t, 0, none⟩), .int .i64 (root : Int), .map (some mb), fv, lv] : Array Value).setIfInBounds i u = #[.pointer (some ⟨t, 0, none⟩), .int .i64 (root' : Int), .map (some mb), fv', lv']) {s' : CS Box} (hm : s'.made = s.made) (hr : s'.reads = s.reads) (hfree : W.ownsRow cb 3 1 fv' s'.free.length (secsV s'.free)) (hleft : W.ownsRow cb 3 1 lv' s'.left.length (secsV s'.left)) (hne : ∀ g, fv'.ownBlock = some g → lv'.ownBlock ≠ some g) (hfew : s'.free.length + s'.left.length ≤ 100000) :
    Cg (W.setCell ⟨c, i, none⟩ u) base A s0 t f cb c mb root' s' fv' lv' ∧ Off (ChF W A cb c mb) W (W.setCell ⟨c, i, none⟩ u) := by
  obtain ⟨k, D, m1, m2, m3⟩ := h.ch.made
  have hb := h.ch.blk.set i u
  rw [hcs] at hb
  have ho : Off (fun k => k = c) W (W.setCell ⟨c, i, none⟩ u) := Off.one W u
  refine ⟨h.step ho (fun k hk => by rw [hk]; exact h.ch.le.1) ⟨hb, h.ch.le, own_other hfree h.ch.blk (by decide) u, own_other hleft h.ch.blk (by decide) u, hne, ⟨k, D, nmap_off m1 ho h.ch.cne, m2, by rw [hm]; exact m3.off ho (fun b hb => by rw [hb]; exact notrow h.ch.blk (by decide) (by decide))⟩, hfew⟩ hr, ho.mono (fun k _ hk => .inr (.inl hk))⟩
/-- A row of numbers has grown: the rest stands. -/
theorem Cg.grown (h : Cg W base A s0 t f cb c mb root s fv lv) {ob : Obj} {row : Option Nat} {w4 : World} (hg : (W.alloc ob).grownBy w4 row) (hrow : ∀ j, row = some j → cb ≤ j ∧ IntTag W j) :
    Off (ChF W A cb c mb) W w4 ∧ Off (fun k => row = some k) W w4 ∧ Blk w4 c 185 #[.pointer (some ⟨t, 0, none⟩), .int .i64 (root : Int), .map (some mb), fv, lv] ∧ PD w4 base A (s0.at_ s.reads) ∧ TreeB w4 t A f ∧ (∃ k D, w4.ownsMap Tryz.prog 3 nodR mb k D ∧ k ≤ 4096 ∧ MadeIs w4 D s.made) ∧ (∀ v n xs, W.ownsRow cb 3 1 v n xs → (∀ g, v.ownBlock = some g → row ≠ some g) → w4.ownsRow cb 3 1 v n xs) := by
  have ho : Off (fun k => row = some k) W w4 := ((Off.refl _ W).alloc ob).grown hg (fun j hj => .inl hj)
  obtain ⟨k, D, m1, m2, m3⟩ := h.ch.made
  refine ⟨ho.mono (fun k _ hk => .inr (.inr (.inr (hrow k hk)))), ho, h.ch.blk.off ho (fun hf => ?_), h.pd.off ho (fun k hk hf => ?_), h.tr.off ho (fun hf => ?_), ⟨k, D, nmap_off m1 ho (fun hf => ?_), m2, m3.off ho (fun b hb => ?_)⟩, fun v n xs hv hne => own_offv hv ho hne⟩
  · obtain ⟨_, cs, ff, h2⟩ := hrow _ hf
    have hb : W.heap[c]? = _ := h.ch.blk
    rw [hb] at h2; simp at h2
  · have := (hrow _ hf).1; have := h.al k hk; omega
  · have := (hrow _ hf).1; have := h.tl; omega
  · obtain ⟨_, cs, ff, h2⟩ := hrow _ hf
    obtain ⟨es, cc, h3, _⟩ := m1
    rw [h3] at h2; cases h2
  · obtain ⟨_, cs, ff, h2⟩ := hrow _ hb
    exact notrow h2 (by decide) (by decide)
theorem Cg.freeRow (h : Cg W base A s0 t f cb c mb root s fv lv) : ∀ j, fv.ownBlock = some j → cb ≤ j ∧ IntTag W j := fun j hj => by
  obtain ⟨h1, cs, h2⟩ := own_tagged h.ch.free hj
  exact ⟨h1, cs, _, h2⟩
theorem Cg.leftRow (h : Cg W base A s0 t f cb c mb root s fv lv) : ∀ j, lv.ownBlock = some j → cb ≤ j ∧ IntTag W j := fun j hj => by
  obtain ⟨h1, cs, h2⟩ := own_tagged h.ch.left hj
  exact ⟨h1, cs, _, h2⟩
/-- A sector joins those that are free. -/
theorem Cg.freeApp (h : Cg W base A s0 t f cb c mb root s fv lv) {ob : Obj} {w4 : World} {gg capp sec : Nat} (hg : (W.alloc ob).grownBy w4 fv.ownBlock) (hat : fv.ownBlock = some gg ∨ gg = W.heap.size + 1) (hown : w4.ownsRow cb 3 1 (.slice (some ⟨gg, 0, none⟩) (s.free.length + 1) capp) (s.free.length + 1) (secsV s.free ++ [.int .i64 (sec : Int)])) (hfew : s.free.length + s.left.length + 1 ≤ 100000) :
    w4.cell? ⟨c, 3, none⟩ = some fv ∧ w4.frozen? ⟨c, 3, none⟩ = false ∧ Cg (w4.setCell ⟨c, 3, none⟩ (.slice (some ⟨gg, 0, none⟩) (s.free.length + 1) capp)) base A s0 t f cb c mb root { s with free := s.free ++ [sec] } (.slice (some ⟨gg, 0, none⟩) (s.free.length + 1) capp) lv ∧ Off (ChF W A cb c mb) W (w4.setCell ⟨c, 3, none⟩ (.slice (some ⟨gg, 0, none⟩) (s.free.length + 1) capp)) := by
  obtain ⟨o1, o2, hb, hp, ht, hm, hrows⟩ := h.grown hg h.freeRow
  have hcl := h.cl
  have hsz := o1.size
  have hleft := hrows lv _ _ h.ch.left (fun g hg hf => h.ch.ne g hf hg)
  have hne : ∀ g, (Value.slice (some ⟨gg, 0, none⟩) (s.free.length + 1) capp).ownBlock = some g → lv.ownBlock ≠ some g := fun g hg hl => by
    simp only [Value.ownBlock, Option.some.injEq] at hg
    subst hg
    rcases hat with e | e
    · exact h.ch.ne gg e hl
    · obtain ⟨_, cs, h2⟩ := own_tagged h.ch.left hl
      have := (Array.getElem?_eq_some_iff.1 h2).1
      omega
  have hfree : w4.ownsRow cb 3 1 (.slice (some ⟨gg, 0, none⟩) (s.free.length + 1) capp) (s.free ++ [sec]).length (secsV (s.free ++ [sec])) := by
    rw [List.length_append]
    show w4.ownsRow cb 3 1 _ _ (secsV (s.free ++ [sec]))
    rw [secsV, List.map_append]
    exact hown
  refine ⟨hb.cell 3, hb.frozen 3, ?_⟩
  -- the change with its grown row, ahead of the store
  have ob2 := own_other hfree hb (by decide) (i := 3) (.slice (some ⟨gg, 0, none⟩) (s.free.length + 1) capp)
  have ol2 := own_other hleft hb (by decide) (i := 3) (.slice (some ⟨gg, 0, none⟩) (s.free.length + 1) capp)
  obtain ⟨k, D, m1, m2, m3⟩ := hm
  have hnr : ¬ RowTag w4 c := notrow hb (by decide) (by decide)
  have ho : Off (fun k => k = c) w4 (w4.setCell ⟨c, 3, none⟩ (.slice (some ⟨gg, 0, none⟩) (s.free.length + 1) capp)) := Off.one w4 _
  refine ⟨⟨hp.off ho (fun k hk hf => by have := h.al k hk; have := h.ch.le; omega), ht.off ho (by have := h.tl; have := h.ch.le; omega), ⟨hb.set 3 _, h.ch.le, ob2, ol2, hne, ⟨k, D, nmap_off m1 ho h.ch.cne, m2, m3.off ho (fun b hb' => by rw [hb']; exact hnr)⟩, by simp only [List.length_append, List.length_singleton]; omega⟩, h.tl, h.al, ⟨?_, ?_, ?_⟩⟩, o1.step ho (fun i _ hi => .inr (.inl hi))⟩
  all_goals (have := ho.size; omega)
/-- A sector joins those that are left. -/
theorem Cg.leftApp (h : Cg W base A s0 t f cb c mb root s fv lv) {ob : Obj} {w4 : World} {gg capp sec : Nat} (hg : (W.alloc ob).grownBy w4 lv.ownBlock) (hat : lv.ownBlock = some gg ∨ gg = W.heap.size + 1) (hown : w4.ownsRow cb 3 1 (.slice (some ⟨gg, 0, none⟩) (s.left.length + 1) capp) (s.left.length + 1) (secsV s.left ++ [.int .i64 (sec : Int)])) (hfew : s.free.length + s.left.length + 1 ≤ 100000) :
    w4.cell? ⟨c, 4, none⟩ = some lv ∧ w4.frozen? ⟨c, 4, none⟩ = false ∧ Cg (w4.setCell ⟨c, 4, none⟩ (.slice (some ⟨gg, 0, none⟩) (s.left.length + 1) capp)) base A s0 t f cb c mb root { s with left := s.left ++ [sec] } fv (.slice (some ⟨gg, 0, none⟩) (s.left.length + 1) capp) ∧ Off (ChF W A cb c mb) W (w4.setCell ⟨c, 4, none⟩ (.slice (some ⟨gg, 0, none⟩) (s.left.length + 1) capp)) := by
  obtain ⟨o1, o2, hb, hp, ht, hm, hrows⟩ := h.grown hg h.leftRow
  have hcl := h.cl
  have hsz := o1.size
  have hfree := hrows fv _ _ h.ch.free (fun g hg hf => h.ch.ne g hg hf)
  have hne : ∀ g, fv.ownBlock = some g → (Value.slice (some ⟨gg, 0, none⟩) (s.left.length + 1) capp).ownBlock ≠ some g := fun g hl hg => by
    simp only [Value.ownBlock, Option.some.injEq] at hg
    subst hg
    rcases hat with e | e
    · exact h.ch.ne gg hl e
    · obtain ⟨_, cs, h2⟩ := own_tagged h.ch.free hl
      have := (Array.getElem?_eq_some_iff.1 h2).1
      omega
  have hleft : w4.ownsRow cb 3 1 (.slice (some ⟨gg, 0, none⟩) (s.left.length + 1) capp) (s.left ++ [sec]).length (secsV (s.left ++ [sec])) := by
    rw [List.length_append]
    show w4.ownsRow cb 3 1 _ _ (secsV (s.left ++ [sec]))
    rw [secsV, List.map_append]
    exact hown
  refine ⟨hb.cell 4, hb.frozen 4, ?_⟩
  -- the change with its grown row, ahead of the store
  have ob2 := own_other hfree hb (by decide) (i := 4) (.slice (some ⟨gg, 0, none⟩) (s.left.length + 1) capp)
  have ol2 := own_other hleft hb (by decide) (i := 4) (.slice (some ⟨gg, 0, none⟩) (s.left.length + 1) capp)
  obtain ⟨k, D, m1, m2, m3⟩ := hm
  have hnr : ¬ RowTag w4 c := notrow hb (by decide) (by decide)
  have ho : Off (fun k => k = c) w4 (w4.setCell ⟨c, 4, none⟩ (.slice (some ⟨gg, 0, none⟩) (s.left.length + 1) capp)) := Off.one w4 _
  refine ⟨⟨hp.off ho (fun k hk hf => by have := h.al k hk; have := h.ch.le; omega), ht.off ho (by have := h.tl; have := h.ch.le; omega), ⟨hb.set 4 _, h.ch.le, ob2, ol2, hne, ⟨k, D, nmap_off m1 ho h.ch.cne, m2, m3.off ho (fun b hb' => by rw [hb']; exact hnr)⟩, by simp only [List.length_append, List.length_singleton]; omega⟩, h.tl, h.al, ⟨?_, ?_, ?_⟩⟩, o1.step ho (fun i _ hi => .inr (.inl hi))⟩
  all_goals (have := ho.size; omega)
/-- The map has no more entries than there may be sectors. -/
theorem nmap_tight {W : World} {m k : Nat} {D : DataW Value} {made : Nat → Option (Node Box)} {W0 : World} (hown : W.ownsMap Tryz.prog 3 nodR m k D) (h : MadeIs W0 D made) : W.ownsMap Tryz.prog 3 nodR m 4096 D := by
  obtain ⟨es', e', hpw, hkl⟩ := hown.entries (int_keyed Tryz.underlying3)
  obtain ⟨es, c, h1, h2, h3, h4⟩ := hown
  refine ⟨es, c, h1, h2, ?_, h4⟩
  have hlen := length_read (P := Tryz.prog) (k := 3) (R0 := nodR) es
  rw [h4] at e'
  injection e' with e'
  have hes : es'.length ≤ 4096 := by
    have hk : ∀ p ∈ es', ∃ i, i < 4096 ∧ p.1 = kl i := fun p hp => by
      refine h.keys p.1 ?_
      rw [h4, e', has_eq, List.any_eq_true]
      obtain ⟨p1, p2⟩ := p
      refine ⟨(p1, p2), hp, ?_⟩
      have := hkl (p1, p2) hp
      cases p1 <;> simp_all [WideAt.IsKeyLit, Lit.sameKey]
    have hb := nodup_lt 4096 (es'.map fun p => litN p.1) ?_ ?_
    · simpa using hb
    · refine List.pairwise_map.2 (List.Pairwise.imp_of_mem ?_ hpw)
      intro a b ha hb hab e
      obtain ⟨i, _, hi⟩ := hk a ha
      obtain ⟨j, _, hj⟩ := hk b hb
      rw [hi, hj] at hab e
      have hij : i = j := by simpa [litN] using e
      rw [hij] at hab
      simp at hab
    · intro x hx
      obtain ⟨p, hp, rfl⟩ := List.mem_map.1 hx
      obtain ⟨i, hi, e⟩ := hk p hp
      rw [e]
      simpa [litN] using hi
  rw [← e'] at hes
  omega
theorem kl_ne' {i j : Nat} (h : i ≠ j) : kl i ≠ kl j := fun e => h (kl_inj e)
theorem MadeIs.del {W : World} {D : DataW Value} {made : Nat → Option (Node Box)} (h : MadeIs W D made) (sec : Nat) : MadeIs W (D.del (kl sec)) (upd2 made sec none) := by
  refine ⟨fun i hi => ?_, fun i nd hn => ?_, fun k hk => ?_, fun i nd hn => ?_⟩
  · by_cases e : i = sec
    · subst e; rw [has_del_same]; simp [upd2]
    · rw [has_del_other (kl_ne' e), h.has_ i hi]; simp [upd2, e]
  · by_cases e : i = sec
    · subst e; simp [upd2] at hn
    · simp only [upd2, e, if_false] at hn
      obtain ⟨v, h1, h2⟩ := h.val i nd hn
      exact ⟨v, h1, fun z => by rw [atKey_del_other (kl_ne' e)]; exact h2 z⟩
  · refine h.keys k ?_
    by_cases e : k = kl sec
    · subst e; rw [has_del_same] at hk; cases hk
    · rw [has_del_other e] at hk; exact hk
  · by_cases e : i = sec
    · subst e; simp [upd2] at hn
    · simp only [upd2, e, if_false] at hn; exact h.low i nd hn
theorem MadeIs.put {W : World} {D : DataW Value} {made : Nat → Option (Node Box)} (h : MadeIs W D made) (hD : IsMap D) {sec : Nat} (hs : sec < 4096) {v : Value} {nd : Node Box} (hv : NodeV W v nd) : MadeIs W (D.put (kl sec) (.held v)) (upd2 made sec (some nd)) := by
  have hkl : WideAt.IsKeyLit (kl sec) := trivial
  refine ⟨fun i hi => ?_, fun i n hn => ?_, fun k hk => ?_, fun i n hn => ?_⟩
  · by_cases e : i = sec
    · subst e; rw [has_put_same hD hkl]; simp [upd2]
    · rw [has_put_other (kl_ne' e), h.has_ i hi]; simp [upd2, e]
  · by_cases e : i = sec
    · subst e
      simp only [upd2, if_true, Option.some.injEq] at hn
      subst hn
      exact ⟨v, hv, fun z => atKey_put_same hD hkl _ z⟩
    · simp only [upd2, e, if_false] at hn
      obtain ⟨v', h1, h2⟩ := h.val i n hn
      exact ⟨v', h1, fun z => by rw [atKey_put_other (kl_ne' e)]; exact h2 z⟩
  · by_cases e : k = kl sec
    · exact ⟨sec, hs, e⟩
    · rw [has_put_other e] at hk; exact h.keys k hk
  · by_cases e : i = sec
    · subst e; exact hs
    · simp only [upd2, e, if_false] at hn; exact h.low i n hn
/-- The map has turned: the rest stands. -/
theorem Cg.turned (h : Cg W base A s0 t f cb c mb root s fv lv) {w4 : World} (hg : W.grownBy w4 (some mb)) {k : Nat} {D' : DataW Value} {made' : Nat → Option (Node Box)} (hm : w4.ownsMap Tryz.prog 3 nodR mb k D') (hk : k ≤ 4096) (hd : MadeIs W D' made') : Cg w4 base A s0 t f cb c mb root { s with made := made' } fv lv ∧ Off (ChF W A cb c mb) W w4 := by
  have ho : Off (fun k => k = mb) W w4 := (Off.refl _ W).grown hg (fun j hj => .inl (by cases hj; rfl))
  have hmap : ∃ es cc, W.heap[mb]? = some (.map es cc) := by obtain ⟨_, _, ⟨es, cc, h1, _⟩, _⟩ := h.ch.made; exact ⟨es, cc, h1⟩
  obtain ⟨es, cc, hmb⟩ := hmap
  have hcell : ∀ g tg cs ff, W.heap[g]? = some (.cells cs tg ff) → ¬ g = mb := fun g tg cs ff h1 e => by rw [e, hmb] at h1; cases h1
  refine ⟨h.step ho (fun k hk => by rw [hk]; exact h.ch.le.2) ⟨h.ch.blk.off ho (Ne.symm h.ch.cne), h.ch.le, own_offv h.ch.free ho (fun g hg => ?_), own_offv h.ch.left ho (fun g hg => ?_), h.ch.ne, ⟨k, D', hm, hk, hd.off ho (fun b hb => ?_)⟩, h.ch.few⟩ rfl, ho.mono (fun k _ hk => .inr (.inr (.inl hk)))⟩
  · obtain ⟨_, cs, h1⟩ := own_tagged h.ch.free hg; exact hcell g 3 cs _ h1
  · obtain ⟨_, cs, h1⟩ := own_tagged h.ch.left hg; exact hcell g 3 cs _ h1
  · rw [hb]
    rintro (⟨c2, hr⟩ | ⟨c2, hr⟩) <;> rw [hmb] at hr <;> cases hr
end
end Go.Proofs.YtdgbgmffpcooeaaGreat
end
section
/- What a change takes out of its state. -/
namespace Go.Proofs.YtdgbgmffpcooeaaGreat
open Go.RowKit Go.Lib Go.Maps
theorem info3 : (Tryz.prog.info? 3).map (fun i => (i.zero, i.size, i.bytes)) = some (some (.int .i64 0), 1, 8) := by kernel_rfl
theorem zero175 (w : World) : (zeroValue 175).run Tryz.prog w = .ok .nilIface w := by kernel_rfl
open Classical in
/-- The nodes of a disk, by sectors that it has. -/
noncomputable def nodesN (s : PS) (t : Nat) : Option (Node Box) := if t < s.n then nodesOf s t else none
theorem nodesN_some {s : PS} {t : Nat} {nd : Node Box} (h : nodesN s t = some nd) : t < s.n ∧ nodesOf s t = some nd := by
  unfold nodesN at h
  by_cases e : t < s.n
  · rw [if_pos e] at h; exact ⟨e, h⟩
  · rw [if_neg e] at h; cases h
set_option maxRecDepth 100000 in
set_option maxHeartbeats 4000000 in
theorem take_any (w : World) (base : Nat) (A : PA) (s0 : PS) (t : Nat) (f : Value) (cb c mb root : Nat) (s : CS Box) (fv lv : Value) (h : Cg w base A s0 t f cb c mb root s fv lv) (hs : s0.brk = false) (sec : Nat) (nd : Node Box) (s' : CS Box) (hr : takeF (nodesN s0) s sec = .ok (nd, s')) (hfew : s'.free.length + s'.left.length ≤ 100000) :
    Calls Tryz.prog 178 #[.pointer (some ⟨c, 0, none⟩), .int .i64 (sec : Int)] w fun e w' => ∃ v fv' lv', e = .returned (.tuple #[v, .int .i64 0]) ∧ NodeV w' v nd ∧ Cg w' base A s0 t f cb c mb root s' fv' lv' ∧ Off (ChF w A cb c mb) w w' := by
  obtain ⟨i3, hi3, hz3a, hz3b, hz3c⟩ := info_parts info3
  have hn2 := h.pd.n2
  have hn2' : s0.n ≤ 4096 := hn2
  unfold takeF at hr
  by_cases h0 : sec = 0
  · rw [if_pos h0] at hr
    simp only [Res.ok.injEq, Prod.mk.injEq] at hr
    obtain ⟨rfl, rfl⟩ := hr
    subst h0
    go_enter Tryz.func178, Tryz.ntmps178
    go_wp2
    go_ret2
    exact ⟨_, fv, lv, rfl, ⟨_, rfl, Row.nil pkR w⟩, h, Off.refl _ _⟩
  · rw [if_neg h0] at hr
    have t0 : ((sec : Int) == 0) = false := by simp; omega
    have hsec : sec < 4096 := by
      obtain ⟨_, _, _, _, hm3⟩ := h.ch.made
      cases hmd : s.made sec with
      | some nd0 => exact hm3.low sec nd0 hmd
      | none =>
        rw [hmd] at hr
        simp only at hr
        cases hD : nodesN s0 sec with
        | none => rw [hD] at hr; cases hr
        | some nd0 => have := (nodesN_some hD).1; omega
    have hkey := key_of sec (by omega)
    obtain ⟨km, D, hm1, hm2, hm3⟩ := h.ch.made
    have hhas := hm3.has_ sec (by omega)
    have c2 : w.cell? ⟨c, 2, none⟩ = some (.map (some mb)) := h.ch.blk.cell 2
    cases hmd : s.made sec with
    | some nd0 =>
      rw [hmd] at hr hhas
      simp only [Res.ok.injEq, Prod.mk.injEq] at hr
      obtain ⟨rfl, rfl⟩ := hr
      obtain ⟨v, hv, hat⟩ := hm3.val sec nd0 hmd
      have hd := hm3.del sec
      have hhas' : Maps.has D (kl sec) = true := hhas
      have hfew1 : s.free.length + s.left.length + 1 ≤ 100000 := by simp only [List.length_append, List.length_singleton] at hfew; omega
      have hfl : s.free.length + 1 ≤ 100000 := by omega
      have HAT : Hid (∀ z, D.atKey (kl sec) z = .held v) := hat
      have HA : Hid (∀ w1, w1.ownsMap Tryz.prog 3 nodR mb km (D.del (kl sec)) → w.mapTurned w1 mb → Cg w1 base A s0 t f cb c mb root { s with made := upd2 s.made sec none } fv lv ∧ Off (ChF w A cb c mb) w w1) := fun w1 g1 g2 => h.turned g2.grown g1 hm2 hd
      have HNR : Hid _ := h.norow
      have hcl := h.cl
      clear hhas hmd hat hd hm3 hfew
      go_enter Tryz.func178, Tryz.ntmps178
      go_wp2_with (first
        | (at_lookup; refine wpList_lookup_own_ok _ rfl (.tmp 16) (.tmp 17) 183 rfl 3 175 keyed3 Tryz.underlying183 nodR (zero175 _) (.held .nilIface) [] rfl mb km D rfl hm1 _ (kl sec) rfl hkey ?_; intro v1 ps hv1; obtain rfl : v1 = v := (by rw [HAT.out] at hv1; have hv2 : v1 = v ∧ ps = [] := (by simpa [nodR] using hv1); exact hv2.1); clear hv1)
        | (at_delete; refine wpList_delete_own _ rfl (.tmp 25) (.tmp 26) 183 3 rfl 175 keyed3 Tryz.underlying183 nodR mb km D rfl hm1 _ (kl sec) rfl hkey ?_; intro w1 hmap1 hturn; obtain ⟨h1, o1⟩ := HA.out w1 hmap1 hturn; have d3 : w1.cell? ⟨c, 3, none⟩ = some fv := h1.ch.blk.cell 3; have hc1 := h1.cl; have hrow1 : w1.ownsRow cb 3 1 fv s.free.length (secsV s.free) := h1.ch.free)
        | (at_builtin; refine wpList_append_lies _ rfl (.tmp 31) (.tmp 33) 35 rfl cb 3 i3 _ 1 8 Tryz.underlying35 hi3 hz3a hz3b hz3c rfl (by omega) fv s.free.length _ rfl (hrow1.alloc _) ⟨w1.heap.size, 0, none⟩ 1 1 [.int .i64 (sec : Int)] rfl rfl (World.news_of_block (cs := #[.int .i64 (sec : Int)]) (t := 3) (fr := (0, 0)) (heap_alloc_new w1 _)) (by simp [Value.oneCell']) (by omega) (by unfold maxLen; omega) (by omega) (by simp; omega) (w1.heap.size + 1) (by simp) ?_; intro gg capp w4 hown4 hgrow4 hat4 hlt4; obtain ⟨e3, e4, h4, o4⟩ := h1.freeApp hgrow4 hat4 hown4 hfew1; clear hown4 hgrow4))
      go_ret2
      have oo := ChF.trans o1 o4
      exact ⟨_, rfl, hv.off oo HNR.out, ⟨_, _, h4⟩, oo⟩
    | none =>
      rw [hmd] at hr hhas
      simp only at hr
      cases hD' : nodesN s0 sec with
      | none => rw [hD'] at hr; cases hr
      | some nd0 =>
        rw [hD'] at hr
        obtain ⟨hsn, hD⟩ := nodesN_some hD'
        clear hD'
        simp only [Res.ok.injEq, Prod.mk.injEq] at hr
        obtain ⟨rfl, rfl⟩ := hr
        have hhas' : Maps.has D (kl sec) = false := hhas
        have hfew1 : s.free.length + s.left.length + 1 ≤ 100000 := by simp only [List.length_append, List.length_singleton] at hfew; omega
        have hfl : s.left.length + 1 ≤ 100000 := by omega
        have hrow1 : w.ownsRow cb 3 1 lv s.left.length (secsV s.left) := h.ch.left
        have c0 : w.cell? ⟨c, 0, none⟩ = some (.pointer (some ⟨t, 0, none⟩)) := h.ch.blk.cell 0
        have c4 : w.cell? ⟨c, 4, none⟩ = some lv := h.ch.blk.cell 4
        have HNR : Hid _ := h.norow
        have hcl := h.cl
        have hrd : ∀ w4 lv', Cg w4 base A s0 t f cb c mb root { s with left := s.left ++ [sec] } fv lv' → Calls Tryz.prog 130 #[.pointer (some ⟨t, 0, none⟩), .int .i64 (sec : Int)] w4 fun e w' => ∃ v, e = .returned (.tuple #[v, .int .i64 0]) ∧ NodeV w' v nd0 ∧ Cg w' base A s0 t f cb c mb root { s with left := s.left ++ [sec], reads := s.reads + 1 } fv lv' ∧ Off (ChF w4 A cb c mb) w4 w' := fun w4 lv' g => by
          refine (tread_live w4 base A _ g.pd t f g.tr (by rw [PS.at_brk]; exact hs) sec hsn).mono ?_
          rintro e w' ⟨h1, h2, h3⟩
          rcases h1 with ⟨v, nd', g1, rfl, g3, _⟩ | ⟨g1, _⟩
          · have : nd' = nd0 := Option.some.inj (g1.symm.trans hD)
            subst this
            refine ⟨v, rfl, g3, ⟨?_, g.tr.off h3 (fun hf => ?_), ?_, g.tl, g.al, ?_⟩, ChF.disk h3⟩
            · rw [PS.at_adv] at h2; exact h2
            · have hq : w4.heap[t]? = _ := g.tr
              have : ¬ A.F t := fun hf => by
                obtain ⟨_, _, ⟨es, cc, m1, _⟩, _⟩ := g.pd.map
                obtain ⟨cur, b1, _⟩ := g.pd.sec.blk
                have p1 : w4.heap[A.p]? = _ := g.pd.blkP
                have q1 : w4.heap[A.q]? = _ := g.pd.blkQ
                rcases hf with e | e | e | e
                · rw [e, p1] at hq; simp at hq
                · rw [e, q1] at hq; simp at hq
                · rw [e, b1] at hq; simp at hq
                · rw [e, m1] at hq; simp at hq
              exact this hf
            · have g9 := g.ch.off h3 g.al (fun b hb => g.pd.norow b hb)
              exact ⟨g9.blk, g9.le, g9.free, g9.left, g9.ne, g9.made, g9.few⟩
            · have := g.cl; have := h3.size; exact ⟨by omega, by omega, by omega⟩
          · have : (none : Option (Node Box)) = some nd0 := g1.symm.trans hD
            cases this
        have HRD : Hid _ := hrd
        have HH : Hid _ := h
        clear hhas hmd hm3 hfew hrd hD
        go_enter Tryz.func178, Tryz.ntmps178
        go_wp2_with (first
          | (at_lookup; refine wpList_lookup_own_ok _ rfl (.tmp 16) (.tmp 17) 183 rfl 3 175 keyed3 Tryz.underlying183 nodR (zero175 _) (.held .nilIface) [] rfl mb km D rfl hm1 _ (kl sec) rfl hkey ?_; intro v1 ps hv1; clear hv1)
          | (at_builtin; refine wpList_append_lies _ rfl (.tmp 42) (.tmp 44) 35 rfl cb 3 i3 _ 1 8 Tryz.underlying35 hi3 hz3a hz3b hz3c rfl (by omega) lv s.left.length _ rfl (hrow1.alloc _) ⟨w.heap.size, 0, none⟩ 1 1 [.int .i64 (sec : Int)] rfl rfl (World.news_of_block (cs := #[.int .i64 (sec : Int)]) (t := 3) (fr := (0, 0)) (heap_alloc_new w _)) (by simp [Value.oneCell']) (by omega) (by unfold maxLen; omega) (by omega) (by simp; omega) (w.heap.size + 1) (by simp) ?_; intro gg capp w4 hown4 hgrow4 hat4 hlt4; obtain ⟨e3, e4, h4, o4⟩ := HH.out.leftApp hgrow4 hat4 hown4 hfew1; have e0 := h4.ch.blk.cell 0; clear hown4 hgrow4)
          | (go_at_call 130; refine (HRD.out _ _ h4).mono ?_; rintro e w5 ⟨v, rfl, hv5, h5, o5⟩))
        go_ret2
        exact ⟨_, _, _, rfl, hv5, h5, ChF.trans o4 o5⟩
end Go.Proofs.YtdgbgmffpcooeaaGreat
end
section
/- What a tree tells, from a key on: one leaf. -/
namespace Go.Proofs.YtdgbgmffpcooeaaGreat
open Go.RowKit Go.Lib Go.Shelf
attribute [local go_sem] Oper.semAt_some
theorem roundW_any {m m' : Nat} {P : Program} {l : Nat} {f : FuncId} {tmps : Array Value} {assign body : Code} {w : World} {R : Ending → World → Prop}
    (h : RoundIn Fence.wide m P l f tmps assign body w R) : RoundIn Fence.wide m' P l f tmps assign body w R := ⟨h.1, fun c cs _ => h.2 c cs (room_wide _)⟩
theorem yieldW_any {m : Nat} (m' : Nat) {P : Program} {l : Nat} {args : Array Value} {W : World} {R : Ending → World → Prop} (h : YieldAt Fence.wide m P l args W R) : YieldAt Fence.wide m' P l args W R := by
  obtain ⟨fn, tmps, assign, body, hy, hR⟩ := h
  exact ⟨fn, tmps, assign, body, hy, roundW_any hR⟩
/-- What is told: an entry, and an error. -/
abbrev Tld := (Key × Box) × Int
def tldE (x : Tld) : Array Value := #[entV x.1, .int .i64 x.2]
/-- What the teller has at hand: the disk, the tree, the loop's record; none of these is the loop's. -/
structure It (base : Nat) (A : PA) (s : PS) (t : Nat) (f : Value) (l : Nat) (W : World) (M : Nat → Prop) (r : Nat) : Prop where
  pd : PD W base A (s.at_ r)
  tr : TreeB W t A f
  lp : LoopAt l W
  ml : ∀ k, M k → k < W.heap.size
  ma : ∀ k, A.F k → ¬ M k
  mt : ¬ M t
section
variable {base : Nat} {A : PA} {s : PS} {t : Nat} {f : Value} {l : Nat} {W W' : World} {M : Nat → Prop} {r r' : Nat}
theorem LoopAt.ne {k tg : Nat} {vs : Array Value} (h : LoopAt l W) (hb : Blk W k tg vs) : k ≠ l := fun e => by
  obtain ⟨q, hq⟩ := h
  have hb' : W.heap[k]? = _ := hb
  rw [e, hq] at hb'; cases hb'
theorem PD.notLoop (hp : PD W base A s) (h : LoopAt l W) {k : Nat} (hk : A.F k) : k ≠ l := fun e => by
  obtain ⟨q, hq⟩ := h
  obtain ⟨_, _, ⟨es, cc, m1, _⟩, _⟩ := hp.map
  obtain ⟨cur, b1, _⟩ := hp.sec.blk
  have p1 : W.heap[A.p]? = _ := hp.blkP
  have q1 : W.heap[A.q]? = _ := hp.blkQ
  rw [← e] at hq
  rcases hk with e | e | e | e
  · rw [e, p1] at hq; cases hq
  · rw [e, q1] at hq; cases hq
  · rw [e, b1] at hq; cases hq
  · rw [e, m1] at hq; cases hq
theorem PD.nott' (hp : PD W base A s) (ht : TreeB W t A f) : ¬ A.F t := fun hf => by
  have hq : W.heap[t]? = _ := ht
  obtain ⟨_, _, ⟨es, cc, m1, _⟩, _⟩ := hp.map
  obtain ⟨cur, b1, _⟩ := hp.sec.blk
  have p1 : W.heap[A.p]? = _ := hp.blkP
  have q1 : W.heap[A.q]? = _ := hp.blkQ
  rcases hf with e | e | e | e
  · rw [e, p1] at hq; simp at hq
  · rw [e, q1] at hq; simp at hq
  · rw [e, b1] at hq; simp at hq
  · rw [e, m1] at hq; simp at hq
/-- The teller does something of its own. -/
theorem It.own (h : It base A s t f l W M r) (ho : Off A.F W W') (hp : PD W' base A (s.at_ r')) : It base A s t f l W' M r' := by
  obtain ⟨q, hq⟩ := h.lp
  have hs := ho.size
  exact ⟨hp, (ho.block t h.tr.lt (h.pd.nott' h.tr)).trans h.tr, ⟨q, (ho.block l (Array.getElem?_eq_some_iff.1 hq).1 (fun e => h.pd.notLoop h.lp e rfl)).trans hq⟩, fun k hk => by have := h.ml k hk; omega, h.ma, h.mt⟩
theorem It.below (h : It base A s t f l W M r) (hb : Below W.heap.size W W') : It base A s t f l W' M r := h.own (Off.of_below hb) (h.pd.below hb)
/-- A round of the loop. -/
theorem It.round (h : It base A s t f l W M r) (ho : Off (fun k => M k ∨ k = l) W W') (hl : LoopAt l W') : It base A s t f l W' (Grow M W W') r := by
  have hs := ho.size
  have ht := h.tr.lt
  have hF : ∀ k, A.F k → k < W.heap.size := fun k hk => (h.pd.lt k hk).2
  refine ⟨h.pd.off ho fun k hk hg => hg.elim (h.ma k hk) (h.pd.notLoop h.lp hk), (ho.block t ht fun hg => hg.elim h.mt (h.lp.ne h.tr)).trans h.tr, hl, fun k hk => ?_, fun k hk hg => ?_, fun hg => ?_⟩
  · rcases hk with hk | hk
    · have := h.ml k hk; omega
    · exact hk.2
  · rcases hg with hg | hg
    · exact h.ma k hk hg
    · have := hF k hk; omega
  · rcases hg with hg | hg
    · exact h.mt hg
    · omega
end
theorem Row.offv {V : Type} {K : PK V} {F : Nat → Prop} {W W' : World} {v : Value} {r : List (Key × V)} (h : Row K W v r) (ho : Off F W W') (hF : ∀ a n c, v = .slice (some a) n c → ¬ F a.block) : Row K W' v r := by
  rcases h with h | ⟨b, o, c, cur, h1, h2, h3, h4, h5⟩
  · exact .inl h
  · exact .inr ⟨b, o, c, cur, h1, h2, h3, (ho.block b (Array.getElem?_eq_some_iff.1 h4).1 (hF _ _ _ h1)).trans h4, h5⟩
theorem Row.lt {V : Type} {K : PK V} {W : World} {a : Addr} {n c : Nat} {r : List (Key × V)} (h : Row K W (.slice (some a) n c) r) : a.block < W.heap.size := by
  rcases h with ⟨_, h⟩ | ⟨b, o, c, cur, h1, h2, h3, h4, h5⟩
  · cases h
  · cases h1; exact (Array.getElem?_eq_some_iff.1 h4).1
theorem RowR.cells6 {W : World} {b o n c : Nat} {r : List (Key × Box)} (h : RowR W (.slice (some ⟨b, o, none⟩) n c) r) {i : Nat} {x : Key × Box} (hx : r[i]? = some x) :
    W.cell? ⟨b, o + i * 6, none⟩ = some (.int .i64 x.1.1) ∧ W.cell? ⟨b, o + i * 6 + 1, none⟩ = some (.int .i64 x.1.2) ∧ W.cell? ⟨b, o + i * 6 + 2, none⟩ = some (.int .i64 (x.2.a : Int)) ∧ W.cell? ⟨b, o + i * 6 + 3, none⟩ = some (.int .i64 (x.2.b : Int)) ∧ W.cell? ⟨b, o + i * 6 + 4, none⟩ = some (.int .i64 (x.2.c : Int)) ∧ W.cell? ⟨b, o + i * 6 + 5, none⟩ = some (.int .i64 (x.2.d : Int)) := by
  obtain ⟨b', o', c', e, _, _, _, _, hc⟩ := Row.form pkR h (by have := (List.getElem?_eq_some_iff.1 hx).1; omega)
  cases e
  exact ⟨hc i x hx 0 _ rfl, hc i x hx 1 _ rfl, hc i x hx 2 _ rfl, hc i x hx 3 _ rfl, hc i x hx 4 _ rfl, hc i x hx 5 _ rfl⟩
/-- What a telling leaves. -/
def TellP (base : Nat) (A : PA) (s : PS) (t : Nat) (f : Value) (l : Nat) (J : Nat → (Nat → Prop) → World → Prop) (Jx : Nat → World → Prop) (k : Key) (h : Nat) (es : List (Key × Box)) (i0 r : Nat) (M : Nat → Prop) (W : World) (e : Ending) (W' : World) : Prop :=
  Off (fun b => A.F b ∨ M b ∨ b = l) W W' ∧
  ((e = .returned (.bool true) ∧ ∃ M' r', J (i0 + (frm k es).length) M' W' ∧ It base A s t f l W' M' r' ∧ (∀ b, b < W.heap.size → M' b → M b) ∧ (frm k es = [] → r' ≤ r + h + 1)) ∨
   (e = .returned (.bool false) ∧ ∃ i r', i0 < i ∧ Jx i W' ∧ PD W' base A (s.at_ r') ∧ TreeB W' t A f ∧ (i = i0 + 1 → r' ≤ r + 2 * h + 1 ∧ (frm k es = es → r' ≤ r + h + 1))))
set_option maxRecDepth 100000 in
set_option maxHeartbeats 4000000 in
theorem tellL_in (base : Nat) (A : PA) (s : PS) (t : Nat) (f : Value) (l : Nat) (hs : s.brk = false) (J : Nat → (Nat → Prop) → World → Prop) (Jx : Nat → World → Prop) (hJ : ∀ i M X Y, J i M X → Off A.F X Y → J i M Y) (xs : List Tld)
    (hY : ∀ m i x M W1, xs[i]? = some x → J i M W1 → YieldAt Fence.wide m Tryz.prog l (tldE x) W1 fun e W' =>
      Off (fun k => M k ∨ k = l) W1 W' ∧ LoopAt l W' ∧ ((e = .returned (.bool true) ∧ J (i + 1) (Grow M W1 W') W') ∨ (e = .returned (.bool false) ∧ Jx (i + 1) W')))
    (k : Key) (n sec : Nat) (es : List (Key × Box)) (hn : nodesN s sec = some (.leaf es)) (i0 r : Nat) (hxs : ∀ j x, (frm k es)[j]? = some x → xs[i0 + j]? = some (x, 0)) (M : Nat → Prop) (W : World) (hI : It base A s t f l W M r) (h0 : J i0 M W) :
    CallsIn Fence.wide n Tryz.prog 121 #[.pointer (some ⟨t, 0, none⟩), .int .i64 (sec : Int), keyV k, .func (.yield l) #[] #[]] W (TellP base A s t f l J Jx k 0 es i0 r M W) := by
  have hsec : sec < s.n ∧ nodesOf s sec = some (.leaf es) := by
    unfold nodesN at hn
    split at hn
    · rename_i h; exact ⟨h, hn⟩
    · cases hn
  have hst : Stands (.leaf es) := (nodeOf_some hsec.2).1
  have hrise : Rising es := hst.2.2.1
  have hel : es.length ≤ 10 := hst.2.1
  have he1 : 1 ≤ es.length := hst.1
  have hb0 : Below W.heap.size W (W.alloc (.cells #[.int .i64 k.1, .int .i64 k.2] 154)) := (Below.refl _ W).alloc (Nat.le_refl _) _
  have hI1 := hI.below hb0
  have hread : Calls Tryz.prog 130 #[.pointer (some ⟨t, 0, none⟩), .int .i64 (sec : Int)] (W.alloc (.cells #[.int .i64 k.1, .int .i64 k.2] 154)) fun e w' => ∃ b o c, e = .returned (.tuple #[.iface 191 (.agg #[.slice (some ⟨b, o, none⟩) es.length c]), .int .i64 0]) ∧ RowR w' (.slice (some ⟨b, o, none⟩) es.length c) es ∧ W.heap.size < b ∧ es.length ≤ c ∧ PD w' base A (s.at_ (r + 1)) ∧ Off A.F (W.alloc (.cells #[.int .i64 k.1, .int .i64 k.2] 154)) w' := by
    refine (tread_live _ base A (s.at_ r) hI1.pd t f hI1.tr (by exact hs) sec hsec.1).mono ?_
    rintro e w1 ⟨hrd, hP1, o1⟩
    rw [PS.at_adv] at hP1
    rcases hrd with ⟨v, nd, g1, rfl, g3, g4⟩ | ⟨g1, _⟩
    · have : nd = .leaf es := Option.some.inj (g1.symm.trans hsec.2)
      subst this
      obtain ⟨sl, rfl, hrow⟩ := g3
      obtain ⟨b, o, c, rfl, h1, _, _⟩ := hrow.form pkR (by omega)
      have := g4 _ _ _ _ rfl
      exact ⟨b, o, c, rfl, hrow, by simp at this; omega, h1, hP1, o1⟩
    · have : (none : Option (Node Box)) = some (.leaf es) := g1.symm.trans hsec.2
      cases this
  have HI0 : Hid (It base A s t f l W M r) := hI
  have HB0 : Hid _ := hb0
  have HRI : Hid (Rising es) := hrise
  have hkb := Blk.new W 154 #[.int .i64 k.1, .int .i64 k.2]
  have HKB : Hid (Blk (W.alloc (.cells #[.int .i64 k.1, .int .i64 k.2] 154)) W.heap.size 154 #[.int .i64 k.1, .int .i64 k.2]) := hkb
  clear hI hI1 hst hn hsec hb0 hrise hkb
  have hdd : ∀ k : Nat, (Fence.wide.depth.isSome = true → 1 ≤ k) := fun k h => by cases h
  refine callsIn_of_wp Tryz.func121 rfl trivial ?_ rfl
  simp only [Tryz.ntmps121, List.size_toArray, List.length_cons, List.length_nil, Nat.reduceAdd, Nat.reduceSub, Array.replicate_succ, Array.replicate_zero, List.push_toArray, List.append_toArray, List.nil_append, List.cons_append]
  gi_upto_region 6 with (refine ⟨trivial, hdd _, ?_⟩; gi_at_call 130; refine (callsIn_wide.2 hread).mono ?_; rintro e w1 ⟨b, o, c, rfl, hrow, hbl, hcl, hP1, o1⟩)
  have hta := ta_ll
  gi_upto_region 8 with fail
  obtain ⟨W2, hW2⟩ : ∃ W2, w1.alloc (.cells #[.slice (some ⟨b, o, none⟩) es.length c] 191) = W2 := ⟨_, rfl⟩
  have hb2 : Below w1.heap.size w1 W2 := by rw [← hW2]; exact (Below.refl _ w1).alloc (Nat.le_refl _) _
  have hn2 : Blk W2 w1.heap.size 191 #[.slice (some ⟨b, o, none⟩) es.length c] := by rw [← hW2]; exact Blk.new w1 191 _
  have hk2 : Blk W2 W.heap.size 154 #[.int .i64 k.1, .int .i64 k.2] := by
    have hw := o1.size
    have := HKB.out.lt
    refine (hb2.block _ (by omega)).trans ((o1.block _ this fun hf => ?_).trans HKB.out)
    have := HI0.out.pd.lt _ hf
    omega
  have hrow2 : RowR W2 (.slice (some ⟨b, o, none⟩) es.length c) es := hrow.below pkR hb2
  have oW : Off A.F W W2 := (((Off.of_below HB0.out).trans o1).trans (Off.of_below hb2))
  have hI2 : It base A s t f l W2 M (r + 1) := HI0.out.own oW (hP1.below hb2)
  have hfind := findR_any W2 _ es hrow2 HRI.out k
  rw [hW2]
  have ck0 : W2.cell? ⟨W.heap.size, 0, none⟩ = some (.int .i64 k.1) := hk2.cell 0
  have ck1 : W2.cell? ⟨W.heap.size, 1, none⟩ = some (.int .i64 k.2) := hk2.cell 1
  have cn0 : W2.cell? ⟨w1.heap.size, 0, none⟩ = some (.slice (some ⟨b, o, none⟩) es.length c) := hn2.cell 0
  have hbw : b < w1.heap.size := Row.lt hrow
  have HJ0 : Hid (J i0 M W2) := hJ _ _ _ _ h0 oW
  have HI2 : Hid (It base A s t f l W2 M (r + 1)) := hI2
  have HOW : Hid (Off A.F W W2) := oW
  have HROW2 : Hid (RowR W2 (.slice (some ⟨b, o, none⟩) es.length c) es) := hrow2
  have HW : Hid (W.heap.size < W2.heap.size ∧ w1.heap.size < W2.heap.size) := ⟨hk2.lt, hn2.lt⟩
  clear hW2 hb2 hk2 hrow2 oW hI2 hrow hP1 o1 hread h0 HB0 HKB
  obtain ⟨fr, hfr⟩ : ∃ fr, lbn k es = fr := ⟨_, rfl⟩
  have hfrl : fr ≤ es.length := by rw [← hfr]; exact lbn_le k es
  have HFR : Hid (lbn k es = fr) := hfr
  rw [hfr] at hfind
  clear hfr
  gi_upto_region 9 with (refine ⟨trivial, hdd _, ?_⟩; gi_at_call 145; refine (callsIn_wide.2 hfind).mono ?_; rintro e w3 ⟨rfl, hb3⟩)
  have cn3 : w3.cell? ⟨w1.heap.size, 0, none⟩ = some (.slice (some ⟨b, o, none⟩) es.length c) := (hb3.cell (p := ⟨w1.heap.size, 0, none⟩) HW.out.2).trans cn0
  clear ck0 ck1 cn0 hfind
  have HN : Hid (es.drop fr = frm k es) := by show _ = _; rw [← HFR.out]; exact drop_lbn_frm k HRI.out
  have hdl : (es.drop fr).length = es.length - fr := List.length_drop
  by_cases hcf : c = fr
  · obtain rfl : fr = c := hcf.symm
    have hz : es.length - fr = 0 := by omega
    have HZ : Hid (frm k es = []) := by show _ = _; rw [← HN.out]; exact List.eq_nil_of_length_eq_zero (by omega)
    have HI3 : Hid (It base A s t f l w3 M (r + 1)) := HI2.out.below hb3
    have HJ3 : Hid (J i0 M w3) := hJ _ _ _ _ HJ0.out (Off.of_below hb3)
    have HO3 : Hid (Off A.F W w3) := HOW.out.trans (Off.of_below hb3)
    clear hdl HI2 HJ0 HOW HROW2 hb3 hY hxs
    gi_wp2
    gi_loopw [47] (fun x wr => x = .int .i64 0 ∧ wr = w3) (fun _ _ => 0)
    case atStart => exact ⟨rfl, rfl⟩
    case round =>
      obtain ⟨rfl, rfl⟩ := hrel
      gi_wp2
      go_ret
      exact ⟨HO3.out.mono (fun k _ h => .inl h), .inl ⟨rfl, M, r + 1, by rw [HZ.out]; exact HJ3.out, HI3.out, fun _ _ h => h, fun _ => by omega⟩⟩
  · have hrow3 : RowR w3 (.slice (some ⟨b, o + fr * 6, none⟩) (es.length - fr) (c - fr)) (es.drop fr) := (Row.drop pkR HROW2.out hfrl).below pkR hb3
    have HD0 : Hid ((es.drop fr).length = es.length - fr) := hdl
    have HROW3 : Hid (RowR w3 (.slice (some ⟨b, o + fr * 6, none⟩) (es.length - fr) (c - fr)) (es.drop fr)) := hrow3
    have HI3 : Hid (It base A s t f l w3 M (r + 1)) := HI2.out.below hb3
    have HJ3 : Hid (J i0 M w3) := hJ _ _ _ _ HJ0.out (Off.of_below hb3)
    have HO3 : Hid (Off A.F W w3) := HOW.out.trans (Off.of_below hb3)
    have hsz3 := hb3.size
    clear hdl hrow3 HI2 HJ0 HOW HROW2 hb3
    gi_wp2
    have hrow3 := HROW3.out
    have hdl := HD0.out
    rw [HN.out] at hdl hrow3
    have hN10 : es.length - fr ≤ 10 := by omega
    clear HROW3 HD0 hel he1 cn3 hcf hfrl hcl
    generalize es.length - fr = N at hdl hrow3 hN10 ⊢
    generalize o + fr * 6 = o' at hrow3 ⊢
    generalize c - fr = c' at hrow3 ⊢
    have HD : Hid ((frm k es).length = N) := hdl
    clear hdl
    gi_loopw [47] (fun x wr => ∃ (j : Nat) (M' : Nat → Prop), x = .int .i64 (j : Int) ∧ j ≤ N ∧ J (i0 + j) M' wr ∧ It base A s t f l wr M' (r + 1) ∧ Off (fun b => A.F b ∨ M b ∨ b = l) W wr ∧ (∀ b, b < W.heap.size → M' b → M b) ∧ ¬ M' b ∧ RowR wr (.slice (some ⟨b, o', none⟩) N c') (frm k es)) (fun x _ => N - (intOf x).toNat)
    case atStart => exact ⟨0, M, rfl, Nat.zero_le _, HJ3.out, HI3.out, HO3.out.mono (fun k _ h => .inl h), fun _ _ h => h, fun h => (by have := HI0.out.ml b h; omega), hrow3⟩
    case round =>
      obtain ⟨j, M', rfl, hj, hJr, hIr, hOr, hMr, hMb, hRr⟩ := hrel
      by_cases hlt : j < N
      · have hlt' : (j : Int) < (N : Int) := by omega
        obtain ⟨x, hx⟩ : ∃ x, (frm k es)[j]? = some x := ⟨_, List.getElem?_eq_getElem (by rw [HD.out]; exact hlt)⟩
        obtain ⟨e0, e1, e2, e3, e4, e5⟩ := hRr.cells6 hx
        have hxx := hxs j x hx
        have hJ4 : J (i0 + j) M' (wr.alloc (entO x)) := hJ _ _ _ _ hJr (Off.of_below ((Below.refl _ wr).alloc (Nat.le_refl _) _))
        obtain ⟨f2, t2, a2, b2, hy2, hR2⟩ := hY (n - 1) (i0 + j) (x, 0) M' _ hxx hJ4
        simp only [tldE] at hy2
        clear hY hxs
        have HY2 : Hid _ := hR2
        clear hR2
        gi_wp2
        refine ⟨hdd _, RoundIn.mono HY2.out ?_⟩
        have hb4 : Below wr.heap.size wr (wr.alloc (entO x)) := (Below.refl _ wr).alloc (Nat.le_refl _) _
        have hI4 := hIr.below hb4
        have hbr : b < wr.heap.size := Row.lt hRr
        have hM4 : ∀ k, M' k → k < wr.heap.size := hIr.ml
        rintro e W5 ⟨o5, l5, hcase⟩
        have hO5 : Off (fun b => A.F b ∨ M b ∨ b = l) W W5 := (hOr.step (Off.of_below (F := fun _ => False) hb4) (fun _ _ h => h.elim)).step o5 (fun k hk h => h.elim (fun h => .inr (.inl (hMr k hk h))) (fun h => .inr (.inr h)))
        have hI5 := hI4.round o5 l5
        have hOW := hOr.size
        have hlb : b ≠ l := fun e => by
          rcases hRr with ⟨_, h⟩ | ⟨b', o'', c'', cur, h1, _, _, h4, _⟩
          · cases h
          · cases h1
            obtain ⟨q, hq⟩ := hIr.lp
            rw [e, hq] at h4; cases h4
        have hR5 : RowR W5 (.slice (some ⟨b, o', none⟩) N c') (frm k es) := Row.offv (hRr.below pkR hb4) o5 (fun a n c e => by cases e; exact fun h => h.elim hMb hlb)
        have hMb5 : ¬ Grow M' (wr.alloc (entO x)) W5 b := fun h => h.elim hMb (fun h => by have := h.1; rw [World.size_alloc] at this; omega)
        have hMr5 : ∀ b, b < W.heap.size → Grow M' (wr.alloc (entO x)) W5 b → M b := fun b hb h => h.elim (hMr b hb) (fun h => by have := h.1; rw [World.size_alloc] at this; omega)
        rcases hcase with ⟨rfl, hJ5⟩ | ⟨rfl, hx5⟩
        · have HREL : Hid (∃ (j' : Nat) (M2 : Nat → Prop), Value.int .i64 ((j : Int) + 1) = .int .i64 (j' : Int) ∧ j' ≤ N ∧ J (i0 + j') M2 W5 ∧ It base A s t f l W5 M2 (r + 1) ∧ Off (fun b => A.F b ∨ M b ∨ b = l) W W5 ∧ (∀ b, b < W.heap.size → M2 b → M b) ∧ ¬ M2 b ∧ RowR W5 (.slice (some ⟨b, o', none⟩) N c') (frm k es)) := ⟨j + 1, _, by go_num, by omega, hJ5, hI5, hO5, hMr5, hMb5, hR5⟩
          clear hJ5 hI5 hO5 hMr5 hMb5 hR5 HY2 hy2 hI4 hRr hIr hOr hMr
          gi_wp2
          go_roundw
          case rel => exact HREL.out
          case measure => simp [intOf]; omega
        · clear hy2 HY2
          gi_wp2
          go_ret
          exact ⟨hO5, .inr ⟨rfl, i0 + j + 1, r + 1, by omega, hx5, hI5.pd, hI5.tr, fun _ => ⟨by omega, fun _ => by omega⟩⟩⟩
      · have hlt' : ¬ ((j : Int) < (N : Int)) := by omega
        obtain rfl : j = N := by omega
        clear hY
        gi_wp2
        go_ret
        exact ⟨hOr, .inl ⟨rfl, M', r + 1, by rw [HD.out]; exact hJr, hIr, hMr, fun _ => by omega⟩⟩
end Go.Proofs.YtdgbgmffpcooeaaGreat
end
