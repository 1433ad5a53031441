/- Pk6 -/
import Derived.Test.YtdgbgmffpcooeaaGreatC15
section
/- What the program's disk does at Write. -/
namespace Go.Proofs.YtdgbgmffpcooeaaGreat
open Go.RowKit Go.Lib Go.Maps

theorem keyed3 : Keyed Tryz.prog 3 := int_keyed Tryz.underlying3
theorem zero107 (w : World) : (zeroValue 135).run Tryz.prog w = .ok (secV (zeros 256)) w := by kernel_rfl
theorem key_of (i : Nat) (h : i < 4096) : keyOf Tryz.prog 3 (.int .i64 (i : Int)) = some (kl i) := keyOf_int_mk Tryz.underlying3 (WalkArith.wf_i64 (by omega))

theorem size135 : (Tryz.prog.info? 135).map (·.size) = some 256 := by kernel_rfl
theorem size_strCells {b : ByteArray} (hb : b.size = 256) : (strCells b).toArray.size = 256 := by rw [List.size_toArray, strCells_length, hb]
theorem all_strCells (b : ByteArray) : (strCells b).toArray.all (·.oneCell') = true := all_oneCell_toArray (strCells_oneCell b)
theorem there_new (W : World) : (W.alloc (.cells Tryz.zeroCells135 135)).there W.heap.size 0 256 := fun j hj => by
  have hb := Blk.new W 135 Tryz.zeroCells135
  have hs := Tryz.zeroCells135_size
  rw [Nat.zero_add]
  exact ⟨by rw [hb.cell j, Array.getElem?_eq_getElem (by omega)]; rfl, hb.frozen j⟩
theorem wpList_copy_long {P : Program} {ops : Array Oper} {rest : List Oper} {o : Oper} {a : Act} {w : World} {Q : Exit → Act → World → Prop}
    (hg : o.guard = none) (d x : Operand) (dT sT : TypeId) (hop : o.op = Op.call { callee := Callee.builtin Builtin.copy, args := #[d, x], argTypes := #[dT, sT] })
    (elem : TypeId) (hu : P.underlying dT = some (.slice elem)) (hz : ∀ w, (Go.sizeOf elem).run P w = .ok 1 w)
    (b off dLen dCap : Nat) (hd : a.eval d = .slice (some ⟨b, off, none⟩) dLen dCap) (t : ByteArray) (hx : a.eval x = .string t) (hle : dLen ≤ t.size) (ht : w.there b off dLen)
    (hK : wpList P ops Q rest (a.put o.dst (goInt dLen)) (w.setCells b off (strCells (t.extract 0 dLen)))) : wpList P ops Q (o :: rest) a w := by
  refine wpList_plain hg fun K hK' => ?_
  have hrun := run_copy_long (P := P) w dT sT o.type elem b off dLen dCap t hu hz hle ht
  unfold Oper.wp
  simp [execOp, hop, resolve, invoke, builtin, hd, hx, hrun, Result.andThen]
  exact hK' _ _ hK
theorem extract_all {b : ByteArray} (hb : b.size = 256) : b.extract 0 256 = b := by
  rw [← hb]; exact ByteArray.extract_zero_size

/-- A sector is written over. -/
theorem PD.setSec {W : World} {base : Nat} {A : PA} {s : PS} (h : PD W base A s) {i : Nat} (hi : i < s.n) {b : ByteArray} (hb : b.size = 256) : PD (W.setCells A.g (i * 256) (strCells b)) base A { s with now := upd s.now i b } := by
  obtain ⟨a1, a2, a3, a4, a5, a6⟩ := h.apart
  obtain ⟨k, D, m1, m2, m3⟩ := h.map
  have ho : Off (fun k => k = A.g) W (W.setCells A.g (i * 256) (strCells b)) := Off.setCells (F := fun k => k = A.g) (B := A.g) (.inl rfl) _ _ _ (Off.refl _ _)
  exact ⟨h.le, h.blkP.off ho (Ne.symm a4), h.blkQ.off ho (Ne.symm a2), h.sec.set hi hb, ⟨k, D, map_off m1 ho a6, m2, m3⟩, h.n1, h.n2⟩
theorem kl_ne {i j : Nat} (h : i ≠ j) : kl i ≠ kl j := fun e => by
  have e' : (Lit.int .i64 (i : Int)) = .int .i64 (j : Int) := e
  injection e' with _ e2
  exact h (by omega)
theorem MapIs.put {D : DataW Unit} {old : Nat → Option ByteArray} {n : Nat} (h : MapIs D old n) (hD : IsMap D) {i : Nat} (hi : i < n) {b : ByteArray} (hb : b.size = 256) : MapIs (D.put (kl i) (.lit (.string b.data.toList))) (upd old i (some b)) n := by
  have hkl : WideAt.IsKeyLit (kl i) := trivial
  refine ⟨fun t ht => ?_, fun t c ht hc z => ?_, fun k hk => ?_, fun t c ht hc => ?_⟩
  · by_cases e : t = i
    · subst e; rw [has_put_same hD hkl, upd_same]; rfl
    · rw [has_put_other (kl_ne e), h.has_ t ht, upd_ne old _ e]
  · by_cases e : t = i
    · subst e
      rw [upd_same] at hc
      injection hc with hc
      rw [atKey_put_same hD hkl, hc]
    · rw [upd_ne old _ e] at hc
      rw [atKey_put_other (kl_ne e)]
      exact h.val t c ht hc z
  · by_cases e : k = kl i
    · exact ⟨i, hi, e⟩
    · rw [has_put_other e] at hk
      exact h.keys k hk
  · by_cases e : t = i
    · subst e
      rw [upd_same] at hc
      injection hc with hc
      rw [← hc]; exact hb
    · rw [upd_ne old _ e] at hc
      exact h.size t c ht hc

def PS.write (s : PS) (i : Int) (b : ByteArray) : Int × PS :=
  if i < 0 ∨ (s.n : Int) ≤ i then (3, s) else if b.size ≠ 256 then (2, s) else if s.brk then (4, s.asked) else
    (0, { s.asked.spent with steps := wrap64 (s.steps + 1), now := upd s.now i.toNat b, old := if (s.old i.toNat).isSome then s.old else upd s.old i.toNat (some (s.now i.toNat)) })

set_option maxRecDepth 100000 in
set_option maxHeartbeats 1000000 in
theorem pwrite_any (w : World) (base : Nat) (A : PA) (s : PS) (h : PD w base A s) (i : Int) (b : ByteArray) (hlf : -1 ≤ s.left ∧ s.left ≤ 9223372036854775807) :
    Calls Tryz.prog 149 #[.pointer (some ⟨A.q, 0, none⟩), .int .i64 i, .string b] w fun e w' => e = .returned (.int .i64 (s.write i b).1) ∧ PD w' base A (s.write i b).2 ∧ Off A.F w w' := by
  have hhas := phas_any w base A s h i
  by_cases h1 : i < 0 ∨ (s.n : Int) ≤ i
  · have e : s.write i b = (3, s) := by unfold PS.write; rw [if_pos h1]
    rw [e]
    have hd : decide (0 ≤ i ∧ i < (s.n : Int)) = false := by rw [decide_eq_false_iff_not]; omega
    rw [hd] at hhas
    clear hd h1 e
    go_enter Tryz.func149, Tryz.ntmps149
    go_wp2_with (go_at_call 164; refine hhas.mono ?_; rintro e w1 ⟨rfl, rfl⟩)
    go_ret
    exact ⟨rfl, h, Off.refl _ _⟩
  · have hd : decide (0 ≤ i ∧ i < (s.n : Int)) = true := by rw [decide_eq_true_iff]; omega
    rw [hd] at hhas
    obtain ⟨k, rfl⟩ : ∃ k : Nat, i = k := ⟨i.toNat, by omega⟩
    have hk : k < s.n := by omega
    have hk' : (k : Int) < (s.n : Int) := by omega
    have hcon := pfails_any w base A s h
    clear hd
    by_cases h3 : b.size = 256
    · have t3 : ((b.size : Int) != 256) = false := by rw [h3]; rfl
      cases hb : s.brk with
      | true =>
        have e : s.write k b = (4, s.asked) := by unfold PS.write; rw [if_neg h1, if_neg (by omega), hb]; rfl
        rw [e]
        rw [hb] at hcon
        clear h1 e h3
        go_enter Tryz.func149, Tryz.ntmps149
        go_wp2_with (first | (go_at_call 164; refine hhas.mono ?_; rintro e w1 ⟨rfl, rfl⟩) | (go_at_call 106; refine hcon.mono ?_; rintro e w1 ⟨rfl, hR, ho⟩))
        go_ret
        exact ⟨rfl, hR, ho⟩
      | false =>
        have e : s.write k b = (0, { s.asked.spent with steps := wrap64 (s.steps + 1), now := upd s.now k b, old := if (s.old k).isSome then s.old else upd s.old k (some (s.now k)) }) := by unfold PS.write; rw [if_neg h1, if_neg (by omega), hb]; rfl
        obtain ⟨O, hO⟩ : ∃ O, (if (s.old k).isSome then s.old else upd s.old k (some (s.now k))) = O := ⟨_, rfl⟩
        rw [hO] at e
        rw [e]
        have HO : Hid ((if (s.old k).isSome then s.old else upd s.old k (some (s.now k))) = O) := hO
        rw [hb] at hcon
        have H3 : Hid (b.size = 256) := h3
        clear h1 e h3 hO
        go_enter Tryz.func149, Tryz.ntmps149
        go_upto_region 9 with (first | (go_at_call 164; refine hhas.mono ?_; rintro e w0 ⟨rfl, rfl⟩) | (go_at_call 106; refine hcon.mono ?_; rintro e w1 ⟨rfl, hR, ho⟩) | (go_at_call 107; refine (pspend_any w1 base A s.asked hR hlf).mono ?_; rintro e w2 ⟨rfl, hR2, ho2⟩; have c4 : w2.cell? ⟨A.q, 4, none⟩ = some (.int .i64 s.steps) := hR2.cells.2.2.2.2; have f4 : w2.frozen? ⟨A.q, 4, none⟩ = false := hR2.blkQ.frozen 4))
        have hR3 : PD (w2.setCell ⟨A.q, 4, none⟩ (.int .i64 (wrap64 (s.steps + 1)))) base A { s.asked.spent with steps := wrap64 (s.steps + 1) } := hR2.cell 4 (.int .i64 (wrap64 (s.steps + 1))) rfl rfl rfl rfl
        have ho3 := (ho.trans ho2).setCell (B := A.q) (i := 4) (.int .i64 (wrap64 (s.steps + 1))) (.inl (.inr (.inl rfl)))
        obtain ⟨km, D, hm1', hm2, hm3⟩ := hR2.map
        have hm1 := map_off hm1' (Off.one (i := 4) (B := A.q) w2 (.int .i64 (wrap64 (s.steps + 1)))) (hR2.apart.2.2.1)
        clear hm1'
        obtain ⟨W, hW⟩ : ∃ W, w2.setCell ⟨A.q, 4, none⟩ (.int .i64 (wrap64 (s.steps + 1))) = W := ⟨_, rfl⟩
        rw [hW] at hR3 ho3 hm1 ⊢
        clear hW c4 f4 hR hR2 ho ho2 hcon hhas h
        obtain ⟨c0, c1, c2, c3, c4⟩ := hR3.cells
        have hn2 := hR3.n2
        have hkey := key_of k (by have : k < s.n := hk; have : s.n ≤ 4096 := hn2; omega)
        have hhas := hm3.has_ k hk
        have hm0 := hm1
        have hRW := hR3
        cases ho : (s.old k).isSome with
        | true =>
          have ho' : ({ s.asked.spent with steps := wrap64 (s.steps + 1) } : PS).old k = s.old k := rfl
          rw [ho', ho] at hhas
          have HFIN : Hid (O = s.old) := by show _ = _; rw [← HO.out, ho]; rfl
          clear ho' ho
          go_upto_region 12 with (first
            | (at_lookup; refine wpList_lookup_own_ok _ rfl (.tmp 31) (.tmp 32) 131 rfl 3 135 keyed3 Tryz.underlying131 secR (zero107 _) (.lit (.string (zeros 256).data.toList)) [] (secR_mk size_zero256) A.m km D rfl hm1 _ (kl k) rfl hkey ?_; intro v ps hv; obtain ⟨b0, hb0, rfl, _⟩ := secR_inv hv; clear hv)
            | (refine wpList_store_mid rfl 135 (.tmp 7) (.tmp 34) rfl W.heap.size 0 (strCells b0).toArray rfl rfl (by rw [size_strCells hb0]; exact there_new W) (by rw [size135, size_strCells hb0]) (all_strCells b0) ?_))
          have hbel4 : Below W.heap.size W ((W.alloc (.cells Tryz.zeroCells135 135)).setCells W.heap.size 0 (strCells b0)) := below_setCells (Nat.le_refl _) _ _ _ ((Below.refl _ _).alloc (Nat.le_refl _) _)
          have hR4 := hRW.below hbel4
          have ho4 := ho3.trans (Off.of_below (F := A.F) hbel4)
          obtain ⟨W4, hW4⟩ : ∃ W4, (W.alloc (.cells Tryz.zeroCells135 135)).setCells W.heap.size 0 (strCells b0) = W4 := ⟨_, rfl⟩
          rw [hW4] at hR4 ho4 ⊢
          clear hW4 hbel4 hRW hR3 ho3 hm1 hm0 c0 c1 c2 c3 c4 hhas hm2 hm3
          have hlen : 256 ≤ b.size := by have := H3.out; omega
          have hth := hR4.sec.there (i := k) hk
          have hgl := hR4.sec.lt
          have c0 : W4.cell? ⟨A.q, 0, none⟩ = some (.slice (some ⟨A.g, 0, none⟩) s.n s.n) := hR4.cells.1
          have hR5 := hR4.setSec (i := k) hk H3.out
          have ho5 := Off.setCells (F := A.F) (B := A.g) (.inl (.inr (.inr (.inl rfl)))) (strCells b) (k * 256) _ ho4
          go_wp2_with (refine wpList_copy_long rfl (.tmp 56) (.tmp 57) 81 9 rfl 5 Tryz.underlying81 sizeOf5 A.g (k * 256) 256 256 rfl b rfl hlen hth ?_; rw [extract_all H3.out])
          go_ret
          exact ⟨rfl, by rw [HFIN.out]; exact hR5, ho5⟩
        | false =>
          have ho' : ({ s.asked.spent with steps := wrap64 (s.steps + 1) } : PS).old k = s.old k := rfl
          rw [ho', ho] at hhas
          have HFIN : Hid (O = upd s.old k (some (s.now k))) := by show _ = _; rw [← HO.out, ho]; rfl
          clear ho' ho
          go_upto_region 11 with (first
            | (at_lookup; refine wpList_lookup_own_ok _ rfl (.tmp 31) (.tmp 32) 131 rfl 3 135 keyed3 Tryz.underlying131 secR (zero107 _) (.lit (.string (zeros 256).data.toList)) [] (secR_mk size_zero256) A.m km D rfl hm1 _ (kl k) rfl hkey ?_; intro v ps hv; obtain ⟨b0, hb0, rfl, _⟩ := secR_inv hv; clear hv)
            | (refine wpList_store_mid rfl 135 (.tmp 7) (.tmp 34) rfl W.heap.size 0 (strCells b0).toArray rfl rfl (by rw [size_strCells hb0]; exact there_new W) (by rw [size135, size_strCells hb0]) (all_strCells b0) ?_))
          have hbel4 : Below W.heap.size W ((W.alloc (.cells Tryz.zeroCells135 135)).setCells W.heap.size 0 (strCells b0)) := below_setCells (Nat.le_refl _) _ _ _ ((Below.refl _ _).alloc (Nat.le_refl _) _)
          have hR4 := hRW.below hbel4
          have ho4 := ho3.trans (Off.of_below (F := A.F) hbel4)
          have hm41 := map_off hm1 (Off.of_below (F := fun _ => False) hbel4) (fun h => h)
          obtain ⟨W4, hW4⟩ : ∃ W4, (W.alloc (.cells Tryz.zeroCells135 135)).setCells W.heap.size 0 (strCells b0) = W4 := ⟨_, rfl⟩
          rw [hW4] at hR4 ho4 hm41 ⊢
          clear hW4 hbel4 hRW hR3 ho3 hm1 hm0 c0 c1 c2 c3 c4 hhas
          have hnk : (s.now k).size = 256 := hR4.sec.size k hk
          have hd4 := hR4.below ((Below.refl _ W4).drew)
          have hrg : W4.rangeAt A.g (k * 256) (strCells (s.now k)) := hR4.sec.at_ k hk
          have hu7 := Tryz.underlying135
          have hi7 : (Tryz.prog.info? 135).map (·.size) = some (strCells (s.now k)).length := by rw [size135, strCells_length, hnk]
          obtain ⟨w5, hup, hm5, hg5⟩ := (hm41.drew).update keyed3 Tryz.underlying131 (val := secV (s.now k)) (by unfold maxLen; omega) hkey (secR_mk hnk)
          have ho6 : Off (fun x => x = A.m) W4.drew w5 := (Off.refl _ _).grown hg5 (fun j hj => .inl (by cases hj; rfl))
          have hR5 : PD w5 base A { s.asked.spent with steps := wrap64 (s.steps + 1), old := upd s.old k (some (s.now k)) } := by
            obtain ⟨a1, a2, a3, a4, a5, a6⟩ := hd4.apart
            refine ⟨hd4.le, hd4.blkP.off ho6 (Ne.symm a5), hd4.blkQ.off ho6 (Ne.symm a3), hd4.sec.off ho6 (Ne.symm a6), ⟨s.n, _, map_tight hm5 (MapIs.put hm3 hm41.isMap hk hnk), hd4.n2, MapIs.put hm3 hm41.isMap hk hnk⟩, hd4.n1, hd4.n2⟩
          have ho5 : Off A.F w0 w5 := (ho4.drew).trans (ho6.mono (fun x _ hx => .inr (.inr (.inr hx))))
          have hup' : (Instr.mapUpdate 131 (.map (some A.m)) (.int .i64 (k : Int)) (.agg (strCells (s.now k)).toArray)).run Tryz.prog W4.drew = .ok () w5 := hup
          have hrg5 : w5.rangeAt A.g (k * 256) (strCells (s.now k)) := hR5.sec.at_ k hk
          have d0 : w5.cell? ⟨A.q, 0, none⟩ = some (.slice (some ⟨A.g, 0, none⟩) s.n s.n) := hR5.cells.1
          have d1 : w5.cell? ⟨A.q, 1, none⟩ = some (.map (some A.m)) := hR5.cells.2.1
          clear hm5 hg5 ho6 hup
          have hgl := hR4.sec.lt
          have c0 : W4.cell? ⟨A.q, 0, none⟩ = some (.slice (some ⟨A.g, 0, none⟩) s.n s.n) := hR4.cells.1
          have c1 : W4.cell? ⟨A.q, 1, none⟩ = some (.map (some A.m)) := hR4.cells.2.1
          go_region_held3 (fun W' => W'.cell? ⟨A.q, 0, none⟩ = some (.slice (some ⟨A.g, 0, none⟩) s.n s.n) ∧ W'.cell? ⟨A.q, 1, none⟩ = some (.map (some A.m)) ∧ W'.rangeAt A.g (k * 256) (strCells (s.now k)))
            (first
              | exact ⟨d0, d1, hrg5⟩
              | exact ⟨c0, c1, hrg⟩
              | go_keep)
            (fail)
          have hlen : 256 ≤ b.size := by have := H3.out; omega
          have hth := hR5.sec.there (i := k) hk
          have hgl5 := hR5.sec.lt
          have hR7 := hR5.setSec (i := k) hk H3.out
          have ho7 := Off.setCells (F := A.F) (B := A.g) (.inl (.inr (.inr (.inl rfl)))) (strCells b) (k * 256) _ ho5
          clear c0 c1 hup' hrg hrg5 hR4 hd4 hm41
          go_wp2_with (refine wpList_copy_long rfl (.tmp 56) (.tmp 57) 81 9 rfl 5 Tryz.underlying81 sizeOf5 A.g (k * 256) 256 256 rfl b rfl hlen hth ?_; rw [extract_all H3.out])
          go_ret
          exact ⟨rfl, by rw [HFIN.out]; exact hR7, ho7⟩
    · have t3 : ((b.size : Int) != 256) = true := by simp; omega
      have e : s.write k b = (2, s) := by unfold PS.write; rw [if_neg h1, if_pos (by omega)]
      rw [e]
      clear h1 e
      go_enter Tryz.func149, Tryz.ntmps149
      go_wp2_with (go_at_call 164; refine hhas.mono ?_; rintro e w1 ⟨rfl, rfl⟩)
      go_ret
      exact ⟨rfl, h, Off.refl _ _⟩
end Go.Proofs.YtdgbgmffpcooeaaGreat
end
