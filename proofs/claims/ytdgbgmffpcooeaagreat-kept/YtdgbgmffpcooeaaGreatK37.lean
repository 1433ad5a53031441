/- Op3 Op4 Op5 -/
import Derived.Test.YtdgbgmffpcooeaaGreatK36
import Derived.Test.YtdgbgmffpcooeaaGreatK32
section
/- A tree is looked through. -/
namespace Go.Proofs.YtdgbgmffpcooeaaGreat
open Go.RowKit Go.Lib
theorem lookF_succ (M : Nat → Option (Node Box)) (N f : Nat) (ss : SS) (sec : Nat) : lookF M N (f + 1) ss sec = if N ≤ sec ∨ ss.seen sec = true then none else
    match M sec with
    | none => none
    | some (.leaf r) => if klt ss.last (Node.leaf (V := Box) r).fk then some (.leaf r, 1, ⟨upd2 ss.seen sec true, lastK r⟩) else none
    | some (.branch r) => (underF (lookF M N f) r none ⟨upd2 ss.seen sec true, ss.last⟩).bind fun x => some (.branch r, x.1 + 1, x.2) := by
  conv => lhs; unfold lookF
  by_cases h : N ≤ sec ∨ ss.seen sec = true
  · rw [if_pos h, if_pos h]
  · rw [if_neg h, if_neg h]
    cases M sec with
    | none => rfl
    | some n => cases n <;> rfl
theorem under_h {gg : SS → Nat → Option (Node Box × Nat × SS)} {f : Nat} (hg : ∀ s sec n h s', gg s sec = some (n, h, s') → h ≤ f) : ∀ (r : List (Key × Nat)) (ho : Option Nat) (ss : SS) (h : Nat) (ss' : SS), (∀ k, ho = some k → k ≤ f) → underF gg r ho ss = some (h, ss') → h ≤ f
  | [], ho, ss, h, ss', hk, e => by
    simp only [underF, Option.some.injEq, Prod.mk.injEq] at e
    obtain ⟨rfl, _⟩ := e
    cases ho with
    | none => simp
    | some k => exact hk k rfl
  | c :: r, ho, ss, h, ss', hk, e => by
    simp only [underF] at e
    cases hx : gg ss c.2 with
    | none => rw [hx] at e; cases e
    | some x =>
      rw [hx, Option.bind_some] at e
      split at e
      · cases e
      · exact under_h hg r (some x.2.1) x.2.2 h ss' (fun k ek => by cases ek; exact hg ss c.2 x.1 x.2.1 x.2.2 hx) e
theorem look_h {M : Nat → Option (Node Box)} {N : Nat} : ∀ (f : Nat) (s : SS) (sec : Nat) (n : Node Box) (h : Nat) (s' : SS), lookF M N f s sec = some (n, h, s') → h ≤ f
  | 0, _, _, _, _, _, e => by cases e
  | f + 1, s, sec, n, h, s', e => by
    rw [lookF_succ] at e
    split at e
    · cases e
    · split at e
      · cases e
      · split at e
        · simp only [Option.some.injEq, Prod.mk.injEq] at e
          obtain ⟨_, rfl, _⟩ := e
          omega
        · cases e
      · rename_i r _
        cases hu : underF (lookF M N f) r none ⟨upd2 s.seen sec true, s.last⟩ with
        | none => rw [hu] at e; cases e
        | some x =>
          rw [hu, Option.bind_some] at e
          simp only [Option.some.injEq, Prod.mk.injEq] at e
          obtain ⟨_, rfl, _⟩ := e
          have := under_h (fun s sec n h s' => look_h f s sec n h s') r none _ x.1 x.2 (fun k e => by cases e) hu
          omega
set_option maxRecDepth 100000 in
set_option maxHeartbeats 4000000 in
theorem look_any (base : Nat) (A : PA) (s : PS) (t : Nat) (f : Value) (sb g : Nat) (hs : s.brk = false) : ∀ (fu : Nat) (ss : SS) (sec : Nat) (W : World) (r : Nat), unseen s.n ss < fu → fu ≤ 5000 → Sv W base A s t f sb g ss r → Calls Tryz.prog 101 #[.pointer (some ⟨sb, 0, none⟩), .int .i64 (sec : Int)] W (LookP base A s t f sb g (lookF (nodesN s) s.n fu ss sec) W)
  | 0, ss, sec, W, r, hu, _, _ => by omega
  | fu + 1, ss, sec, W, r, hu, hfu, hS => by
    have ih := look_any base A s t f sb g hs fu
    have s0 : W.cell? ⟨sb, 0, none⟩ = some (.pointer (some ⟨t, 0, none⟩)) := hS.blk.cell 0
    have s1 : W.cell? ⟨sb, 1, none⟩ = some (.slice (some ⟨g, 0, none⟩) s.n s.n) := hS.blk.cell 1
    have hn2 : s.n ≤ 4096 := hS.pd.n2
    obtain ⟨R, hR⟩ : ∃ R, lookF (nodesN s) s.n (fu + 1) ss sec = R := ⟨_, rfl⟩
    rw [hR]
    rw [lookF_succ] at hR
    by_cases hN : s.n ≤ sec
    · rw [if_pos (.inl hN)] at hR
      subst hR
      have hN' : (s.n : Int) ≤ (sec : Int) := by omega
      have HS : Hid _ := hS
      clear hS ih
      go_enter Tryz.func101, Tryz.ntmps101
      go_wp2
      refine bodyPost_ret (v := .tuple #[.nilIface, .int .i64 0, .int .i64 7]) (by simp [results, Tryz.results101, go_sem]) rfl ?_
      exact ⟨Off.refl _ _, rfl, ss, r, HS.out⟩
    · have hN' : ¬ ((s.n : Int) ≤ (sec : Int)) := by omega
      have hNl : sec < s.n := by omega
      obtain ⟨sc, sf⟩ := hS.seen.cell hNl
      cases hse : ss.seen sec with
      | true =>
        rw [hse] at sc
        rw [if_pos (.inr hse)] at hR
        subst hR
        have HS : Hid _ := hS
        clear hS ih
        go_enter Tryz.func101, Tryz.ntmps101
        go_wp2
        refine bodyPost_ret (v := .tuple #[.nilIface, .int .i64 0, .int .i64 7]) (by simp [results, Tryz.results101, go_sem]) rfl ?_
        exact ⟨Off.refl _ _, rfl, ss, r, HS.out⟩
      | false =>
        rw [hse] at sc
        rw [if_neg (by rintro (h | h); exact hN h; rw [hse] at h; cases h)] at hR
        obtain ⟨W1, hW1⟩ : ∃ W1, W.setCell ⟨g, sec, none⟩ (.bool true) = W1 := ⟨_, rfl⟩
        have oW1 : Off (fun k => k = g) W W1 := by rw [← hW1]; exact Off.one W _
        have hgA : ¬ A.F g := fun hf => by
          obtain ⟨cur, hb, _⟩ := hS.seen
          exact hS.pd.notTag hf (show Blk W g 4 cur from hb) (by decide) (by decide) (by decide)
        have hgt : t ≠ g := fun e => by
          obtain ⟨cur, hb, _⟩ := hS.seen
          have h' : W.heap[t]? = _ := hS.tr
          rw [e, hb] at h'; simp at h'
        have hgs : sb ≠ g := fun e => by
          obtain ⟨cur, hb, _⟩ := hS.seen
          have h' : W.heap[sb]? = _ := hS.blk
          rw [e, hb] at h'; simp at h'
        have hsbA : ¬ A.F sb := fun hf => hS.pd.notTag hf hS.blk (by decide) (by decide) (by decide)
        have hS1 : Sv W1 base A s t f sb g ⟨upd2 ss.seen sec true, ss.last⟩ r := ⟨hS.pd.off oW1 (fun k hk e => hgA (e ▸ hk)), (oW1.block t hS.tr.lt hgt).trans hS.tr, (oW1.block sb hS.blk.lt hgs).trans hS.blk, by rw [← hW1]; exact hS.seen.set hNl⟩
        have hu1 : unseen s.n ⟨upd2 ss.seen sec true, ss.last⟩ < fu := by have := unseen_upd (a := ss) (l := ss.last) hNl hse; omega
        have oS1 : Off (SvF A sb g) W W1 := oW1.mono (fun k _ h => .inr (.inr h))
        have hread := tread_live W1 base A (s.at_ r) hS1.pd t f hS1.tr hs sec hNl
        have HW1 : Hid (W.setCell ⟨g, sec, none⟩ (.bool true) = W1) := hW1
        have t0 : W1.cell? ⟨sb, 0, none⟩ = some (.pointer (some ⟨t, 0, none⟩)) := hS1.blk.cell 0
        have HSV : Hid (∀ W2, Off A.F W1 W2 → PD W2 base A (s.at_ (r + 1)) → Sv W2 base A s t f sb g ⟨upd2 ss.seen sec true, ss.last⟩ (r + 1)) := fun W2 o2 p2 => ⟨p2, (o2.block t hS1.tr.lt (hS1.pd.nott' hS1.tr)).trans hS1.tr, (o2.block sb hS1.blk.lt hsbA).trans hS1.blk, hS1.seen.off o2 hgA⟩
        have HOS : Hid (∀ W2, Off A.F W1 W2 → Off (SvF A sb g) W W2) := fun W2 o2 => oS1.trans (o2.mono (fun k _ h => .inl h))
        have hnd : nodesN s sec = nodesOf s sec := by unfold nodesN; rw [if_pos hNl]
        rw [hnd] at hR
        have hnn : nodesOf (s.at_ r) sec = nodesOf s sec := rfl
        clear hS hS1 oW1 oS1 hW1 hgA hgt hgs
        cases hno : nodesOf s sec with
        | none =>
          rw [hno] at hR
          simp only at hR
          subst hR
          have hread2 : Calls Tryz.prog 130 #[.pointer (some ⟨t, 0, none⟩), .int .i64 (sec : Int)] W1 fun e w' => e = .returned (.tuple #[.nilIface, .int .i64 7]) ∧ PD w' base A (s.at_ (r + 1)) ∧ Off A.F W1 w' := by
            refine hread.mono ?_
            rintro e w' ⟨hrd, hp, ho⟩
            rw [PS.at_adv] at hp
            rcases hrd with ⟨v, nd, g1, _⟩ | ⟨_, g2⟩
            · rw [hnn, hno] at g1; cases g1
            · exact ⟨g2, hp, ho⟩
          clear hread ih
          go_enter Tryz.func101, Tryz.ntmps101
          go_upto_region 4 with fail
          rw [HW1.out]
          go_wp2_with (go_at_call 130; refine hread2.mono ?_; rintro e w2 ⟨rfl, p2, o2⟩)
          refine bodyPost_ret (v := .tuple #[.nilIface, .int .i64 0, .int .i64 7]) (by simp [results, Tryz.results101, go_sem]) rfl ?_
          exact ⟨HOS.out w2 o2, rfl, _, _, HSV.out w2 o2 p2⟩
        | some nd =>
          have hst : Stands nd := (nodeOf_some hno).1
          have hread2 : Calls Tryz.prog 130 #[.pointer (some ⟨t, 0, none⟩), .int .i64 (sec : Int)] W1 fun e w' => ∃ v, e = .returned (.tuple #[v, .int .i64 0]) ∧ NodeV w' v nd ∧ PD w' base A (s.at_ (r + 1)) ∧ Off A.F W1 w' := by
            refine hread.mono ?_
            rintro e w' ⟨hrd, hp, ho⟩
            rw [PS.at_adv] at hp
            rcases hrd with ⟨v, nd', g1, g2, g3, _⟩ | ⟨g1, _⟩
            · rw [hnn, hno] at g1; cases g1; exact ⟨v, g2, g3, hp, ho⟩
            · rw [hnn, hno] at g1; cases g1
          rw [hno] at hR
          clear hread hnn hnd
          cases nd with
          | leaf q =>
            simp only at hR
            have hl1 : 1 ≤ q.length := hst.1
            have hl2 : q.length ≤ 10 := hst.2.1
            have hta := ta_ll
            obtain ⟨x0, q', hq⟩ : ∃ x0 q', q = x0 :: q' := by
              cases q with
              | nil => simp at hl1
              | cons x0 q' => exact ⟨x0, q', rfl⟩
            obtain ⟨xl, hxl⟩ : ∃ xl, q[q.length - 1]? = some xl := ⟨_, List.getElem?_eq_getElem (by omega)⟩
            have hlk : lastK q = xl.1 := by
              unfold lastK
              rw [List.getLast?_eq_getElem?, hxl]; rfl
            have hfk : (Node.leaf (V := Box) q).fk = x0.1 := by rw [hq]; rfl
            rw [hlk, hfk] at hR
            have HST : Hid (Stands (.leaf q)) := hst
            have HQ : Hid (q = x0 :: q') := hq
            have HXL : Hid (q[q.length - 1]? = some xl) := hxl
            clear ih hlk hfk hst hq hxl
            go_enter Tryz.func101, Tryz.ntmps101
            go_upto_region 4 with fail
            rw [HW1.out]
            go_upto_region 9 with (go_at_call 130; refine hread2.mono ?_; rintro e w2 ⟨v2, rfl, nv2, p2, o2⟩)
            obtain ⟨sl, rfl, hrow⟩ := nv2
            obtain ⟨b, o, c, rfl, hlc, _, _, _, _⟩ := Row.form pkR hrow (by omega)
            go_upto_region 11 with fail
            obtain ⟨W3, hW3⟩ : ∃ W3, w2.alloc (.cells #[.slice (some ⟨b, o, none⟩) q.length c] 191) = W3 := ⟨_, rfl⟩
            have hb3 : Below w2.heap.size w2 W3 := by rw [← hW3]; exact (Below.refl _ w2).alloc (Nat.le_refl _) _
            have B3 : Blk W3 w2.heap.size 191 #[.slice (some ⟨b, o, none⟩) q.length c] := by rw [← hW3]; exact Blk.new w2 191 _
            have hS3 := (HSV.out w2 o2 p2).below hb3
            have hO3 : Off (SvF A sb g) W W3 := (HOS.out w2 o2).trans (Off.of_below hb3)
            have hrow3 : RowR W3 (.slice (some ⟨b, o, none⟩) q.length c) q := hrow.below pkR hb3
            rw [hW3]
            have l0 : W3.cell? ⟨w2.heap.size, 0, none⟩ = some (.slice (some ⟨b, o, none⟩) q.length c) := B3.cell 0
            have u2 : W3.cell? ⟨sb, 2, none⟩ = some (.int .i64 ss.last.1) := hS3.blk.cell 2
            have u3 : W3.cell? ⟨sb, 3, none⟩ = some (.int .i64 ss.last.2) := hS3.blk.cell 3
            have hsbl := hS3.blk.lt
            have hB3l := B3.lt
            have KEEP : Hid (∀ X, Below W3.heap.size W3 X → X.cell? ⟨w2.heap.size, 0, none⟩ = some (.slice (some ⟨b, o, none⟩) q.length c) ∧ X.cell? ⟨sb, 2, none⟩ = some (.int .i64 ss.last.1) ∧ X.cell? ⟨sb, 3, none⟩ = some (.int .i64 ss.last.2)) := fun X hX => ⟨(hX.cell (p := ⟨w2.heap.size, 0, none⟩) hB3l).trans l0, (hX.cell (p := ⟨sb, 2, none⟩) hsbl).trans u2, (hX.cell (p := ⟨sb, 3, none⟩) hsbl).trans u3⟩
            have HFI : Hid (∀ X, Below W3.heap.size W3 X → Calls Tryz.prog 131 #[.slice (some ⟨b, o, none⟩) q.length c] X fun e w' => e = .returned (keyV x0.1) ∧ Below X.heap.size X w') := fun X hX => firstR_any X _ q (hrow3.below pkR hX) x0 q' HQ.out
            have HLA : Hid (∀ X, Below W3.heap.size W3 X → Calls Tryz.prog 132 #[.slice (some ⟨b, o, none⟩) q.length c] X fun e w' => e = .returned (keyV xl.1) ∧ Below X.heap.size X w') := fun X hX => lastR_any X _ q (hrow3.below pkR hX) (q.length - 1) (by omega) xl HXL.out
            have hdr : Below W3.heap.size W3 W3.drew := (Below.refl _ W3).drew
            have hfi := HFI.out _ hdr
            have HS3 : Hid (Sv W3 base A s t f sb g ⟨upd2 ss.seen sec true, ss.last⟩ (r + 1)) := hS3
            have HO3 : Hid (Off (SvF A sb g) W W3) := hO3
            have HRW3 : Hid (RowR W3 (.slice (some ⟨b, o, none⟩) q.length c) q) := hrow3
            clear hW3 hS3 hO3 hrow3 hb3 B3 hrow p2 o2 hread2 HSV HOS HW1 t0 s0 s1 sc sf HFI
            go_region_held3 (fun W' => W'.cell? ⟨w2.heap.size, 0, none⟩ = some (.slice (some ⟨b, o, none⟩) q.length c) ∧ W'.cell? ⟨sb, 2, none⟩ = some (.int .i64 ss.last.1) ∧ W'.cell? ⟨sb, 3, none⟩ = some (.int .i64 ss.last.2))
              (first
                | exact ⟨l0, u2, u3⟩
                | exact KEEP.out _ hb6
                | exact KEEP.out _ hb5
                | go_keep)
              (first
                | (go_at_call 131; refine hfi.mono ?_; rintro e w5 ⟨rfl, hb5'⟩; have hb5 := hdr.trans hb5'; have hcm := kcmp_any x0.1 ss.last w5)
                | (go_at_call 104; refine hcm.mono ?_; rintro e w6 ⟨rfl, hb6'⟩; have hb6 := hb5.trans (hb6'.mono hb5.size)))
            obtain ⟨y0, y1, y2⟩ := KEEP.out w6 hb6
            have hS6 := HS3.out.below hb6
            have hO6 : Off (SvF A sb g) W w6 := HO3.out.trans (Off.of_below hb6)
            have hrow6 := HRW3.out.below pkR hb6
            by_cases hkl : klt ss.last x0.1
            · have hcp : ¬ (cmpK x0.1 ss.last ≤ 0) := fun hle => by
                by_cases h0 : cmpK x0.1 ss.last = 0
                · rw [cmpK_zero] at h0; rw [h0] at hkl; exact klt_irrefl _ hkl
                · exact klt_asymm hkl ((cmpK_neg _ _).1 (by omega))
              rw [if_pos hkl] at hR
              subst hR
              have hla := HLA.out w6 hb6
              have HS6 : Hid (Sv w6 base A s t f sb g ⟨upd2 ss.seen sec true, ss.last⟩ (r + 1)) := hS6
              have HO6 : Hid (Off (SvF A sb g) W w6) := hO6
              have HR6 : Hid (RowR w6 (.slice (some ⟨b, o, none⟩) q.length c) q) := hrow6
              have hsb6 := hS6.blk.lt
              clear hS6 hO6 hrow6 HLA KEEP l0 u2 u3 hfi hcm
              go_upto_region 17 with (go_at_call 132; refine hla.mono ?_; rintro e w7 ⟨rfl, hb7⟩; have B7 : Blk w7 sb 173 _ := (hb7.block sb hsb6).trans HS6.out.blk; have z2 : w7.cell? ⟨sb, 2, none⟩ = some (.int .i64 ss.last.1) := B7.cell 2; have z3 : w7.cell? ⟨sb, 3, none⟩ = some (.int .i64 ss.last.2) := B7.cell 3; have f2 : w7.frozen? ⟨sb, 2, none⟩ = false := B7.frozen 2; have f3 : w7.frozen? ⟨sb, 3, none⟩ = false := B7.frozen 3)
              obtain ⟨W8, hW8⟩ : ∃ W8, (w7.setCell ⟨sb, 2, none⟩ (.int .i64 xl.1.1)).setCell ⟨sb, 3, none⟩ (.int .i64 xl.1.2) = W8 := ⟨_, rfl⟩
              have o8 : Off (fun k => k = sb) w7 W8 := by rw [← hW8]; exact ((Off.refl (fun k => k = sb) w7).setCell _ (.inl rfl)).setCell _ (.inl rfl)
              have hS7 := HS6.out.below hb7
              have B8 : Blk W8 sb 173 #[.pointer (some ⟨t, 0, none⟩), .slice (some ⟨g, 0, none⟩) s.n s.n, .int .i64 xl.1.1, .int .i64 xl.1.2] := by rw [← hW8]; exact (hS7.blk.set 2 _).set 3 _
              have hgs : g ≠ sb := fun e => by
                obtain ⟨cur, hb, _⟩ := hS7.seen
                have h' : w7.heap[sb]? = _ := hS7.blk
                rw [← e, hb] at h'; simp at h'
              have hts : t ≠ sb := fun e => by
                have h1 : w7.heap[t]? = _ := hS7.tr
                have h' : w7.heap[sb]? = _ := hS7.blk
                rw [← e, h1] at h'; simp at h'
              have hS8 : Sv W8 base A s t f sb g ⟨upd2 ss.seen sec true, xl.1⟩ (r + 1) := ⟨hS7.pd.off o8 (fun k hk e => hsbA (e ▸ hk)), (o8.block t hS7.tr.lt hts).trans hS7.tr, B8, hS7.seen.off o8 hgs⟩
              have hO8 : Off (SvF A sb g) W W8 := (HO6.out.trans (Off.of_below hb7)).trans (o8.mono (fun k _ h => .inr (.inl h)))
              have hrow8 : RowR W8 (.slice (some ⟨b, o, none⟩) q.length c) q := (HR6.out.below pkR hb7).off pkR o8 (fun k hk ht => by
                have hk' : k = sb := hk
                subst hk'
                obtain ⟨cs, ht⟩ := ht
                have h' : w7.heap[k]? = _ := hS7.blk
                rw [h'] at ht; simp [pkR] at ht)
              rw [hW8]
              clear hW8 hla B7 z2 z3 f2 f3
              go_wp2
              refine bodyPost_ret (v := .tuple #[.iface 191 (.agg #[.slice (some ⟨b, o, none⟩) q.length c]), .int .i64 1, .int .i64 0]) (by simp [results, Tryz.results101, go_sem]) rfl ?_
              exact ⟨hO8, _, r + 1, rfl, ⟨_, rfl, hrow8⟩, HST.out, hS8⟩
            · have hcp : cmpK x0.1 ss.last ≤ 0 := by
                by_cases h0 : x0.1 = ss.last
                · rw [(cmpK_zero _ _).2 h0]; omega
                · have := (cmpK_neg x0.1 ss.last).2 (klt_of_not hkl (Ne.symm h0))
                  omega
              rw [if_neg hkl] at hR
              subst hR
              have HS6 : Hid (Sv w6 base A s t f sb g ⟨upd2 ss.seen sec true, ss.last⟩ (r + 1)) := hS6
              have HO6 : Hid (Off (SvF A sb g) W w6) := hO6
              clear hS6 hO6 hrow6 HLA KEEP l0 u2 u3 hfi hcm
              go_wp2
              refine bodyPost_ret (v := .tuple #[.nilIface, .int .i64 0, .int .i64 7]) (by simp [results, Tryz.results101, go_sem]) rfl ?_
              exact ⟨HO6.out, rfl, _, _, HS6.out⟩
          | branch q =>
            simp only at hR
            have hl1 : 2 ≤ q.length := hst.1
            have hl2 : q.length ≤ 14 := hst.2.1
            have hta := ta_lb
            have htb := ta_bb
            have HST : Hid (Stands (.branch q)) := hst
            have HUN : Hid (∀ X, Sv X base A s t f sb g ⟨upd2 ss.seen sec true, ss.last⟩ (r + 1) → ∀ v, RowS X v q → Calls Tryz.prog 133 #[.pointer (some ⟨sb, 0, none⟩), .agg #[v]] X (UnderP base A s t f sb g (underF (lookF (nodesN s) s.n fu) q none ⟨upd2 ss.seen sec true, ss.last⟩) X)) := fun X hX v hv => under_look base A s t f sb g fu (fun ss' sec' W' r' h1 h2 => ih ss' sec' W' r' h1 (by omega) h2) X _ (r + 1) hX hu1 v q hv ⟨by omega, hl2⟩
            have hh : ∀ h ss', underF (lookF (nodesN s) s.n fu) q none ⟨upd2 ss.seen sec true, ss.last⟩ = some (h, ss') → h ≤ fu := fun h ss' e => under_h (fun s' sec' n' h' s'' => look_h fu s' sec' n' h' s'') q none _ h ss' (fun k e => by cases e) e
            clear ih hst
            go_enter Tryz.func101, Tryz.ntmps101
            go_upto_region 4 with fail
            rw [HW1.out]
            go_upto_region 9 with (go_at_call 130; refine hread2.mono ?_; rintro e w2 ⟨v2, rfl, nv2, p2, o2⟩)
            obtain ⟨sl, rfl, hrow⟩ := nv2
            obtain ⟨b, o, c, rfl, hlc, _, _, _, _⟩ := Row.form pkS hrow (by omega)
            go_upto_region 16 with fail
            obtain ⟨W3, hW3⟩ : ∃ W3, w2.alloc (.cells #[.slice (some ⟨b, o, none⟩) q.length c] 214) = W3 := ⟨_, rfl⟩
            have hb3 : Below w2.heap.size w2 W3 := by rw [← hW3]; exact (Below.refl _ w2).alloc (Nat.le_refl _) _
            have B3 : Blk W3 w2.heap.size 214 #[.slice (some ⟨b, o, none⟩) q.length c] := by rw [← hW3]; exact Blk.new w2 214 _
            have hS3 := (HSV.out w2 o2 p2).below hb3
            have hO3 : Off (SvF A sb g) W W3 := (HOS.out w2 o2).trans (Off.of_below hb3)
            have hrow3 : RowS W3 (.slice (some ⟨b, o, none⟩) q.length c) q := hrow.below pkS hb3
            rw [hW3]
            have l0 : W3.cell? ⟨w2.heap.size, 0, none⟩ = some (.slice (some ⟨b, o, none⟩) q.length c) := B3.cell 0
            have hcall := HUN.out W3 hS3 _ hrow3
            have HNR : Hid _ := hS3.norow
            have HO3 : Hid (Off (SvF A sb g) W W3) := hO3
            have HRW3 : Hid (RowS W3 (.slice (some ⟨b, o, none⟩) q.length c) q) := hrow3
            clear hW3 hS3 hO3 hrow3 hb3 B3 hrow p2 o2 hread2 HSV HOS HW1 t0 s0 s1 sc sf HUN
            cases hun : underF (lookF (nodesN s) s.n fu) q none ⟨upd2 ss.seen sec true, ss.last⟩ with
            | none =>
              rw [hun] at hcall hR
              simp only [Option.bind_none] at hR
              subst hR
              clear hh hun
              go_wp2_with (go_at_call 133; refine hcall.mono ?_; rintro e w4 ⟨o4, rfl, ss4, r4, hS4⟩)
              refine bodyPost_ret (v := .tuple #[.nilIface, .int .i64 0, .int .i64 7]) (by simp [results, Tryz.results101, go_sem]) rfl ?_
              exact ⟨HO3.out.trans o4, rfl, ss4, r4, hS4⟩
            | some y =>
              have hhy := hh y.1 y.2 hun
              rw [hun] at hcall hR
              simp only [Option.bind_some] at hR
              subst hR
              obtain ⟨h, ss4⟩ := y
              simp only at hhy
              clear hh hun
              go_wp2_with (go_at_call 133; refine hcall.mono ?_; rintro e w4 ⟨o4, r4, rfl, hS4⟩)
              refine bodyPost_ret (v := .tuple #[.iface 214 (.agg #[.slice (some ⟨b, o, none⟩) q.length c]), .int .i64 ((h : Int) + 1), .int .i64 0]) (by simp [results, Tryz.results101, go_sem]) rfl ?_
              exact ⟨HO3.out.trans o4, _, r4, rfl, ⟨_, rfl, HRW3.out.off pkS o4 (fun k hk ht => HNR.out k hk (.inr ht))⟩, HST.out, hS4⟩
end Go.Proofs.YtdgbgmffpcooeaaGreat
end
section
/- A tree is opened: plain facts. -/
namespace Go.Proofs.YtdgbgmffpcooeaaGreat
open Go.RowKit Go.Lib
def ss0 : SS := ⟨fun t => decide (t = 0), (0, -1)⟩
/-- Keys from the first one on. -/
def FromK (es : List (Key × Box)) : Prop := ∀ x ∈ es, klt (0, -1) x.1
theorem open_sound {s : PS} {root fu h : Nat} {n : Node Box} {ss' : SS} (hr : root ≠ 0) (hh : headOf (s.now 0).data.toList = some root) (e : lookF (nodesN s) s.n fu ss0 root = some (n, h, ss')) : ∃ es us, Tr s root es us ∧ FromK es ∧ ∀ t, ss'.seen t = (decide (t = 0) || decide (t ∈ us)) := by
  obtain ⟨k, es, u, _, hS⟩ := look_sound (stoutN s) fu ss0 root n h ss' e
  have hsz := (stoutN s).size hS.at_
  refine ⟨es, root :: u, ⟨hh, .inr ⟨hr, k, n, u, hS.at_, hS.tre, rfl, hsz.1, hsz.2, ?_⟩, hS.nd, fun t ht => ?_, hS.up.rise⟩, hS.up.from_, fun t => hS.seen t⟩
  · cases k with
    | zero => exact .inl rfl
    | succ k =>
      right
      obtain ⟨ks, e1, _⟩ := hS.tre
      have := hS.at_
      rw [e1] at this
      rw [e1]
      exact ((stoutN s).branch root _ this).1
  · obtain ⟨h1, h2⟩ := hS.new t ht
    have : t ≠ 0 := by simpa [ss0] using h1
    exact ⟨by omega, h2⟩
theorem open_full {s : PS} {root : Nat} {es : List (Key × Box)} {us : List Nat} (hT : Tr s root es us) (hk : FromK es) (hr : root ≠ 0) (hn : s.n ≤ 4096) : ∃ n h ss', lookF (nodesN s) s.n 5000 ss0 root = some (n, h, ss') := by
  have hl := hT.few hn
  rcases hT.wt with ⟨h0, _⟩ | ⟨_, h, nd, u, h1, h2, rfl, h3, h4, h5⟩
  · exact absurd h0 hr
  · have hhd := tre_head h2 (by omega)
    have hne : es ≠ [] := fun e => by rw [e] at hhd; cases hhd
    have hup : Up (V := Box) ss0.last es (lastK es) := by
      refine lastK_up hT.up hne ?_
      cases es with
      | nil => exact absurd rfl hne
      | cons x t => exact hk x List.mem_cons_self
    obtain ⟨s', e, _⟩ := look_full h 5000 ss0 root nd es u (lastK es) (by have := height_le h2 hl h5; omega) h1 h2 hT.nd (fun t ht => ⟨by have := (hT.ins t ht).1; simp [ss0]; omega, (hT.ins t ht).2⟩) hup hne
    exact ⟨nd, h + 1, s', e⟩
/-- The sectors that were not seen, from the last one down to this one. -/
def freeL (seen : Nat → Bool) (n m : Nat) : List Nat := ((List.range n).filter fun t => decide (m ≤ t) && !seen t).reverse
theorem freeL_end (seen : Nat → Bool) (n : Nat) : freeL seen n n = [] := by
  unfold freeL
  rw [List.filter_eq_nil_iff.2, List.reverse_nil]
  intro t ht
  have := List.mem_range.1 ht
  simp; omega
theorem freeL_step (seen : Nat → Bool) {n m : Nat} (hm : m < n) : freeL seen n m = freeL seen n (m + 1) ++ (if seen m = true then [] else [m]) := by
  unfold freeL
  have key : ∀ n, m < n → (List.range n).filter (fun t => decide (m ≤ t) && !seen t) = (if seen m = true then [] else [m]) ++ (List.range n).filter (fun t => decide (m + 1 ≤ t) && !seen t) := by
    intro n
    induction n with
    | zero => intro h; omega
    | succ n ih =>
      intro h
      rw [List.range_succ, List.filter_append, List.filter_append]
      by_cases e : m = n
      · subst e
        have e1 : (List.range m).filter (fun t => decide (m ≤ t) && !seen t) = [] := List.filter_eq_nil_iff.2 fun t ht => by have := List.mem_range.1 ht; simp; omega
        have e2 : (List.range m).filter (fun t => decide (m + 1 ≤ t) && !seen t) = [] := List.filter_eq_nil_iff.2 fun t ht => by have := List.mem_range.1 ht; simp; omega
        rw [e1, e2]
        cases hs : seen m <;> simp [hs]
      · have e3 : [n].filter (fun t => decide (m ≤ t) && !seen t) = [n].filter (fun t => decide (m + 1 ≤ t) && !seen t) := by simp only [List.filter_cons, List.filter_nil]; rw [decide_eq_true (show m ≤ n by omega), decide_eq_true (show m + 1 ≤ n by omega)]
        rw [ih (by omega), List.append_assoc, e3]
  rw [key n hm, List.reverse_append]
  cases seen m <;> simp
theorem freeL_frees {seen : Nat → Bool} {n : Nat} {us : List Nat} (h : ∀ t, seen t = (decide (t = 0) || decide (t ∈ us))) : Frees n us (freeL seen n 0) := by
  refine ⟨?_, fun t => ?_⟩
  · unfold freeL
    exact List.pairwise_reverse.2 ((List.Pairwise.filter _ List.nodup_range).imp fun h => Ne.symm h)
  · unfold freeL
    rw [List.mem_reverse, List.mem_filter, List.mem_range, h t]
    simp
    constructor
    · rintro ⟨a, b, c⟩; exact ⟨by omega, a, c⟩
    · rintro ⟨a, b, c⟩; exact ⟨b, by omega, c⟩
theorem freeL_len (seen : Nat → Bool) (n m : Nat) : (freeL seen n m).length ≤ n := by
  unfold freeL
  rw [List.length_reverse]
  exact Nat.le_trans (List.length_filter_le ..) (by simp)
end Go.Proofs.YtdgbgmffpcooeaaGreat
end
section
/- A tree is opened. -/
namespace Go.Proofs.YtdgbgmffpcooeaaGreat
open Go.RowKit Go.Lib
theorem infoB : (Tryz.prog.info? 4).map (fun i => (i.zero, i.size, i.bytes)) = some (some (.bool false), 1, 1) := by kernel_rfl
theorem sectors_any (w : World) (base : Nat) (A : PA) (s : PS) (h : PD w base A s) :
    Calls Tryz.prog 99 #[.pointer (some ⟨A.q, 0, none⟩)] w fun e w' => e = .returned (.int .i64 (s.n : Int)) ∧ w' = w := by
  obtain ⟨c0, c1, c2, c3, c4⟩ := h.cells
  go_enter Tryz.func99, Tryz.ntmps99
  go_wp2
  go_ret
  exact ⟨rfl, rfl⟩
/-- What Open of a tree leaves. -/
def OpenP (w : World) (base : Nat) (A : PA) (s : PS) (e : Ending) (w' : World) : Prop :=
  Off A.F w w' ∧ ((∃ T root es us f fr r, e = .returned (.tuple #[.pointer (some ⟨T, 0, none⟩), .int .i64 0]) ∧ Tr s root es us ∧ FromK es ∧ Frees s.n us fr ∧ PD w' base A (s.at_ r) ∧ TreeB w' T A f ∧ w'.ownsRow w.heap.size 3 1 f fr.length (secsV fr) ∧ w.heap.size ≤ T) ∨ (e = .returned (.tuple #[.pointer none, .int .i64 7]) ∧ (∀ root es us, Tr s root es us → ¬ FromK es) ∧ ∃ r, PD w' base A (s.at_ r)))
theorem Tr.root_eq {s : PS} {r1 r2 : Nat} {es : List (Key × Box)} {us : List Nat} (h : Tr s r2 es us) (hh : headOf (s.now 0).data.toList = some r1) : r2 = r1 := by
  have := h.head; rw [hh] at this; exact (Option.some.inj this).symm
set_option maxRecDepth 100000 in
set_option maxHeartbeats 4000000 in
theorem topen_live (w : World) (base : Nat) (A : PA) (s : PS) (hp : PD w base A s) (hs : s.brk = false) :
    Calls Tryz.prog 74 #[.pointer (some ⟨A.q, 0, none⟩)] w (OpenP w base A s) := by
  obtain ⟨i4, hi4, hz4a, hz4b, hz4c⟩ := info_parts infoB
  obtain ⟨i3, hi3, hz3a, hz3b, hz3c⟩ := info_parts info3
  have hn1 := hp.n1
  have hn2 := hp.n2
  have hFw : ∀ k, A.F k → k < w.heap.size := fun k hk => (hp.lt k hk).2
  obtain ⟨W0, hW0⟩ : ∃ W0, w.alloc (.cells #[.pointer (some ⟨A.q, 0, none⟩), .slice none 0 0] 169) = W0 := ⟨_, rfl⟩
  have hb0 : Below w.heap.size w W0 := by rw [← hW0]; exact (Below.refl _ w).alloc (Nat.le_refl _) _
  have BT0 : TreeB W0 w.heap.size A (.slice none 0 0) := by rw [← hW0]; exact Blk.new w 169 _
  have hs0 : W0.heap.size = w.heap.size + 1 := by rw [← hW0]; simp
  have hsec := sectors_any W0 base A s (hp.below hb0)
  have HW0 : Hid (w.alloc (.cells #[.pointer (some ⟨A.q, 0, none⟩), .slice none 0 0] 169) = W0) := hW0
  have HP0 : Hid (PD W0 base A s) := hp.below hb0
  clear hW0 hp
  go_enter Tryz.func74, Tryz.ntmps74
  go_upto_region 2 with fail
  rw [HW0.out]
  go_upto_region 3 with (first
    | (go_at_call 99; refine hsec.mono ?_; rintro e w1 ⟨rfl, rfl⟩)
    | (at_make; refine wpList_make_full _ rfl (.tmp 17) (.tmp 17) 171 rfl w1.heap.size 4 i4 _ 1 Tryz.underlying171 hi4 hz4a hz4b _ _ _ _ s.n rfl rfl rfl rfl (by rw [hz4c]; omega) (by unfold maxLen; omega) (Nat.le_refl _) ?_; intro w2 hown hgrow))
  have hb2 : Below w1.heap.size w1 w2 := (Below.refl _ w1).grown hgrow (Nat.le_refl _) (fun k hk => by cases hk)
  have hs2 := hb2.size
  have hsn : SeenAt w2 (w.heap.size + 1) s.n (fun _ => false) := by
    obtain ⟨_, ⟨e1, _⟩ | ⟨g', cap, cur, e1, _, h3, _, _, h6, h7⟩⟩ := hown
    · cases e1
    · cases e1
      rw [← hs0]
      have hl : cur.size = s.n := by simpa using h6
      refine ⟨cur, h3, hl, fun i hi => ?_⟩
      rw [← Array.getElem?_toList]
      have hx : ((madeCells (Value.bool false).cells (s.n * 1)).toList)[i]? = some (.bool false) := by simp [madeCells, Value.cells, hi, Nat.mod_one]
      rw [← h7, List.getElem?_take_of_lt (by omega)] at hx
      exact hx
  obtain ⟨W3, hW3⟩ : ∃ W3, w2.alloc (.cells #[.pointer (some ⟨w.heap.size, 0, none⟩), .slice (some ⟨w.heap.size + 1, 0, none⟩) s.n s.n, .int .i64 0, .int .i64 (-1)] 173) = W3 := ⟨_, rfl⟩
  have hb3 : Below w2.heap.size w2 W3 := by rw [← hW3]; exact (Below.refl _ w2).alloc (Nat.le_refl _) _
  have BS3 : Blk W3 w2.heap.size 173 #[.pointer (some ⟨w.heap.size, 0, none⟩), .slice (some ⟨w.heap.size + 1, 0, none⟩) s.n s.n, .int .i64 0, .int .i64 (-1)] := by rw [← hW3]; exact Blk.new w2 173 _
  have hsn3 : SeenAt W3 (w.heap.size + 1) s.n (fun _ => false) := hsn.off (Off.of_below (F := fun _ => False) hb3) (fun h => h)
  have hP3 := (HP0.out.below hb2).below hb3
  have hT3 : TreeB W3 w.heap.size A (.slice none 0 0) := (hb3.block _ (by omega)).trans ((hb2.block _ (by omega)).trans BT0)
  have q1 : W3.cell? ⟨w2.heap.size, 1, none⟩ = some (.slice (some ⟨w.heap.size + 1, 0, none⟩) s.n s.n) := BS3.cell 1
  obtain ⟨q2, q3⟩ := hsn3.cell (i := 0) (by omega)
  have hn0 : (0 : Int) < (s.n : Int) := by omega
  have hn0' : 0 < s.n := by omega
  have hg2 := hsn.lt
  rw [hW3]
  have HB3 : Hid (Below w1.heap.size w1 W3) := hb2.trans (hb3.mono hs2)
  clear hW3 hb3 hb2 hgrow hown hsec HP0 HW0 BT0 hsn
  go_upto_region 4 with fail
  obtain ⟨W4, hW4⟩ : ∃ W4, W3.setCell ⟨w.heap.size + 1, 0, none⟩ (.bool true) = W4 := ⟨_, rfl⟩
  have o4 : Off (fun k => k = w.heap.size + 1) W3 W4 := by rw [← hW4]; exact Off.one W3 _
  have hss : upd2 (fun _ => false) 0 true = ss0.seen := by funext k; simp [upd2, ss0]
  have hsn4 : SeenAt W4 (w.heap.size + 1) s.n ss0.seen := by rw [← hss, ← hW4]; exact hsn3.set hn0'
  have hP4 : PD W4 base A s := hP3.off o4 (fun k hk e => by have := hFw k hk; omega)
  have hT4 : TreeB W4 w.heap.size A (.slice none 0 0) := (o4.block _ hT3.lt (by omega)).trans hT3
  have BS4 : Blk W4 w2.heap.size 173 #[.pointer (some ⟨w.heap.size, 0, none⟩), .slice (some ⟨w.heap.size + 1, 0, none⟩) s.n s.n, .int .i64 0, .int .i64 (-1)] := (o4.block _ BS3.lt (by omega)).trans BS3
  have oW4 : Off A.F w W4 := ((Off.of_below hb0).trans (Off.of_below (HB3.out))).step o4 (fun k hk e => by omega)
  have hroot := root_live W4 base A s hP4 w.heap.size _ hT4 hs
  have HSV : Hid (∀ X, Off A.F W4 X → PD X base A s.adv → Sv X base A s w.heap.size (.slice none 0 0) w2.heap.size (w.heap.size + 1) ss0 1) := fun X ho hpx => by
    have nf : ∀ k, w.heap.size ≤ k → ¬ A.F k := fun k hk hf => by have := hFw k hf; omega
    exact ⟨hpx, (ho.block _ hT4.lt (nf _ (by omega))).trans hT4, (ho.block _ BS4.lt (nf _ (by omega))).trans BS4, hsn4.off ho (nf _ (by omega))⟩
  have HOW : Hid (Off A.F w W4) := oW4
  rw [hW4]
  clear hW4 o4 hsn4 hP4 hT4 BS4 oW4 BS3 hsn3 hP3 hT3 q1 q2 q3 hss HB3 hb0
  cases hh : headOf (s.now 0).data.toList with
  | none =>
    rw [hh] at hroot
    have HN : Hid (∀ root es us, Tr s root es us → ¬ FromK es) := fun root es us hT _ => by have := hT.head; rw [hh] at this; cases this
    clear hh HSV
    go_wp2_with (go_at_call 100; refine hroot.mono ?_; rintro e w5 ⟨rfl, p5, o5⟩)
    go_ret2
    exact ⟨HOW.out.trans o5, .inr ⟨rfl, HN.out, 1, p5⟩⟩
  | some root =>
    rw [hh] at hroot
    simp only at hroot
    have hrl : root ≤ 65536 := by
      unfold headOf at hh
      split at hh
      · have := rootOf_lt (s.now 0).data.toList
        cases hh; omega
      · cases hh
    have HH : Hid (headOf (s.now 0).data.toList = some root) := hh
    clear hh
    go_upto_if 36 with (go_at_call 100; refine hroot.mono ?_; rintro e w5 ⟨rfl, p5, o5⟩)
    have hS5 := HSV.out w5 o5 p5
    have oW5 : Off A.F w w5 := HOW.out.trans o5
    clear hroot HSV HOW p5 o5
    go_cut [] (fun wx => ∃ (ss : SS) (r : Nat) (es : List (Key × Box)) (us : List Nat), Sv wx base A s w.heap.size (.slice none 0 0) w2.heap.size (w.heap.size + 1) ss r ∧ Off A.F w wx ∧ Tr s root es us ∧ FromK es ∧ ∀ t, ss.seen t = (decide (t = 0) || decide (t ∈ us)))
    case first =>
      by_cases hr0 : root = 0
      · subst hr0
        have HT : Hid (Tr s 0 [] []) := ⟨HH.out, .inl ⟨rfl, rfl, rfl⟩, List.nodup_nil, fun t ht => (by cases ht), Rising.nil⟩
        have HS5 : Hid (Sv w5 base A s w.heap.size (.slice none 0 0) w2.heap.size (w.heap.size + 1) ss0 1) := hS5
        clear hS5
        go_wp2
        go_meet
        exact ⟨ss0, 1, [], [], HS5.out, oW5, HT.out, fun x hx => (by cases hx), fun t => by simp [ss0]⟩
      · have hr0' : ((root : Int) != 0) = true := by simp; omega
        have hlook := look_any base A s w.heap.size (.slice none 0 0) w2.heap.size (w.heap.size + 1) hs 5000 ss0 root w5 1 (by have : unseen s.n ss0 ≤ s.n := (by unfold unseen; exact Nat.le_trans List.countP_le_length (by simp)); omega) (by omega) hS5
        have HOS : Hid (∀ X, Off (SvF A w2.heap.size (w.heap.size + 1)) w5 X → Off A.F w X) := fun X ho => oW5.step ho (fun k hk hf => by
          rcases hf with hf | hf | hf
          · exact hf
          · omega
          · omega)
        clear hS5 oW5
        cases hlk : lookF (nodesN s) s.n 5000 ss0 root with
        | none =>
          rw [hlk] at hlook
          have HN : Hid (∀ root es us, Tr s root es us → ¬ FromK es) := fun root' es us hT hk => by
            have e := hT.root_eq HH.out
            subst e
            obtain ⟨n, h, ss', e⟩ := open_full hT hk hr0 hn2
            rw [hlk] at e; cases e
          clear hlk
          go_wp2_with (go_at_call 101; refine hlook.mono ?_; rintro e w6 ⟨o6, rfl, ss6, r6, hS6⟩)
          go_ret2
          exact ⟨HOS.out w6 o6, .inr ⟨rfl, HN.out, r6, hS6.pd⟩⟩
        | some y =>
          rw [hlk] at hlook
          obtain ⟨n, h, ss6⟩ := y
          obtain ⟨es, us, hT, hk, hse⟩ := open_sound hr0 HH.out hlk
          have HT : Hid (Tr s root es us) := hT
          have HK : Hid (FromK es) := hk
          have HSE : Hid _ := hse
          clear hlk hT hk hse
          go_wp2_with (go_at_call 101; refine hlook.mono ?_; rintro e w6 ⟨o6, v6, r6, rfl, _, _, hS6⟩)
          go_meet
          exact ⟨ss6, r6, es, us, hS6, HOS.out w6 o6, HT.out, HK.out, HSE.out⟩
    case rest =>
      obtain ⟨ss, r, es, us, hS6, oW6, hT, hk, hse⟩ := hcut
      have HFR := freeL_frees (n := s.n) hse
      have HFRE : Hid (Frees s.n us (freeL ss.seen s.n 0)) := HFR
      have HT : Hid (Tr s root es us) := hT
      have HK : Hid (FromK es) := hk
      have q1 : wc.cell? ⟨w2.heap.size, 1, none⟩ = some (.slice (some ⟨w.heap.size + 1, 0, none⟩) s.n s.n) := hS6.blk.cell 1
      have e1 : wrap64 ((s.n : Int) - 1) = (s.n : Int) - 1 := by unfold wrap64; omega
      have HS6 : Hid (Sv wc base A s w.heap.size (.slice none 0 0) w2.heap.size (w.heap.size + 1) ss r) := hS6
      have HO6 : Hid (Off A.F w wc) := oW6
      clear hS6 oW6 hT hk hse HFR hS5 oW5
      go_wp2
      go_loopw [11] (fun y wr => ∃ (m : Nat) (fv : Value) (yi : Int), y = .int .i64 yi ∧ yi = (m : Int) - 1 ∧ m ≤ s.n ∧ PD wr base A (s.at_ r) ∧ TreeB wr w.heap.size A fv ∧ wr.ownsRow (w.heap.size + 2) 3 1 fv (freeL ss.seen s.n m).length (secsV (freeL ss.seen s.n m)) ∧ Blk wr w2.heap.size 173 #[.pointer (some ⟨w.heap.size, 0, none⟩), .slice (some ⟨w.heap.size + 1, 0, none⟩) s.n s.n, .int .i64 ss.last.1, .int .i64 ss.last.2] ∧ SeenAt wr (w.heap.size + 1) s.n ss.seen ∧ Off A.F w wr) (fun y _ => (intOf y + 1).toNat)
      case atStart => exact ⟨s.n, _, _, rfl, rfl, Nat.le_refl _, HS6.out.pd, HS6.out.tr, by rw [freeL_end]; exact World.ownsRow_nil .., HS6.out.blk, HS6.out.seen, HO6.out⟩
      case round =>
        obtain ⟨m, fv, yi, rfl, hyi, hm, hp7, ht7, hrow7, hb7, hsn7, ho7⟩ := hrel
        by_cases hm0 : m = 0
        · subst hm0
          obtain rfl : yi = -1 := by omega
          have HR : Hid (PD wr base A (s.at_ r) ∧ TreeB wr w.heap.size A fv ∧ wr.ownsRow (w.heap.size + 2) 3 1 fv (freeL ss.seen s.n 0).length (secsV (freeL ss.seen s.n 0)) ∧ Off A.F w wr) := ⟨hp7, ht7, hrow7, ho7⟩
          clear hp7 ht7 hrow7 hb7 hsn7 ho7 hyi
          go_wp2
          go_ret2
          obtain ⟨z1, z2, z3, z4⟩ := HR.out
          exact ⟨z4, .inl ⟨w.heap.size, root, es, us, fv, _, r, rfl, HT.out, HK.out, HFRE.out, z1, z2, own_mono z3 (by omega), Nat.le_refl _⟩⟩
        · obtain ⟨i, rfl⟩ : ∃ i, m = i + 1 := ⟨m - 1, by omega⟩
          obtain rfl : yi = (i : Int) := by omega
          have hil : i < s.n := by omega
          have hil' : (i : Int) < (s.n : Int) := by omega
          have e2 : wrap64 ((i : Int) - 1) = (i : Int) - 1 := by unfold wrap64; omega
          have hst := freeL_step ss.seen hil
          obtain ⟨sc, _⟩ := hsn7.cell hil
          have q7 : wr.cell? ⟨w2.heap.size, 1, none⟩ = some (.slice (some ⟨w.heap.size + 1, 0, none⟩) s.n s.n) := hb7.cell 1
          have t7 : wr.cell? ⟨w.heap.size, 1, none⟩ = some fv := ht7.cell 1
          have g7 : wr.frozen? ⟨w.heap.size, 1, none⟩ = false := ht7.frozen 1
          cases hse : ss.seen i with
          | true =>
            rw [hse] at sc hst
            rw [if_pos rfl, List.append_nil] at hst
            rw [← hst] at hrow7
            have HR : Hid (PD wr base A (s.at_ r) ∧ TreeB wr w.heap.size A fv ∧ wr.ownsRow (w.heap.size + 2) 3 1 fv (freeL ss.seen s.n i).length (secsV (freeL ss.seen s.n i)) ∧ Blk wr w2.heap.size 173 #[.pointer (some ⟨w.heap.size, 0, none⟩), .slice (some ⟨w.heap.size + 1, 0, none⟩) s.n s.n, .int .i64 ss.last.1, .int .i64 ss.last.2] ∧ SeenAt wr (w.heap.size + 1) s.n ss.seen ∧ Off A.F w wr) := ⟨hp7, ht7, hrow7, hb7, hsn7, ho7⟩
            clear hp7 ht7 hrow7 hb7 hsn7 ho7 hyi hst hse
            go_wp2
            refine ⟨⟨i, fv, _, rfl, rfl, by omega, HR.out⟩, by simp [intOf]⟩
          | false =>
            rw [hse] at sc hst
            rw [if_neg (by decide)] at hst
            have hlen : (freeL ss.seen s.n (i + 1)).length ≤ 4096 := Nat.le_trans (freeL_len _ _ _) hn2
            have HST : Hid (freeL ss.seen s.n i = freeL ss.seen s.n (i + 1) ++ [i]) := hst
            generalize freeL ss.seen s.n (i + 1) = FL at hrow7 hlen HST
            obtain ⟨fa, fc, rfl, _, _, _⟩ := own_shape hrow7
            have hwr := ho7.size
            have htl := ht7.lt
            have HP7 : Hid (PD wr base A (s.at_ r)) := hp7
            have HT7 : Hid (TreeB wr w.heap.size A (.slice fa FL.length fc)) := ht7
            have HB7 : Hid (Blk wr w2.heap.size 173 #[.pointer (some ⟨w.heap.size, 0, none⟩), .slice (some ⟨w.heap.size + 1, 0, none⟩) s.n s.n, .int .i64 ss.last.1, .int .i64 ss.last.2]) := hb7
            have HSN7 : Hid (SeenAt wr (w.heap.size + 1) s.n ss.seen) := hsn7
            have HO7 : Hid (Off A.F w wr) := ho7
            have HRW : Hid (wr.ownsRow (w.heap.size + 2) 3 1 (.slice fa FL.length fc) FL.length (secsV FL)) := hrow7
            have hb7l := hb7.lt
            have hsn7l := hsn7.lt
            clear hp7 ht7 hb7 hsn7 ho7 hyi hst hse hrow7
            go_upto_region 13 with (at_builtin; refine wpList_append_lies _ rfl (.tmp 69) (.tmp 71) 35 rfl (w.heap.size + 2) 3 i3 _ 1 8 Tryz.underlying35 hi3 hz3a hz3b hz3c rfl (by omega) (.slice fa FL.length fc) FL.length _ rfl (HRW.out.alloc _) ⟨wr.heap.size, 0, none⟩ 1 1 [.int .i64 (i : Int)] rfl rfl (World.news_of_block (cs := #[.int .i64 (i : Int)]) (t := 3) (fr := (0, 0)) (heap_alloc_new wr _)) (by simp [Value.oneCell']) (by omega) (by unfold maxLen; omega) (by omega) (by simp; omega) (wr.heap.size + 1) (by simp) ?_; intro gg capp w8 hown8 hgrow8 hat8 hlt8; have oG : Off (fun k => (Value.slice fa FL.length fc).ownBlock = some k) wr w8 := ((Off.refl _ wr).alloc _).grown hgrow8 (fun j hj => .inl hj); have nT : ¬ (Value.slice fa FL.length fc).ownBlock = some w.heap.size := (fun hg => by have := (own_tagged HRW.out hg).1; omega); have bt8 : TreeB w8 w.heap.size A (.slice fa FL.length fc) := (oG.block _ htl nT).trans HT7.out; have d8 : w8.cell? ⟨w.heap.size, 1, none⟩ = some (.slice fa FL.length fc) := bt8.cell 1; have f8 : w8.frozen? ⟨w.heap.size, 1, none⟩ = false := bt8.frozen 1)
            have nA : ∀ k, A.F k → ¬ (Value.slice fa FL.length fc).ownBlock = some k := fun k hk hg => by have := (own_tagged HRW.out hg).1; have := hFw k hk; omega
            have hp8 := HP7.out.off oG nA
            have nS : ¬ (Value.slice fa FL.length fc).ownBlock = some w2.heap.size := fun hg => by
              obtain ⟨_, cs, hc⟩ := own_tagged HRW.out hg
              have h' : wr.heap[w2.heap.size]? = _ := HB7.out
              rw [h'] at hc; simp at hc
            have nG : ¬ (Value.slice fa FL.length fc).ownBlock = some (w.heap.size + 1) := fun hg => by have := (own_tagged HRW.out hg).1; omega
            have hb8 := (oG.block _ hb7l nS).trans HB7.out
            have hsn8 := HSN7.out.off oG nG
            have ho8 : Off A.F w w8 := HO7.out.step oG (fun k hk hg => by have := (own_tagged HRW.out hg).1; omega)
            have o9 : Off (fun k => k = w.heap.size) w8 (w8.setCell ⟨w.heap.size, 1, none⟩ (.slice (some ⟨gg, 0, none⟩) (FL.length + 1) capp)) := Off.one w8 _
            have hp9 := hp8.off o9 (fun k hk e => by have := hFw k hk; omega)
            have bt9 : TreeB (w8.setCell ⟨w.heap.size, 1, none⟩ (.slice (some ⟨gg, 0, none⟩) (FL.length + 1) capp)) w.heap.size A (.slice (some ⟨gg, 0, none⟩) (FL.length + 1) capp) := bt8.set 1 _
            have hb9 : Blk (w8.setCell ⟨w.heap.size, 1, none⟩ (.slice (some ⟨gg, 0, none⟩) (FL.length + 1) capp)) w2.heap.size 173 #[.pointer (some ⟨w.heap.size, 0, none⟩), .slice (some ⟨w.heap.size + 1, 0, none⟩) s.n s.n, .int .i64 ss.last.1, .int .i64 ss.last.2] := (o9.block _ (show Blk w8 _ 173 _ from hb8).lt (by omega)).trans hb8
            have hsn9 := hsn8.off o9 (by omega)
            have ho9 : Off A.F w (w8.setCell ⟨w.heap.size, 1, none⟩ (.slice (some ⟨gg, 0, none⟩) (FL.length + 1) capp)) := ho8.step o9 (fun k hk e => by omega)
            have hrow9 := own_offv hown8 o9 (fun g' hg' e => by have := (own_tagged hown8 hg').1; omega)
            have HR : Hid (PD (w8.setCell ⟨w.heap.size, 1, none⟩ (.slice (some ⟨gg, 0, none⟩) (FL.length + 1) capp)) base A (s.at_ r) ∧ TreeB (w8.setCell ⟨w.heap.size, 1, none⟩ (.slice (some ⟨gg, 0, none⟩) (FL.length + 1) capp)) w.heap.size A (.slice (some ⟨gg, 0, none⟩) (FL.length + 1) capp) ∧ (w8.setCell ⟨w.heap.size, 1, none⟩ (.slice (some ⟨gg, 0, none⟩) (FL.length + 1) capp)).ownsRow (w.heap.size + 2) 3 1 (.slice (some ⟨gg, 0, none⟩) (FL.length + 1) capp) (freeL ss.seen s.n i).length (secsV (freeL ss.seen s.n i)) ∧ Blk (w8.setCell ⟨w.heap.size, 1, none⟩ (.slice (some ⟨gg, 0, none⟩) (FL.length + 1) capp)) w2.heap.size 173 #[.pointer (some ⟨w.heap.size, 0, none⟩), .slice (some ⟨w.heap.size + 1, 0, none⟩) s.n s.n, .int .i64 ss.last.1, .int .i64 ss.last.2] ∧ SeenAt (w8.setCell ⟨w.heap.size, 1, none⟩ (.slice (some ⟨gg, 0, none⟩) (FL.length + 1) capp)) (w.heap.size + 1) s.n ss.seen ∧ Off A.F w (w8.setCell ⟨w.heap.size, 1, none⟩ (.slice (some ⟨gg, 0, none⟩) (FL.length + 1) capp))) := by
              refine ⟨hp9, bt9, ?_, hb9, hsn9, ho9⟩
              rw [HST.out, List.length_append, show secsV (FL ++ [i]) = secsV FL ++ [.int .i64 (i : Int)] by simp]
              exact hrow9
            clear hp9 bt9 hb9 hsn9 ho9 hrow9 hp8 hb8 hsn8 ho8 bt8 oG hown8 hgrow8
            go_wp2
            refine ⟨⟨i, _, _, rfl, rfl, by omega, HR.out⟩, by simp [intOf]⟩
end Go.Proofs.YtdgbgmffpcooeaaGreat
end
