/- Ck3 -/
import Derived.Test.YtdgbgmffpcooeaaGreatU39
namespace Go.Proofs.YtdgbgmffpcooeaaGreat
open Go.RowKit Go.Lib Go.Shelf
section
attribute [local go_sem] Oper.semAt_some
attribute [-go_sem] Go.Builtin.append_
def OkE (e : Ent) : Prop := ¬ e.1.1 < NUM → idB e.1.2 = true ∧ e.2.ok
theorem oks_get {L : List Ent} {i : Nat} {y : Tld} (h : (oks L)[i]? = some y) : ∃ e,L[i]? = some e ∧ y = (e, 0) := by
 unfold oks at h
 rw [List.getElem?_map] at h
 cases hl : L[i]? with
 | none => rw [hl] at h; cases h
 | some e => rw [hl] at h; exact ⟨e,rfl,(Option.some.inj h).symm⟩
theorem take_succ_of {L : List Ent} {i : Nat} {e : Ent} (h : L[i]? = some e) : L.take (i + 1) = L.take i ++ [e] := by
 rw [List.take_add_one,h]; rfl
structure Rows2 (W : World) (base h v : Nat) (M : Nat → Prop) (a b : List Ent) (vh vw : Value) : Prop where
 bh : Blk W h 151 #[vh]
 bw : Blk W v 151 #[vw]
 rh : W.ownsRow base 156 6 vh a.length (flat pkR a)
 rw : W.ownsRow base 156 6 vw b.length (flat pkR b)
 mh : ∀ g,vh.ownBlock = some g → M g
 mw : ∀ g,vw.ownBlock = some g → M g
 ne : ∀ g,vh.ownBlock = some g → vw.ownBlock ≠ some g
theorem own_lt2 {W : World} {base : Nat} {e : TypeId} {size : Nat} {v : Value} {n : Nat} {xs : List Value} (h : W.ownsRow base e size v n xs) {j : Nat} (hj : v.ownBlock = some j) : j < W.heap.size := by
 obtain ⟨_,cs,hc⟩ := own_tagged h hj
 exact (Array.getElem?_eq_some_iff.1 hc).1
theorem flatE1 (e : Ent) : flat pkR [e] = entC e := by simp [flat,pkR]
theorem ok_of_right {v : Box} (h : rightB (v.a : Int) (v.b : Int) (v.c : Int) (v.d : Int) = true) : v.ok := by
 unfold rightB at h; rw [decide_eq_true_iff] at h
 exact ⟨by omega,by omega,by omega,by omega⟩
theorem Rows2.off {W W' : World} {base h v : Nat} {M : Nat → Prop} {F : Nat → Prop} {a b : List Ent} {vh vw : Value} (r : Rows2 W base h v M a b vh vw) (ho : Off F W W') (hF : ∀ k,F k → ¬ M k) (h1 : ¬ F h) (h2 : ¬ F v) : Rows2 W' base h v M a b vh vw :=
 ⟨(ho.block _ r.bh.lt h1).trans r.bh,(ho.block _ r.bw.lt h2).trans r.bw,own_offv r.rh ho (fun g hg hf => hF g hf (r.mh g hg)),own_offv r.rw ho (fun g hg hf => hF g hf (r.mw g hg)),r.mh,r.mw,r.ne⟩
theorem Rows2.grow {W W' : World} {base h v : Nat} {M M' : Nat → Prop} {a b : List Ent} {vh vw : Value} (r : Rows2 W base h v M a b vh vw) (hb : Below W.heap.size W W') (hM : ∀ k,M k → M' k) : Rows2 W' base h v M' a b vh vw :=
 ⟨r.bh.below hb r.bh.lt,r.bw.below hb r.bw.lt,own_offv r.rh (Off.of_below (F := fun _ => False) hb) (fun _ _ h => h),own_offv r.rw (Off.of_below (F := fun _ => False) hb) (fun _ _ h => h),fun g hg => hM g (r.mh g hg),fun g hg => hM g (r.mw g hg),r.ne⟩
theorem Rows2.symm {W : World} {base h v : Nat} {M : Nat → Prop} {a b : List Ent} {vh vw : Value} (r : Rows2 W base h v M a b vh vw) : Rows2 W base v h M b a vw vh :=
 ⟨r.bw,r.bh,r.rw,r.rh,r.mw,r.mh,fun g hg hv => r.ne g hv hg⟩
theorem Rows2.mono {W : World} {base h v : Nat} {M M' : Nat → Prop} {a b : List Ent} {vh vw : Value} (r : Rows2 W base h v M a b vh vw) (hM : ∀ k,M k → M' k) : Rows2 W base h v M' a b vh vw :=
 ⟨r.bh,r.bw,r.rh,r.rw,fun g hg => hM g (r.mh g hg),fun g hg => hM g (r.mw g hg),r.ne⟩
theorem flatE_one (l : List Ent) : ∀ u ∈ flat pkR l,u.oneCell' = true := fun u hu => by
 obtain ⟨x,_,hx⟩ := List.mem_flatMap.1 hu
 have hx' : u ∈ entC x := hx
 simp only [entC,List.mem_cons,List.not_mem_nil,or_false] at hx'
 rcases hx' with rfl | rfl | rfl | rfl | rfl | rfl <;> rfl
theorem slice_at {g13 g n c : Nat} (hg : (Value.slice (some ⟨g13, 0,none⟩) n c).ownBlock = some g) : g13 = g := by simpa [Value.ownBlock] using hg
theorem Rows2.more {W w8 : World} {base h v : Nat} {M : Nat → Prop} {a b c : List Ent} {vh vw v8 : Value} (r : Rows2 W base h v M a b vh vw) (oG : Off (fun k => vh.ownBlock = some k) W w8)
  (hown : w8.ownsRow base 156 6 v8 (a.length + c.length) (flat pkR a ++ flat pkR c)) (hat : ∀ g,v8.ownBlock = some g → vh.ownBlock = some g ∨ W.heap.size ≤ g) (hM : M h) (h1 : h < base) (h2 : v < base) (hne : h ≠ v) :
  Off M W (w8.setCell ⟨h, 0,none⟩ v8) ∧ Rows2 (w8.setCell ⟨h, 0,none⟩ v8) base h v (Grow M W (w8.setCell ⟨h, 0,none⟩ v8)) (a ++ c) b v8 vw := by
 have nb : ∀ k,k < base → ¬ vh.ownBlock = some k := fun k hk hg => by have := (own_tagged r.rh hg).1; omega
 have bh8 : Blk w8 h 151 #[vh] := (oG.block h r.bh.lt (nb h h1)).trans r.bh
 have bw8 : Blk w8 v 151 #[vw] := (oG.block v r.bw.lt (nb v h2)).trans r.bw
 have o9 : Off (fun k => k = h) w8 (w8.setCell ⟨h, 0,none⟩ v8) := Off.one w8 _
 refine ⟨(oG.mono (fun k _ hk => r.mh k hk)).step o9 (fun k _ e => e ▸ hM),⟨bh8.set 0 v8,(o9.block v bw8.lt (Ne.symm hne)).trans bw8, ?_, ?_,fun g hg => ?_,fun g hg => .inl (r.mw g hg),fun g hg hv => ?_⟩⟩
 ·rw [List.length_append,flat_append]
  exact own_offv hown o9 (fun g hg e => by have := (own_tagged hown hg).1; omega)
 ·exact own_offv (own_offv r.rw oG (fun g hg hf => r.ne g hf hg)) o9 (fun g hg e => by have := (own_tagged r.rw hg).1; omega)
 ·rcases hat g hg with h | h
  ·exact .inl (r.mh g h)
  ·have hl := own_lt2 hown hg
   have := o9.size
   exact .inr ⟨h,by omega⟩
 ·rcases hat g hg with h | h
  ·exact r.ne g h hv
  ·have := own_lt2 r.rw hv
   omega
theorem ents_len {id : Int} {v : Box} (hv : v.ok) : (ents plc id v).length ≤ 5 := by
 have := (plc_ok hv).few
 unfold ents
 rw [List.length_cons,List.length_map]
 omega
theorem wanted_len : ∀ (l : List Ent),(∀ x ∈ l,OkE x) → (wanted plc l).length ≤ 5 * l.length
 | [],_ => Nat.le_refl _
 | x :: l,h => by
  have ih := wanted_len l (fun y hy => h y (List.mem_cons_of_mem _ hy))
  have hx := h x List.mem_cons_self
  unfold wanted byNum at ih ⊢
  rw [List.filter_cons]
  rw [List.length_cons]
  split
  ·rename_i hd
   rw [List.flatMap_cons,List.length_append]
   have := ents_len (id := x.1.2) (hx (by simpa using hd)).2
   omega
  ·omega
def CheckP (w : World) (A : PA) (L : List Ent) (Ed : World → Prop) (Es : Nat → World → Prop) (e : Ending) (w' : World) : Prop :=
 Off A.F w w' ∧ ∃ er : Int,e = .returned (.int .i64 er) ∧ (((∀ x ∈ L,OkE x) ∧ (∃ l' : List Ent,l'.Perm (wanted plc L) ∧ l'.Pairwise (fun x y => ¬ klt y.1 x.1) ∧ er = (if allEq eqEB L l' = true then 0 else 7)) ∧ Ed w') ∨ (er = 7 ∧ (∃ x ∈ L, ¬ OkE x) ∧ ∃ i,Es i w'))
set_option maxRecDepth 100000 in
set_option maxHeartbeats 4000000 in
theorem check_any (w : World) (A : PA) (t : Nat) (L : List Ent) (Ed : World → Prop) (Es : Nat → World → Prop) (hlen : L.length ≤ 200000)
  (hF : ∀ k,A.F k → k < w.heap.size) (ht : t < w.heap.size)
  (hEd : ∀ X Y,Ed X → Off (fun k => w.heap.size ≤ k) X Y → Ed Y) (hEs : ∀ i X Y,Es i X → Off (fun k => w.heap.size ≤ k) X Y → Es i Y)
  (hseq : ∀ (W : World) (tb kb : Nat) (M0 : Nat → Prop),Below w.heap.size w W → Blk W tb 122 #[.pointer (some ⟨t, 0,none⟩)] → Blk W kb 154 #[.int .i64 0, .int .i64 0] → (∀ b,M0 b → b < W.heap.size) → (∀ b,A.F b → ¬ M0 b) → ¬ M0 t → Tells 5 Tryz.prog 120 #[.pointer (some ⟨tb, 0,none⟩), .pointer (some ⟨kb, 0,none⟩)] tldE A.F M0 (oks L) Ed Es W) :
  Calls Tryz.prog 75 #[.pointer (some ⟨t, 0,none⟩)] w (CheckP w A L Ed Es) := by
 obtain ⟨i0,hi0,hz0,hz1,hz2⟩ := info_parts infoR
 refine (callsIn_wide (n := 6)).1 ?_
 refine callsIn_of_wp_marks Tryz.func75 rfl trivial ?_ rfl
 simp only [Tryz.ntmps75,List.size_toArray,List.length_cons,List.length_nil,Nat.reduceAdd,Nat.reduceSub,Array.replicate_succ,Array.replicate_zero,List.push_toArray,List.append_toArray,List.nil_append,List.cons_append]
 gi_upto_region 2 with fail
 obtain ⟨W0,hW0⟩ : ∃ W0,((w.alloc (.cells #[.int .i64 0] 26)).alloc (.cells #[.slice none 0 0] 151)).alloc (.cells #[.slice none 0 0] 151) = W0 := ⟨_,rfl⟩
 have b2 : Blk W0 w.heap.size 26 #[.int .i64 0] := by rw [← hW0]; exact ((Blk.new w 26 _).alloc _).alloc _
 have b3 : Blk W0 (w.heap.size + 1) 151 #[.slice none 0 0] := by
  rw [← hW0]; have := (Blk.new (w.alloc (.cells #[.int .i64 0] 26)) 151 #[.slice none 0 0]).alloc (.cells #[.slice none 0 0] 151); rwa [World.size_alloc] at this
 have b4 : Blk W0 (w.heap.size + 1 + 1) 151 #[.slice none 0 0] := by
  rw [← hW0]; have := Blk.new ((w.alloc (.cells #[.int .i64 0] 26)).alloc (.cells #[.slice none 0 0] 151)) 151 #[.slice none 0 0]; simp only [World.size_alloc] at this; exact this
 have hb0 : Below w.heap.size w W0 := by rw [← hW0]; exact (((Below.refl _ w).alloc (Nat.le_refl _) _).alloc (by simp) _).alloc (by simp; omega) _
 have hs0 : W0.heap.size = w.heap.size + 3 := by rw [← hW0]; simp
 rw [hW0]
 have hfr := from_any W0 t (0, 0)
 simp only [keyV] at hfr
 obtain ⟨W1,hW1⟩ : ∃ W1,(W0.alloc (.cells #[.pointer (some ⟨t, 0,none⟩)] 122)).alloc (.cells #[.int .i64 0, .int .i64 0] 154) = W1 := ⟨_,rfl⟩
 rw [hW1] at hfr
 have btb : Blk W1 W0.heap.size 122 #[.pointer (some ⟨t, 0,none⟩)] := by rw [← hW1]; exact (Blk.new W0 122 _).alloc _
 have bkb : Blk W1 (W0.heap.size + 1) 154 #[.int .i64 0, .int .i64 0] := by
  rw [← hW1]; have := Blk.new (W0.alloc (.cells #[.pointer (some ⟨t, 0,none⟩)] 122)) 154 #[.int .i64 0, .int .i64 0]; rwa [World.size_alloc] at this
 have hb1 : Below W0.heap.size W0 W1 := by rw [← hW1]; exact ((Below.refl _ W0).alloc (Nat.le_refl _) _).alloc (by simp) _
 have hs1 : W1.heap.size = W0.heap.size + 2 := by rw [← hW1]; simp
 have hB1 : Below w.heap.size w W1 := hb0.trans (hb1.mono (by omega))
 have x2 := b2.below hb1 (by omega)
 have x3 := b3.below hb1 (by omega)
 have x4 := b4.below hb1 (by omega)
 have htells := hseq W1 _ _ (fun k => k = w.heap.size ∨ k = w.heap.size + 1 ∨ k = w.heap.size + 1 + 1) hB1 btb bkb (fun b hb => by omega) (fun b hb h => by have := hF b hb; omega) (by omega)
 have hF3 : ∀ k,w.heap.size ≤ k → ¬ A.F k := fun k hk h => by have := hF k h; omega
 clear hW0 hW1 hseq b2 b3 b4 btb bkb hb0 hb1
 have HT : Hid _ := htells
 have hs0' : Hid (W0.heap.size = w.heap.size + 3) := hs0
 have hs1' : Hid (W1.heap.size = W0.heap.size + 2) := hs1
 clear htells hs0 hs1
 gi_wp2_with (refine ⟨trivial, ?_⟩; gi_at_call 87; refine (callsIn_wide.2 hfr).mono ?_; rintro e w2 ⟨rfl,rfl⟩)
 refine wpIn_tells (by omega) (gf := 120) (lb := #[.pointer (some ⟨W0.heap.size, 0,none⟩), .pointer (some ⟨W0.heap.size + 1, 0,none⟩)]) rfl (enters_of Tryz.func120 (by kernel_rfl) rfl) HT.out (fun _ => rfl) (fun k hk => by have := hF k hk; have := hB1.size; omega) (fun k hk => by have := x4.lt; omega)
  (fun i M W => i ≤ L.length ∧ (∀ x ∈ L.take i,OkE x) ∧ (M w.heap.size ∧ M (w.heap.size + 1) ∧ M (w.heap.size + 1 + 1)) ∧ (∀ k,M k → w.heap.size ≤ k) ∧ Blk W w.heap.size 26 #[.int .i64 0] ∧ (∃ vh vw,Rows2 W (w2.heap.size + 2) (w.heap.size + 1) (w.heap.size + 1 + 1) M (L.take i) (wanted plc (L.take i)) vh vw) ∧ Off A.F w W)
  (fun c i W => c = .ret ∧ Off A.F w W ∧ (∃ x ∈ L, ¬ OkE x) ∧ Blk W w.heap.size 26 #[.int .i64 7])
  ?hI ?hIx (fun X Y h _ ho => hEd X Y h (ho.mono fun k _ e => by have := hB1.size; omega)) (fun i X Y h _ ho => hEs i X Y h (ho.mono fun k _ e => by have := hB1.size; omega))
  ⟨Nat.zero_le _,fun x hx => (by simp at hx),⟨.inl rfl, .inr (.inl rfl), .inr (.inr rfl)⟩,fun k hk => by omega,x2,⟨_,_,⟨x3,x4,⟨rfl, .inl ⟨rfl,rfl⟩⟩,⟨rfl, .inl ⟨rfl,rfl⟩⟩,fun g hg => (by cases hg),fun g hg => (by cases hg),fun g hg => (by cases hg)⟩⟩,Off.of_below hB1⟩
  (fun y a' W => ∃ Bx,w2.heap.size + 1 < Bx ∧ ((∀ v,Blk W (w.heap.size + 1) 151 #[v] → v.ownBlock ≠ some Bx) ∧ ∀ v,Blk W (w.heap.size + 1 + 1) 151 #[v] → v.ownBlock ≠ some Bx) ∧ Blk W Bx 156 #[.int .i64 y.1.1.1, .int .i64 y.1.1.2, .int .i64 (y.1.2.a : Int), .int .i64 (y.1.2.b : Int), .int .i64 (y.1.2.c : Int), .int .i64 (y.1.2.d : Int)] ∧ a' = { tmps := #[.pointer (some ⟨t, 0,none⟩),undef, .pointer (some ⟨w.heap.size, 0,none⟩), .pointer (some ⟨w.heap.size + 1, 0,none⟩), .pointer (some ⟨w.heap.size + 1 + 1, 0,none⟩), .pointer (some ⟨Bx, 0,none⟩), .int .i64 y.2, .pointer (some ⟨t, 0,none⟩), .agg #[.int .i64 0, .int .i64 0], .func (.func 120) #[] #[.pointer (some ⟨W0.heap.size, 0,none⟩), .pointer (some ⟨W0.heap.size + 1, 0,none⟩)],entV y.1, .int .i64 y.2,undef,undef,undef,undef,undef,undef,undef,undef,undef,undef,undef,undef,undef,undef,undef,undef,undef,undef,undef,undef,undef,undef,undef,undef,undef,undef,undef,undef,undef,undef,undef,undef,undef,undef,undef,undef],defers := [] })
  ?hAx ?assign ?body ?done ?stop
 case hI =>
  have hw2 := x4.lt
  rintro i M X Y ⟨hi,hz,m1,m3,h2,⟨vh,vw,hr⟩,h6⟩ ho
  have n3 : ∀ k,w.heap.size ≤ k → k < w2.heap.size → ¬ (A.F k ∨ k = w2.heap.size + 1) := fun k h1 h2 h => h.elim (hF3 k h1) (fun h => by omega)
  refine ⟨hi,hz,m1,m3,(ho.block _ h2.lt (n3 _ (Nat.le_refl _) (by omega))).trans h2,⟨vh,vw,⟨(ho.block _ hr.bh.lt (n3 _ (by omega) (by omega))).trans hr.bh,(ho.block _ hr.bw.lt (n3 _ (by omega) (by omega))).trans hr.bw,own_offv hr.rh ho (fun g hg hf => ?_),own_offv hr.rw ho (fun g hg hf => ?_),hr.mh,hr.mw,hr.ne⟩⟩,h6.step ho (fun k hk h => h.elim (fun h => h) (by have := hB1.size; omega))⟩
  ·have := (own_tagged hr.rh hg).1
   exact hf.elim (hF3 g (by omega)) (fun h => by omega)
  ·have := (own_tagged hr.rw hg).1
   exact hf.elim (hF3 g (by omega)) (fun h => by omega)
 case hIx =>
  have hw2 := x4.lt
  rintro c i X Y ⟨rfl,h6,hx,h2⟩ ho
  exact ⟨rfl,h6.step ho (fun k hk h => h.elim (fun h => h) (by omega)),hx,(ho.block _ h2.lt (fun h => h.elim (hF3 _ (by omega)) (by omega))).trans h2⟩
 case hAx =>
  have hw2 := x4.lt
  rintro y a' X Y ⟨Bx,h1,⟨n1,n2⟩,h2,h3⟩ ho
  have hl := h2.lt
  exact ⟨Bx,h1,⟨fun v hv => n1 v ((ho.block _ (by omega) (by omega)).symm.trans hv),fun v hv => n2 v ((ho.block _ (by omega) (by omega)).symm.trans hv)⟩,(ho.block _ h2.lt (by omega)).trans h2,h3⟩
 case assign =>
  rintro l i y M W K hy ⟨hi,hz,⟨m1,m2,m4⟩,m3,h2,⟨vh,vw,hr⟩,h6⟩ hM hW hK
  simp only [tldE]
  have HK : Hid _ := hK
  have HR : Hid (Rows2 W (w2.heap.size + 2) (w.heap.size + 1) (w.heap.size + 1 + 1) M (L.take i) (wanted plc (L.take i)) vh vw) := hr
  have HZ : Hid (∀ x ∈ L.take i,OkE x) := hz
  clear hK hr hz hy
  gi_wp2
  have hb : Below W.heap.size W (W.alloc (entO y.1)) := (Below.refl _ W).alloc (Nat.le_refl _) _
  have ho : Off M W (W.alloc (entO y.1)) := Off.of_below hb
  have hw6 := h6.size
  have hr := HR.out.grow hb (M' := Grow M W (W.alloc (entO y.1))) (fun k h => .inl h)
  refine HK.out _ _ ho ⟨hi,HZ.out,⟨.inl m1, .inl m2, .inl m4⟩,fun k hk => hk.elim (m3 k) (fun h => by omega),h2.alloc _,⟨vh,vw,hr⟩,h6.trans (Off.of_below hb)⟩ ⟨W.heap.size,hW,⟨fun v hv hg => ?_,fun v hv hg => ?_⟩,Blk.new W 156 _,rfl⟩
  ·have e : v = vh := by have h' : _ = _ := hr.bh; have h'' : _ = _ := hv; rw [h'] at h''; simpa using h''.symm
   rw [e] at hg
   have := own_lt2 HR.out.rh hg
   omega
  ·have e : v = vw := by have h' : _ = _ := hr.bw; have h'' : _ = _ := hv; rw [h'] at h''; simpa using h''.symm
   rw [e] at hg
   have := own_lt2 HR.out.rw hg
   omega
 case body =>
  rintro l i y M a' W hy ⟨hi,hz,⟨m1,m2,m4⟩,m3,h2,⟨vh,vw,hr⟩,h6⟩ ⟨Bx,hBx1,⟨nx1,nx2⟩,bX,rfl⟩ hM hW
  obtain ⟨e,he,rfl⟩ := oks_get hy
  have hil : i < L.length := (List.getElem?_eq_some_iff.1 he).1
  have hta := take_succ_of he
  have hwl := wanted_len _ hz
  have hal : (L.take i).length ≤ 200000 := by rw [List.length_take]; omega
  have HIW : Hid (wanted plc (L.take (i + 1)) = wanted plc (L.take i) ++ (if e.1.1 < NUM then [] else ents plc e.1.2 e.2)) := by
   show _ = _
   rw [hta]
   by_cases h : e.1.1 < NUM
   ·rw [if_pos h,List.append_nil]; exact wanted_lo plc h
   ·rw [if_neg h]; exact wanted_hi plc h
  have HTA : Hid (L.take (i + 1) = L.take i ++ [e]) := hta
  have HZ : Hid (∀ x ∈ L.take i,OkE x) := hz
  have HEM : Hid (e ∈ L) := List.mem_of_getElem? he
  have nh := nx1 vh hr.bh
  have nw := nx2 vw hr.bw
  have hw2 := x4.lt
  generalize wanted plc (L.take i) = b at hr hwl HIW
  generalize L.take i = a at hr hwl hal HIW HTA HZ
  obtain ⟨fa,fc,rfl,_,_,_⟩ := own_shape hr.rh
  have c3 : W.cell? ⟨w.heap.size + 1, 0,none⟩ = some (.slice fa a.length fc) := hr.bh.cell 0
  have x0 : W.cell? ⟨Bx, 0,none⟩ = some (.int .i64 e.1.1) := bX.cell 0
  have x1 : W.cell? ⟨Bx, 1,none⟩ = some (.int .i64 e.1.2) := bX.cell 1
  have x2 : W.cell? ⟨Bx, 2,none⟩ = some (.int .i64 (e.2.a : Int)) := bX.cell 2
  have x3 : W.cell? ⟨Bx, 3,none⟩ = some (.int .i64 (e.2.b : Int)) := bX.cell 3
  have x4 : W.cell? ⟨Bx, 4,none⟩ = some (.int .i64 (e.2.c : Int)) := bX.cell 4
  have x5 : W.cell? ⟨Bx, 5,none⟩ = some (.int .i64 (e.2.d : Int)) := bX.cell 5
  have HR : Hid (Rows2 W (w2.heap.size + 2) (w.heap.size + 1) (w.heap.size + 1 + 1) M a b (.slice fa a.length fc) vw) := hr
  have hs6 := h6.size
  clear hr hz hy he hta nx1 nx2
  gi_upto_region 8 with (gi_at_builtin; refine wpListIn_append_own_at _ rfl (.tmp 15) (.tmp 17) 151 rfl (w2.heap.size + 2) 156 i0 _ 6 48 Tryz.underlying151 hi0 hz0 hz1 hz2 rfl (by omega) (.slice fa a.length fc) a.length _ rfl (HR.out.rh.alloc _) ⟨W.heap.size, 0,none⟩ 1 1 (entC e) rfl rfl (World.news_of_block (cs := (entC e).toArray) (t := 156) (fr := (0, 0)) (heap_alloc_new W _)) (by simp [entC,Value.oneCell']) (by unfold maxLen; omega) (by omega) (by simp; omega) ?_; intro v8 w8 hown8 hgrow8 _ hat8; obtain ⟨b8,c8,rfl,_,_,_⟩ := own_shape hown8; have oG : Off (fun k => (Value.slice fa a.length fc).ownBlock = some k) W w8 := ((Off.refl _ W).alloc _).grown hgrow8 (fun j hj => .inl hj); have nT : ∀ k,k < w2.heap.size + 2 → ¬ (Value.slice fa a.length fc).ownBlock = some k := (fun k hk hg => by have := (own_tagged HR.out.rh hg).1; omega); have bt8 : Blk w8 (w.heap.size + 1) 151 #[.slice fa a.length fc] := (oG.block _ HR.out.bh.lt (nT _ (by omega))).trans HR.out.bh; have d8 : w8.cell? ⟨w.heap.size + 1, 0,none⟩ = some (.slice fa a.length fc) := bt8.cell 0; have f8 : w8.frozen? ⟨w.heap.size + 1, 0,none⟩ = false := bt8.frozen 0)
  obtain ⟨oM9,r9⟩ := HR.out.more (c := [e]) oG (by rw [flatE1]; exact hown8) (fun g hg => hat8.elim (fun h => .inl (h ▸ hg)) (fun h => .inr (by rw [h] at hg; simp at hg; omega))) m2 (by omega) (by omega) (by omega)
  have o9 : Off (fun k => k = w.heap.size + 1) w8 (w8.setCell ⟨w.heap.size + 1, 0,none⟩ (.slice b8 (a.length + 1) c8)) := Off.one w8 _
  have bX8 : Blk w8 Bx 156 #[.int .i64 e.1.1, .int .i64 e.1.2, .int .i64 (e.2.a : Int), .int .i64 (e.2.b : Int), .int .i64 (e.2.c : Int), .int .i64 (e.2.d : Int)] := (oG.block _ bX.lt nh).trans bX
  have bX9 := (o9.block _ bX8.lt (by omega)).trans bX8
  have h28 : Blk w8 w.heap.size 26 #[.int .i64 0] := (oG.block _ h2.lt (nT _ (by omega))).trans h2
  have h29 := (o9.block _ h28.lt (by omega)).trans h28
  obtain ⟨W9,hW9⟩ : ∃ W9,w8.setCell ⟨w.heap.size + 1, 0,none⟩ (.slice b8 (a.length + 1) c8) = W9 := ⟨_,rfl⟩
  rw [hW9] at oM9 r9 bX9 h29
  rw [hW9]
  have bX9' : Blk W9 Bx 156 #[.int .i64 e.1.1, .int .i64 e.1.2, .int .i64 (e.2.a : Int), .int .i64 (e.2.b : Int), .int .i64 (e.2.c : Int), .int .i64 (e.2.d : Int)] := bX9
  have h29' : Blk W9 w.heap.size 26 #[.int .i64 0] := h29
  have h69 : Off A.F w W9 := h6.step oM9 (fun k hk h => by have := m3 k h; omega)
  have hs9 := oM9.size
  clear hW9 o9 bX8 h28 bt8 d8 f8 nT oG hown8 hgrow8 hat8 HR c3 x0 x1 x2 x3 x4 x5 bX h2 h6 bX9 h29
  have x0 : W9.cell? ⟨Bx, 0,none⟩ = some (.int .i64 e.1.1) := bX9'.cell 0
  have x1 : W9.cell? ⟨Bx, 1,none⟩ = some (.int .i64 e.1.2) := bX9'.cell 1
  have x2 : W9.cell? ⟨Bx, 2,none⟩ = some (.int .i64 (e.2.a : Int)) := bX9'.cell 2
  have x3 : W9.cell? ⟨Bx, 3,none⟩ = some (.int .i64 (e.2.b : Int)) := bX9'.cell 3
  have x4 : W9.cell? ⟨Bx, 4,none⟩ = some (.int .i64 (e.2.c : Int)) := bX9'.cell 4
  have x5 : W9.cell? ⟨Bx, 5,none⟩ = some (.int .i64 (e.2.d : Int)) := bX9'.cell 5
  have z0 : W9.cell? ⟨w.heap.size, 0,none⟩ = some (.int .i64 0) := h29'.cell 0
  have z1 : W9.frozen? ⟨w.heap.size, 0,none⟩ = false := h29'.frozen 0
  have HR9 : Hid (Rows2 W9 (w2.heap.size + 2) (w.heap.size + 1) (w.heap.size + 1 + 1) (Grow M W W9) (a ++ [e]) b (.slice b8 (a.length + 1) c8) vw) := r9
  have HZ1 : Hid (OkE e → ∀ x ∈ L.take (i + 1),OkE x) := fun he x hx => by
   rw [HTA.out] at hx
   rcases List.mem_append.1 hx with h | h
   ·exact HZ.out x h
   ·rw [List.mem_singleton.1 h]; exact he
  clear r9
  by_cases hlo : e.1.1 < NUM
  ·have hlo' : e.1.1 < 73014444032 := hlo
   have HB' : Hid (wanted plc (L.take (i + 1)) = b) := by show _ = _; rw [HIW.out,if_pos hlo,List.append_nil]
   gi_wp2
   refine ⟨oM9,by omega,HZ1.out (fun h => absurd hlo h),⟨.inl m1, .inl m2, .inl m4⟩,fun k hk => hk.elim (m3 k) (fun h => by omega),h29',⟨.slice b8 (a.length + 1) c8,vw, ?_⟩,h69⟩
   rw [HB'.out,HTA.out]
   exact HR9.out
  ·have hlo' : ¬ e.1.1 < 73014444032 := hlo
   have hisid := isId_any e.1.2 W9
   by_cases hid : idB e.1.2 = true
   ·rw [hid] at hisid
    have hri := right_any (e.2.a : Int) (e.2.b : Int) (e.2.c : Int) (e.2.d : Int) W9
    by_cases hrt : rightB (e.2.a : Int) (e.2.b : Int) (e.2.c : Int) (e.2.d : Int) = true
    ·rw [hrt] at hri
     have hok := ok_of_right hrt
     have HB' : Hid (wanted plc (L.take (i + 1)) = b ++ ents plc e.1.2 e.2) := by show _ = _; rw [HIW.out,if_neg hlo]
     have HOK : Hid (OkE e) := fun _ => ⟨hid,hok⟩
     clear hrt hid HIW
     gi_upto_region 11 with (first
      | (refine ⟨trivial, ?_⟩; gi_at_call 78; refine (CallsIn.inRound l (callsIn_wide.2 hisid)).mono ?_; rintro e1 w10 ⟨rfl,rfl⟩)
      | (refine ⟨trivial, ?_⟩; gi_at_call 59; refine (CallsIn.inRound l (callsIn_wide.2 hri)).mono ?_; rintro e1 w11 ⟨rfl,hb11⟩))
     have r11 := HR9.out.grow hb11 (M' := Grow M W w11) (fun k h => h.elim .inl (fun h => .inr ⟨h.1,by have := hb11.size; omega⟩))
     have hE5 := ents_len (id := e.1.2) hok
     have hE0 : 0 < (ents plc e.1.2 e.2).length := by simp [ents]
     have hen := entries_any w11.drew e.1.2 e.2 hok
     obtain ⟨wa,wcc,rfl,_,_,_⟩ := own_shape r11.rw
     have hbl : b.length ≤ 1000000 := by omega
     have bX11 := bX9'.below hb11 bX9'.lt
     have h211 := h29'.below hb11 h29'.lt
     have h611 : Off A.F w w11 := h69.trans (Off.of_below hb11)
     have oM11 : Off M W w11 := oM9.trans (Off.of_below hb11)
     have y1 : w11.cell? ⟨Bx, 1,none⟩ = some (.int .i64 e.1.2) := bX11.cell 1
     have y2 : w11.cell? ⟨Bx, 2,none⟩ = some (.int .i64 (e.2.a : Int)) := bX11.cell 2
     have y3 : w11.cell? ⟨Bx, 3,none⟩ = some (.int .i64 (e.2.b : Int)) := bX11.cell 3
     have y4 : w11.cell? ⟨Bx, 4,none⟩ = some (.int .i64 (e.2.c : Int)) := bX11.cell 4
     have y5 : w11.cell? ⟨Bx, 5,none⟩ = some (.int .i64 (e.2.d : Int)) := bX11.cell 5
     have q4 : w11.cell? ⟨w.heap.size + 1 + 1, 0,none⟩ = some (.slice wa b.length wcc) := r11.bw.cell 0
     generalize ents plc e.1.2 e.2 = E at hE5 hE0 hen HB'
     have hs11 := hb11.size
     have HR11 : Hid (Rows2 w11 (w2.heap.size + 2) (w.heap.size + 1) (w.heap.size + 1 + 1) (Grow M W w11) (a ++ [e]) b (.slice b8 (a.length + 1) c8) (.slice wa b.length wcc)) := r11
     clear r11 x0 x1 x2 x3 x4 x5 z0 z1 hri hisid bX9' bX11
     have hmx : Tryz.prog.follows .mixedOrders = true := by kernel_rfl
     refine wpIn_mono (Q := Exit.then (fun _ wx => Off M W wx ∧ (∃ vw',Rows2 wx (w2.heap.size + 2) (w.heap.size + 1) (w.heap.size + 1 + 1) (Grow M W wx) (a ++ [e]) (b ++ E) (.slice b8 (a.length + 1) c8) vw') ∧ Blk wx w.heap.size 26 #[.int .i64 0] ∧ Off A.F w wx) (fun _ _ _ => False)) ?_ ?_
     ·gi_region_with_o (refine ⟨trivial, ?_⟩; gi_at_call 83; refine (CallsIn.inRound l (callsIn_wide.2 hen)).mono ?_; rintro e1 w12 ⟨ea,ec,rfl,hown12,hb12⟩; have hb12' : Below w11.heap.size w11 w12 := ((Below.refl _ w11).drew).trans hb12; have r12 := HR11.out.grow hb12' (M' := Grow M W w12) (fun k h => h.elim .inl (fun h => .inr ⟨h.1,by have := hb12'.size; omega⟩)); have q412 : w12.cell? ⟨w.heap.size + 1 + 1, 0,none⟩ = some (.slice wa b.length wcc) := r12.bw.cell 0; obtain ⟨g12,cap12,heq12,_,_⟩ := hown12.form hE0; cases heq12; obtain ⟨g13,cap13,w13,hr13,hown13,hgrow13,hat13,hlt13⟩ := run_append_lies w12 151 151 (w2.heap.size + 2) 156 i0 _ 6 48 Tryz.underlying151 hi0 hz0 hz1 hz2 rfl (by omega) (.slice wa b.length wcc) b.length _ r12.rw ⟨g12, 0,none⟩ E.length ec (flat pkR E) (flat_length pkR E) (hown12.cells (g := g12) rfl) (flatE_one E) hE0 (by unfold maxLen; omega) (by omega) (by have := hb12'.size; have := oM11.size; omega) w12.heap.size rfl; have oG13 : Off (fun k => (Value.slice wa b.length wcc).ownBlock = some k) w12 w13 := (Off.refl _ w12).grown hgrow13 (fun j hj => .inl hj); have bt13 : Blk w13 (w.heap.size + 1 + 1) 151 #[.slice wa b.length wcc] := (oG13.block _ r12.bw.lt (fun hg => by have := (own_tagged r12.rw hg).1; omega)).trans r12.bw; have d13 : w13.cell? ⟨w.heap.size + 1 + 1, 0,none⟩ = some (.slice wa b.length wcc) := bt13.cell 0; have f13 : w13.frozen? ⟨w.heap.size + 1 + 1, 0,none⟩ = false := bt13.frozen 0)
      all_goals
       have oM12 : Off M W w12 := oM11.trans (Off.of_below hb12')
       have hs12 := oM12.size
       have hat' : ∀ g,(Value.slice (some ⟨g13, 0,none⟩) (b.length + E.length) cap13).ownBlock = some g → (Value.slice wa b.length wcc).ownBlock = some g ∨ w12.heap.size ≤ g := fun g hg => slice_at hg ▸ hat13.imp id (fun h => Nat.le_of_eq h.symm)
       obtain ⟨oM14,r14⟩ := r12.symm.more (c := E) oG13 hown13 hat' (.inl m4) (by omega) (by omega) (by omega)
       have hs14 := oM14.size
       have o14 : Off (fun k => k = w.heap.size + 1 + 1) w13 (w13.setCell ⟨w.heap.size + 1 + 1, 0,none⟩ (.slice (some ⟨g13, 0,none⟩) (b.length + E.length) cap13)) := Off.one w13 _
       have h212 : Blk w12 w.heap.size 26 #[.int .i64 0] := h211.below hb12' (show Blk w11 w.heap.size 26 _ from h211).lt
       have h213 : Blk w13 w.heap.size 26 #[.int .i64 0] := (oG13.block _ h212.lt (fun hg => by have := (own_tagged r12.rw hg).1; omega)).trans h212
       exact ⟨oM12.step oM14 (fun k hk h => h.elim id (fun h => by omega)),⟨_,r14.symm.mono (fun k h => h.elim (fun h => h.elim .inl (fun h => .inr ⟨h.1,by omega⟩)) (fun h => .inr ⟨by omega,h.2⟩))⟩,(o14.block _ h213.lt (by omega)).trans h213,(h611.trans (Off.of_below hb12')).step oM14 (fun k hk h => h.elim (fun h => by have := m3 k h; omega) (fun h => by omega))⟩
     ·intro ex a1 wx h
      cases ex with
      | normal =>
       obtain ⟨k1,⟨vw',k2⟩,k3,k4⟩ := h
       refine ⟨k1,by omega,HZ1.out HOK.out,⟨.inl m1, .inl m2, .inl m4⟩,fun k hk => hk.elim (m3 k) (fun h => by omega),k3,⟨.slice b8 (a.length + 1) c8,vw', ?_⟩,k4⟩
       rw [HB'.out,HTA.out]
       exact k2
      | _ => exact h.elim
    ·have hrf : rightB (e.2.a : Int) (e.2.b : Int) (e.2.c : Int) (e.2.d : Int) = false := by simpa using hrt
     rw [hrf] at hri
     have HNO : Hid (¬ OkE e) := fun h => by have := right_of_ok (h hlo).2; rw [hrf] at this; cases this
     have hsz9 := h29'.lt
     clear hrt hrf hid HIW HTA
     gi_wp2_with (first
      | (refine ⟨trivial, ?_⟩; gi_at_call 78; refine (CallsIn.inRound l (callsIn_wide.2 hisid)).mono ?_; rintro e1 w10 ⟨rfl,rfl⟩)
      | (refine ⟨trivial, ?_⟩; gi_at_call 59; refine (CallsIn.inRound l (callsIn_wide.2 hri)).mono ?_; rintro e1 w11 ⟨rfl,hb11⟩; have z0 : w11.cell? ⟨w.heap.size, 0,none⟩ = some (.int .i64 0) := (hb11.cell (p := ⟨w.heap.size, 0,none⟩) hsz9).trans z0; have z1 : w11.frozen? ⟨w.heap.size, 0,none⟩ = false := ((h29'.below hb11 hsz9).frozen 0)))
     have o11 : Off M W w11 := oM9.trans (Off.of_below hb11)
     have o12 : Off M W (w11.setCell ⟨w.heap.size, 0,none⟩ (.int .i64 7)) := o11.setCell _ (.inl m1)
     have hb12 : Off (fun k => k = w.heap.size) w11 (w11.setCell ⟨w.heap.size, 0,none⟩ (.int .i64 7)) := Off.one w11 _
     have k2 : Blk (w11.setCell ⟨w.heap.size, 0,none⟩ (.int .i64 7)) w.heap.size 26 #[.int .i64 7] := (h29'.below hb11 hsz9).set 0 _
     exact ⟨o12,rfl,(h69.trans (Off.of_below hb11)).step hb12 (fun k hk h => by omega),⟨e,HEM.out,HNO.out⟩,k2⟩
   ·have hidf : idB e.1.2 = false := by simpa using hid
    rw [hidf] at hisid
    have HNO : Hid (¬ OkE e) := fun h => hid (h hlo).1
    clear hid hidf HIW HTA
    gi_wp2_with (refine ⟨trivial, ?_⟩; gi_at_call 78; refine (CallsIn.inRound l (callsIn_wide.2 hisid)).mono ?_; rintro e1 w10 ⟨rfl,rfl⟩)
    refine ⟨trivial, ?_⟩
    gi_wp2
    have o12 : Off M W (w10.setCell ⟨w.heap.size, 0,none⟩ (.int .i64 7)) := oM9.setCell _ (.inl m1)
    have hb12 : Off (fun k => k = w.heap.size) w10 (w10.setCell ⟨w.heap.size, 0,none⟩ (.int .i64 7)) := Off.one w10 _
    have k2 : Blk (w10.setCell ⟨w.heap.size, 0,none⟩ (.int .i64 7)) w.heap.size 26 #[.int .i64 7] := h29'.set 0 _
    exact ⟨o12,rfl,h69.step hb12 (fun k hk h => by omega),⟨e,HEM.out,HNO.out⟩,k2⟩
 case done =>
  rintro M W ⟨hi,hz,m1,m3,h2,⟨vh,vw,hr⟩,h6⟩ hE hD
  have el : (oks L).length = L.length := by simp [oks]
  rw [el,List.take_length] at hz hr
  have hw2 := x4.lt
  have hwl := wanted_len L hz
  obtain ⟨b,hbw⟩ : ∃ b,wanted plc L = b := ⟨_,rfl⟩
  rw [hbw] at hr hwl
  have HBW : Hid (wanted plc L = b) := hbw
  have HZ : Hid (∀ x ∈ L,OkE x) := hz
  obtain ⟨wa,wcc,rfl,_,_,_⟩ := own_shape hr.rw
  obtain ⟨ha,hcc,rfl,_,_,_⟩ := own_shape hr.rh
  have hso := sortRow_any W _ _ b hr.rw (by omega)
  have c4 : W.cell? ⟨w.heap.size + 1 + 1, 0,none⟩ = some (.slice wa b.length wcc) := hr.bw.cell 0
  have HR : Hid (Rows2 W (w2.heap.size + 2) (w.heap.size + 1) (w.heap.size + 1 + 1) M L b (.slice ha L.length hcc) (.slice wa b.length wcc)) := hr
  clear hz hbw hr el
  gi_upto_region 13 with (refine ⟨trivial, ?_⟩; gi_at_call 102; refine (callsIn_wide.2 hso).mono ?_; rintro e1 w3 ⟨rfl,l',hp3,hs3,hrow3,o3⟩)
  have nO : ∀ k,k < w2.heap.size + 2 → ¬ (Value.slice wa b.length wcc).ownBlock = some k := fun k hk hg => by have := (own_tagged HR.out.rw hg).1; omega
  have h23 : Blk w3 w.heap.size 26 #[.int .i64 0] := (o3.block _ h2.lt (nO _ (by omega))).trans h2
  have bh3 : Blk w3 (w.heap.size + 1) 151 #[.slice ha L.length hcc] := (o3.block _ HR.out.bh.lt (nO _ (by omega))).trans HR.out.bh
  have bw3 : Blk w3 (w.heap.size + 1 + 1) 151 #[.slice wa b.length wcc] := (o3.block _ HR.out.bw.lt (nO _ (by omega))).trans HR.out.bw
  have rh3 := own_offv HR.out.rh o3 (fun g hg hf => HR.out.ne g hg hf)
  have hll : l'.length = b.length := hp3.length_eq
  have heq := eqRow_any w3 _ _ _ L l' rh3 (by rw [hll]; exact hrow3) (by omega) (by omega)
  have hD3 : w3.heap[w2.heap.size]? = some (.deferred (some [])) := (o3.block _ (Array.getElem?_eq_some_iff.1 hD).1 (nO _ (by omega))).trans hD
  have h63 : Off A.F w w3 := h6.step o3 (fun k hk hg => by have := (own_tagged HR.out.rw hg).1; omega)
  have oE3 : Off (fun k => w.heap.size ≤ k) W w3 := o3.mono (fun k _ hg => by have := (own_tagged HR.out.rw hg).1; omega)
  have hE3 := hEd W w3 hE oE3
  have k3 : w3.cell? ⟨w.heap.size + 1, 0,none⟩ = some (.slice ha L.length hcc) := bh3.cell 0
  have k4 : w3.cell? ⟨w.heap.size + 1 + 1, 0,none⟩ = some (.slice wa b.length wcc) := bw3.cell 0
  have z0 : w3.cell? ⟨w.heap.size, 0,none⟩ = some (.int .i64 0) := h23.cell 0
  have z1 : w3.frozen? ⟨w.heap.size, 0,none⟩ = false := h23.frozen 0
  have HFIN : Hid (∀ (q : Nat) (er : Int),er = (if allEq eqEB L l' = true then 0 else 7) → ∃ W5,((w3.drewN q).setCell ⟨w.heap.size, 0,none⟩ (.int .i64 er)).putObj w2.heap.size (.deferred none) = W5 ∧ ((w3.drewN q).setCell ⟨w.heap.size, 0,none⟩ (.int .i64 er)).heap[w2.heap.size]? = some (.deferred (some [])) ∧ W5.cell? ⟨w.heap.size, 0,none⟩ = some (.int .i64 er) ∧ CheckP w A L Ed Es (.returned (.int .i64 er)) W5) := fun q er her => by
   have o5 : Off (fun k => k = w.heap.size) (w3.drewN q) ((w3.drewN q).setCell ⟨w.heap.size, 0,none⟩ (.int .i64 er)) := Off.one _ _
   have oq : Off (fun _ => False) w3 (w3.drewN q) := ⟨rfl,rfl,rfl,Nat.le_refl _,fun _ _ _ => rfl⟩
   have ho2 := off_putObj ((w3.drewN q).setCell ⟨w.heap.size, 0,none⟩ (.int .i64 er)) w2.heap.size (.deferred none)
   have h24 : Blk ((w3.drewN q).setCell ⟨w.heap.size, 0,none⟩ (.int .i64 er)) w.heap.size 26 #[.int .i64 er] := (show Blk (w3.drewN q) w.heap.size 26 #[.int .i64 0] from h23).set 0 _
   have h25 : Blk (((w3.drewN q).setCell ⟨w.heap.size, 0,none⟩ (.int .i64 er)).putObj w2.heap.size (.deferred none)) w.heap.size 26 #[.int .i64 er] := (ho2.block _ h24.lt (by omega)).trans h24
   have oA : Off (fun k => w.heap.size ≤ k) w3 (((w3.drewN q).setCell ⟨w.heap.size, 0,none⟩ (.int .i64 er)).putObj w2.heap.size (.deferred none)) := ((oq.mono (fun _ _ h => h.elim)).trans (o5.mono fun k _ h => by omega)).trans (ho2.mono fun k _ h => by omega)
   refine ⟨_,rfl,(o5.block _ (Array.getElem?_eq_some_iff.1 hD3).1 (by omega)).trans hD3,h25.cell 0,h63.step oA (fun k hk h => by omega),er,rfl, .inl ⟨HZ.out,⟨l',by rw [HBW.out]; exact hp3,hs3,her⟩,hEd w3 _ hE3 oA⟩⟩
  clear hrow3 rh3 bh3 bw3 h23 hE3 oE3 h63 hD3 hs3 hp3 hll nO o3 hso c4 HR
  cases hall : allEq eqEB L l' with
  | true =>
   rw [hall] at heq
   have HF0 : Hid _ := fun q => HFIN.out q 0 (by rw [hall]; rfl)
   clear HFIN hall
   gi_wp2_with (refine ⟨trivial, ?_⟩; gi_at_call 105; refine (callsIn_wide.2 heq).mono ?_; rintro e1 w4 ⟨rfl,q,rfl⟩)
   obtain ⟨W5,e5,hD5,d0,hfin⟩ := HF0.out q
   refine ⟨by simp, .inl ⟨_,_,rfl,run_takeDeferred hD5, ?_⟩⟩
   rw [e5]
   exact ⟨.int .i64 0,by simp [results,Tryz.results75,go_sem,d0],hfin⟩
  | false =>
   rw [hall] at heq
   have HF0 : Hid _ := fun q => HFIN.out q 7 (by rw [hall]; rfl)
   clear HFIN hall
   gi_wp2_with (refine ⟨trivial, ?_⟩; gi_at_call 105; refine (callsIn_wide.2 heq).mono ?_; rintro e1 w4 ⟨rfl,q,rfl⟩)
   obtain ⟨W5,e5,hD5,d0,hfin⟩ := HF0.out q
   refine ⟨by simp, .inl ⟨_,_,rfl,run_takeDeferred hD5, ?_⟩⟩
   rw [e5]
   exact ⟨.int .i64 7,by simp [results,Tryz.results75,go_sem,d0],hfin⟩
 case stop =>
  rintro c i W hi ⟨rfl,h6,hx,h2⟩ hE hD
  gi_wp2
  have ho2 := off_putObj W w2.heap.size (.deferred none)
  have hw2 := x4.lt
  have q2 : Blk (W.putObj w2.heap.size (.deferred none)) w.heap.size 26 #[.int .i64 7] := (ho2.block _ h2.lt (by omega)).trans h2
  refine ⟨by simp, .inl ⟨_,_,rfl,run_takeDeferred hD, ?_⟩⟩
  have d0 := q2.cell 0
  simp at d0
  refine ⟨.int .i64 7,by simp [results,Tryz.results75,go_sem,d0], ?_⟩
  exact ⟨h6.step ho2 (fun k hk h => by have := hB1.size; omega), 7,rfl, .inr ⟨rfl,hx,i,hEs _ W _ hE (ho2.mono fun k _ h => by have := hB1.size; omega)⟩⟩
end
end Go.Proofs.YtdgbgmffpcooeaaGreat
