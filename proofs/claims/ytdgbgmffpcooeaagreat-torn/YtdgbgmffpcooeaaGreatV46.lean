/- Nm4 Nm5 -/
import Derived.Test.YtdgbgmffpcooeaaGreatV42
import Derived.Test.YtdgbgmffpcooeaaGreatV45
import Derived.Shelf.RegionOpenPlain
namespace Go.Proofs.YtdgbgmffpcooeaaGreat
open Go.RowKit Go.Lib
section
abbrev gameC (p X : Nat) (sv : Value) (room : Int) : Array Value := #[.pointer (some ⟨p, 0,none⟩), .pointer (some ⟨X, 0,none⟩),sv, .int .i64 room]
def GameX (W : World) (N : Nat → Prop) (G p X n : Nat) (σ : PS) (room : Int) (tb : List (Int × Box)) : Prop :=
 ∃ sv,Blk W G 62 (gameC p X sv room) ∧ TabV W 0 sv tb ∧ LiveX W N p X n σ tb ∧ ¬ N G
theorem GameX.below {w W : World} {N : Nat → Prop} {G p X n : Nat} {σ : PS} {room : Int} {tb : List (Int × Box)} (h : GameX w N G p X n σ room tb) (hb : Below w.heap.size w W) : GameX W N G p X n σ room tb := by
 obtain ⟨sv,h1,h2,h3⟩ := h
 exact ⟨sv,(hb.block G h1.lt).trans h1,own_below h2 hb,h3.1.below hb,h3.2⟩
set_option maxRecDepth 100000 in
set_option maxHeartbeats 4000000 in
theorem gput_any (w : World) (N : Nat → Prop) (G p X n : Nat) (σ : PS) (room : Int) (tb : List (Int × Box)) (h : GameX w N G p X n σ room tb) (id : Int) (hid : 0 ≤ id ∧ id ≤ 4611686018427387904) (v : Box) (hv : v.ok) (hr1 : tb.length ≤ (n - 200) / 4) (hr2 : (tput id v tb).length ≤ (n - 200) / 4) :
  Calls Tryz.prog 25 #[.pointer (some ⟨G, 0,none⟩), .int .i64 id, .agg (boxC v)] w fun e w' => e = .returned (.int .i64 0) ∧ Keep N w w' ∧ ∃ σ',GameX w' N G p X n σ' room (tput id v tb) ∧ Adds σ σ' 400 := by
 obtain ⟨W0,hW0⟩ : ∃ W0,w.alloc (.cells #[.int .i64 (v.a : Int), .int .i64 (v.b : Int), .int .i64 (v.c : Int), .int .i64 (v.d : Int)] 34) = W0 := ⟨_,rfl⟩
 have hb0 : Below w.heap.size w W0 := by rw [← hW0]; exact (Below.refl _ w).alloc (Nat.le_refl _) _
 have B0 : Blk W0 w.heap.size 34 (boxC v) := by rw [← hW0]; exact Blk.new w 34 (boxC v)
 obtain ⟨sv,hG,hT,hL,hbG⟩ := h.below hb0
 have HBW : Hid (Keep N w W0) := Keep.below hb0
 have HW0 : Hid (w.alloc (.cells #[.int .i64 (v.a : Int), .int .i64 (v.b : Int), .int .i64 (v.c : Int), .int .i64 (v.d : Int)] 34) = W0) := hW0
 have HU : Hid (Ups tb ∧ tb.length ≤ 1000000) := ⟨hL.up.1,hL.up.2.2.2.1⟩
 have hc := live_put (hL.below ((Below.refl _ W0).drew)) hid hv hr1 hr2
 have q0 : W0.cell? ⟨w.heap.size, 0,none⟩ = some (.int .i64 (v.a : Int)) := B0.cell 0
 have q1 : W0.cell? ⟨w.heap.size, 1,none⟩ = some (.int .i64 (v.b : Int)) := B0.cell 1
 have q2 : W0.cell? ⟨w.heap.size, 2,none⟩ = some (.int .i64 (v.c : Int)) := B0.cell 2
 have q3 : W0.cell? ⟨w.heap.size, 3,none⟩ = some (.int .i64 (v.d : Int)) := B0.cell 3
 have qX : W0.cell? ⟨G, 1,none⟩ = some (.pointer (some ⟨X, 0,none⟩)) := hG.cell 1
 have HK : Hid (∀ W',CalmW N W0.drew W' → Blk W' G 62 (gameC p X sv room) ∧ Blk W' w.heap.size 34 (boxC v) ∧ TabV W' 0 sv tb) := fun W' hC => ⟨hC.blk hG.drew (by unfold own5; omega),hC.blk B0.drew (by unfold own5; omega),hC.row (own_below hT ((Below.refl _ W0).drew)) (by unfold own5; omega)⟩
 have HS : Hid (∀ W',Blk W' G 62 (gameC p X sv room) → Blk W' w.heap.size 34 (boxC v) → W'.cell? ⟨G, 1,none⟩ = some (.pointer (some ⟨X, 0,none⟩)) ∧ W'.cell? ⟨w.heap.size, 0,none⟩ = some (.int .i64 (v.a : Int)) ∧ W'.cell? ⟨w.heap.size, 1,none⟩ = some (.int .i64 (v.b : Int)) ∧ W'.cell? ⟨w.heap.size, 2,none⟩ = some (.int .i64 (v.c : Int)) ∧ W'.cell? ⟨w.heap.size, 3,none⟩ = some (.int .i64 (v.d : Int))) := fun W' a b => ⟨a.cell 1,b.cell 0,b.cell 1,b.cell 2,b.cell 3⟩
 have hs0 := hb0.size
 clear hW0 h hG B0 hb0 hT hL
 go_enter Tryz.func25,Tryz.ntmps25
 go_upto_region 1 with fail
 rw [HW0.out]
 go_region_held3 (fun W' => W'.cell? ⟨G, 1,none⟩ = some (.pointer (some ⟨X, 0,none⟩)) ∧ W'.cell? ⟨w.heap.size, 0,none⟩ = some (.int .i64 (v.a : Int)) ∧ W'.cell? ⟨w.heap.size, 1,none⟩ = some (.int .i64 (v.b : Int)) ∧ W'.cell? ⟨w.heap.size, 2,none⟩ = some (.int .i64 (v.c : Int)) ∧ W'.cell? ⟨w.heap.size, 3,none⟩ = some (.int .i64 (v.d : Int)))
  (first
   | exact ⟨qX,q0,q1,q2,q3⟩
   | exact HS.out _ (HK.out _ hC1).1 (HK.out _ hC1).2.1
   | go_keep)
  ((go_at_call 10; refine hc.mono ?_; rintro e w1 ⟨rfl,hC1, σ',hL1,hA1⟩))
 obtain ⟨g1,b1,t1⟩ := HK.out w1 hC1
 have hs1 : W0.heap.size ≤ w1.heap.size := hC1.size
 have HBW1 : Hid (Keep N w w1) := HBW.out.trans ((Keep.below ((Below.refl _ W0).drew)).trans hC1.keep)
 have HG1 : Hid (Blk w1 G 62 (gameC p X sv room)) := g1
 have HL1 : Hid (LiveX w1 N p X n σ' (tput id v tb)) := hL1
 obtain ⟨sa,sc,rfl,_,_,_⟩ := own_shape t1
 have hmp := mput_any w1.drew 0 (.slice sa tb.length sc) tb (own_below t1 ((Below.refl _ w1).drew)) HU.out.1 HU.out.2 id v
 have p0 : w1.cell? ⟨w.heap.size, 0,none⟩ = some (.int .i64 (v.a : Int)) := b1.cell 0
 have p1 : w1.cell? ⟨w.heap.size, 1,none⟩ = some (.int .i64 (v.b : Int)) := b1.cell 1
 have p2 : w1.cell? ⟨w.heap.size, 2,none⟩ = some (.int .i64 (v.c : Int)) := b1.cell 2
 have p3 : w1.cell? ⟨w.heap.size, 3,none⟩ = some (.int .i64 (v.d : Int)) := b1.cell 3
 have pS : w1.cell? ⟨G, 2,none⟩ = some (.slice sa tb.length sc) := g1.cell 2
 have hGl := g1.lt
 clear hc HK HS q0 q1 q2 q3 qX hL1 g1 b1 t1 hC1
 go_upto_region 3 with fail
 have hmx : Tryz.prog.follows .mixedOrders = true := by kernel_rfl
 go_region_with_o (first
  | (go_at_call 53; refine hmp.mono ?_; rintro e w2 ⟨ov,rfl,hT2,hb2⟩; obtain ⟨oa,oc,rfl,_,_,_⟩ := own_shape hT2; have hb2' : Below w1.heap.size w1 w2 := ((Below.refl _ w1).drew).trans hb2; have g2 := HG1.out.below hb2' hGl; have d2 : w2.cell? ⟨G, 2,none⟩ = some (.slice sa tb.length sc) := g2.cell 2; have f2 : w2.frozen? ⟨G, 2,none⟩ = false := g2.frozen 2))
 all_goals
  go_wp2
  go_ret
  have o2 : Off (fun k => k = G) w2 (w2.setCell ⟨G, 2,none⟩ (.slice oa (tput id v tb).length oc)) := Off.one w2 _
  have hbw2 : Keep N w w2 := HBW1.out.trans (Keep.below hb2')
  exact ⟨rfl,hbw2.trans (Keep.off o2 (fun k h => h ▸ hbG)), σ',⟨_,g2.set 2 _,own_offv (own_mono hT2 (Nat.zero_le _)) o2 (fun g hg e => own_ne hT2 g2 (by decide) g hg e),(HL1.out.below hb2').off g2 (by unfold own5; omega) (by decide) (by decide) o2,hbG⟩,hA1⟩
end
section
theorem below_drewN (w : World) (q k : Nat) : Below k w (w.drewN q) := ⟨rfl,rfl,rfl,Nat.le_refl _,fun _ _ => rfl⟩
theorem own_int {W : World} {base g cap : Nat} {l : List Int} (h : W.ownsRow base 3 1 (.slice (some ⟨g, 0,none⟩) l.length cap) l.length (intsV l)) {k : Nat} {x : Int} (hx : l[k]? = some x) : W.cell? ⟨g,k,none⟩ = some (.int .i64 x) := by
 have hk : k < l.length := (List.getElem?_eq_some_iff.1 hx).1
 have := (own_cell h k (by omega)).1
 rw [show (intsV l)[k]? = some (.int .i64 x) by simp [intsV,hx]] at this
 exact this
theorem own_int_form {W : World} {base : Nat} {l : List Int} {v : Value} (h : W.ownsRow base 3 1 v l.length (intsV l)) (hl : 0 < l.length) : ∃ g cap,v = .slice (some ⟨g, 0,none⟩) l.length cap := by
 obtain ⟨_,⟨e,hn⟩ | ⟨g,cap,cur,e,_⟩⟩ := h
 ·omega
 ·exact ⟨g,cap,e⟩
end
end Go.Proofs.YtdgbgmffpcooeaaGreat
