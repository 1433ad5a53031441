/- Tn4 -/
import Derived.Test.YtdgbgmffpcooeaaGreatV53
namespace Go.Proofs.YtdgbgmffpcooeaaGreat
open Go.RowKit Go.Lib
section
structure FAt (w : World) (so : Option Addr) (ls : Nat) (L : Nat → FallR) : Prop where
 at_ : ∀ i,i < ls → ∃ a,so = some a ∧ a.block < w.heap.size ∧ w.cell? (a.add (i * 10)) = some (.slice (L i).ma (L i).ml (L i).mc) ∧ ∀ j, 0 < j → j < 10 → w.cell? ⟨(a.add (i * 10)).block,(a.add (i * 10)).off + j,none⟩ = (fallC (L i))[j]?
 wf : ∀ i,i < ls → (Lit.int .i64 (L i).nn).wf = true ∧ (Lit.int .i64 (L i).early).wf = true ∧ (Lit.int .i64 (L i).kind).wf = true
 mv : ∀ i,i < ls → (∃ O,MAt w (L i).ma (L i).ml O) ∧ (L i).ml ≤ 9223372036854775807
 kp : ∀ i,i < ls → (∃ K,KAt w (L i).ka (L i).kl K) ∧ (L i).kl ≤ 9223372036854775807
theorem MAt.low {w W : World} {so : Option Addr} {ls : Nat} {O : Nat → MvR} (h : MAt w so ls O) (hb : Below w.heap.size w W) : MAt W so ls O :=
 ⟨fun i hi => by
  obtain ⟨a,e,l,c0,c1,c2⟩ := h.at_ i hi
  have hbk : (a.add (i * 3)).block = a.block := by unfold Addr.add; split <;> rfl
  have k : ∀ o,W.cell? ⟨(a.add (i * 3)).block,o,none⟩ = w.cell? ⟨(a.add (i * 3)).block,o,none⟩ := fun o => hb.cell (p := ⟨(a.add (i * 3)).block,o,none⟩) (by show (a.add (i * 3)).block < _; rw [hbk]; exact l)
  exact ⟨a,e,Nat.lt_of_lt_of_le l hb.size,(hb.cell (p := a.add (i * 3)) (by rw [hbk]; exact l)).trans c0,(k _).trans c1,(k _).trans c2⟩,h.wf⟩
set_option maxRecDepth 100000 in
set_option maxHeartbeats 4000000 in
theorem torn_any (w : World) (c : Int) (hwc : (Lit.int .i64 c).wf = true) (so : Option Addr) (ls cs : Nat) (L : Nat → FallR) (hO : FAt w so ls L) (hls : ls ≤ 9223372036854775807) :
  Calls Tryz.prog 6 #[.int .i64 c, .slice so ls cs] w fun e w' => e = .returned (.bool true) ∧ Below w.heap.size w w' := by
 have hbg := begun_any w c hwc
 go_enter Tryz.func6,Tryz.ntmps6
 go_upto_region 2 with (go_at_call 15; refine hbg.mono ?_; rintro e w1 ⟨G,p,X,n, σ,rfl,hG1,hn,hb1,_⟩)
 have HB1 : Hid (Below w.heap.size w w1) := hb1
 have HG1 : Hid (GameX w1 (fun k => k < w.heap.size) G p X n σ (((n - 200) / 4 : Nat) : Int) [(5,⟨3, 4, 9, 9⟩)]) := hG1
 clear hbg hb1 hG1
 go_wp2
 go_loopw [6] (fun x wr => ∃ (i X : Nat) (σ : PS) (tb : List (Int × Box)),x = .int .i64 (i : Int) ∧ i ≤ ls ∧ GameX wr (fun k => k < w.heap.size) G p X n σ (((n - 200) / 4 : Nat) : Int) tb ∧ tb.length ≤ (n - 200) / 4 ∧ Below w.heap.size w wr) (fun x _ => ls - (intOf x).toNat)
 case atStart => exact ⟨0,X, σ,_,rfl,Nat.zero_le _,HG1.out,by simp; omega,HB1.out⟩
 case round =>
  obtain ⟨i,X, σ,tb,rfl,hi,hG,hrm,hb⟩ := hrel
  have HB : Hid (Below w.heap.size w wr) := hb
  clear HB1 HG1
  by_cases hlt : i < ls
  ·have hlt' : (i : Int) < (ls : Int) := by omega
   obtain ⟨a,rfl,hab,q0,qj⟩ := hO.at_ i hlt
   obtain ⟨v0,v1,v2⟩ := hO.wf i hlt
   obtain ⟨⟨O,hM⟩,hml⟩ := hO.mv i hlt
   obtain ⟨⟨K,hK⟩,hkl⟩ := hO.kp i hlt
   have hbk : (a.add (i * 10)).block = a.block := by unfold Addr.add; split <;> rfl
   have r0 : wr.cell? (a.add (i * 10)) = some (.slice (L i).ma (L i).ml (L i).mc) := (hb.cell (p := a.add (i * 10)) (by rw [hbk]; exact hab)).trans q0
   have k : ∀ j, 0 < j → j < 10 → wr.cell? ⟨(a.add (i * 10)).block,(a.add (i * 10)).off + j,none⟩ = (fallC (L i))[j]? := fun j h1 h2 => (hb.cell (p := ⟨(a.add (i * 10)).block,(a.add (i * 10)).off + j,none⟩) (by show (a.add (i * 10)).block < _; rw [hbk]; exact hab)).trans (qj j h1 h2)
   have r1 : wr.cell? ⟨(a.add (i * 10)).block,(a.add (i * 10)).off + 1,none⟩ = some (.int .i64 (L i).nn) := k 1 (by omega) (by omega)
   have r2 : wr.cell? ⟨(a.add (i * 10)).block,(a.add (i * 10)).off + 2,none⟩ = some (.slice (L i).ka (L i).kl (L i).kc) := k 2 (by omega) (by omega)
   have r3 : wr.cell? ⟨(a.add (i * 10)).block,(a.add (i * 10)).off + 3,none⟩ = some (.int .i64 (L i).early) := k 3 (by omega) (by omega)
   have r4 : wr.cell? ⟨(a.add (i * 10)).block,(a.add (i * 10)).off + 4,none⟩ = some (.int .i64 (L i).kind) := k 4 (by omega) (by omega)
   have r5 : wr.cell? ⟨(a.add (i * 10)).block,(a.add (i * 10)).off + 5,none⟩ = some (.int .i64 (L i).id) := k 5 (by omega) (by omega)
   have r6 : wr.cell? ⟨(a.add (i * 10)).block,(a.add (i * 10)).off + 6,none⟩ = some (.int .i64 (L i).a) := k 6 (by omega) (by omega)
   have r7 : wr.cell? ⟨(a.add (i * 10)).block,(a.add (i * 10)).off + 7,none⟩ = some (.int .i64 (L i).b) := k 7 (by omega) (by omega)
   have r8 : wr.cell? ⟨(a.add (i * 10)).block,(a.add (i * 10)).off + 8,none⟩ = some (.int .i64 (L i).c) := k 8 (by omega) (by omega)
   have r9 : wr.cell? ⟨(a.add (i * 10)).block,(a.add (i * 10)).off + 9,none⟩ = some (.int .i64 (L i).d) := k 9 (by omega) (by omega)
   have hb' : Below w.heap.size w wr := hb
   have hmv := falls_any wr (fun k => k < w.heap.size) G p X n σ tb hG hrm (L i) v0 v1 v2 O (hM.low hb') (fun a e l => by obtain ⟨a',e',l',_⟩ := hM.at_ 0 l; rw [e] at e'; cases e'; exact l') hml K (hK.low hb') (fun a e l => by obtain ⟨a',e',l',_⟩ := hK.at_ 0 l; rw [e] at e'; cases e'; exact l') hkl
   clear hbk q0 qj k v0 v1 v2 hG hb hb' hM hK hml hkl hrm
   go_wp2_with (go_at_call 23; refine hmv.mono ?_; rintro e w3 ⟨rfl,hb3,X', σ',tb',hG3,hrm3⟩)
   exact ⟨⟨i + 1,X', σ',tb',by go_num,by omega,hG3,hrm3,HB.out.trans (hb3.lows HB.out.size)⟩,by simp [intOf]; omega⟩
  ·have hlt' : ¬ (i : Int) < (ls : Int) := by omega
   clear hG hO
   go_wp2
   go_ret
   exact ⟨rfl,HB.out⟩
end
end Go.Proofs.YtdgbgmffpcooeaaGreat
