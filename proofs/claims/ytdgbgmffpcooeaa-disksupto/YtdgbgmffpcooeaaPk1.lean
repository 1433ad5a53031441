/- Plain facts on the program's disk in memory: its two blocks, its sectors, its map. -/
import Derived.Test.YtdgbgmffpcooeaaDk6
import Derived.Deep.MidRow
import Derived.Maps.RangeWalk
import Derived.Maps.OwnSet
import Derived.Lib.LazyBuf
namespace Go.Proofs.Ytdgbgmffpcooeaa
open Go.RowKit Go.Lib Go.Maps

/-- A sector's value. -/
def secV (b : ByteArray) : Value := .agg (strCells b).toArray
theorem u8_inj {a b : UInt8} (h : (Value.int .u8 (a.toNat : Int)) = .int .u8 (b.toNat : Int)) : a = b := by
  injection h with _ h
  exact UInt8.toNat_inj.1 (by omega)
theorem strCells_inj {a b : ByteArray} (h : strCells a = strCells b) : a = b := by
  unfold strCells at h
  have : a.data.toList = b.data.toList := List.map_inj_right (fun x y e => u8_inj e) |>.1 h
  have h2 : a.data = b.data := Array.toList_inj.1 this
  cases a; cases b; simp only at h2; rw [h2]
theorem secV_inj {a b : ByteArray} (h : secV a = secV b) : a = b := by
  unfold secV at h
  injection h with h
  exact strCells_inj (by simpa using h)

open Classical in
/-- How a sector in a map is read. -/
noncomputable def secR (v : Value) : Option (DataW Unit × List MemPlace) := if h : ∃ b : ByteArray, b.size = 256 ∧ v = secV b then some (.lit (.string h.choose.data.toList), []) else none
theorem secR_mk {b : ByteArray} (hb : b.size = 256) : secR (secV b) = some (.lit (.string b.data.toList), []) := by
  have h : ∃ c : ByteArray, c.size = 256 ∧ secV b = secV c := ⟨b, hb, rfl⟩
  unfold secR
  rw [dif_pos h, ← secV_inj h.choose_spec.2]
theorem secR_inv {v : Value} {y : DataW Unit × List MemPlace} (h : secR v = some y) : ∃ b : ByteArray, b.size = 256 ∧ v = secV b ∧ y = (.lit (.string b.data.toList), []) := by
  unfold secR at h
  split at h
  · rename_i g
    injection h with h
    exact ⟨g.choose, g.choose_spec.1, g.choose_spec.2, h.symm⟩
  · cases h
theorem lit_inj {a b : ByteArray} (h : (DataW.lit (.string a.data.toList) : DataW Unit) = .lit (.string b.data.toList)) : a = b := by
  injection h with h
  injection h with h
  have h2 : a.data = b.data := Array.toList_inj.1 h
  cases a; cases b; simp only at h2; rw [h2]

abbrev kl (i : Nat) : Lit := .int .i64 (i : Int)
/-- What the map holds, sector by sector. -/
structure MapIs (D : DataW Unit) (old : Nat → Option ByteArray) (n : Nat) : Prop where
  has_ : ∀ i, i < n → Maps.has D (kl i) = (old i).isSome
  val : ∀ i b, i < n → old i = some b → ∀ z, D.atKey (kl i) z = .lit (.string b.data.toList)
  keys : ∀ k, Maps.has D k = true → ∃ i, i < n ∧ k = kl i
  size : ∀ i b, i < n → old i = some b → b.size = 256

/-- The program's disk. -/
structure PS where
  n : Nat
  now : Nat → ByteArray
  old : Nat → Option ByteArray
  left : Int
  broken : Bool
  steps : Int
structure PA where
  p : Nat
  q : Nat
  g : Nat
  m : Nat
def PA.F (A : PA) (k : Nat) : Prop := k = A.p ∨ k = A.q ∨ k = A.g ∨ k = A.m
def pdCells (A : PA) (s : PS) : Array Value := #[.slice (some ⟨A.g, 0, none⟩) s.n s.n, .map (some A.m), .int .i64 s.left, .bool s.broken, .int .i64 s.steps]
/-- The sectors' block. -/
structure Sec (W : World) (g n : Nat) (now : Nat → ByteArray) : Prop where
  blk : ∃ cur, W.heap[g]? = some (.cells cur 107 (0, 0)) ∧ cur.size = n * 256
  at_ : ∀ i, i < n → W.rangeAt g (i * 256) (strCells (now i))
  size : ∀ i, i < n → (now i).size = 256
structure PD (W : World) (base : Nat) (A : PA) (s : PS) : Prop where
  le : base ≤ A.p ∧ base ≤ A.q ∧ base ≤ A.g ∧ base ≤ A.m
  blkP : Blk W A.p 100 #[.pointer (some ⟨A.q, 0, none⟩)]
  blkQ : Blk W A.q 105 (pdCells A s)
  sec : Sec W A.g s.n s.now
  map : ∃ k D, W.ownsMap Try.prog 3 secR A.m k D ∧ (k : Int) ≤ s.steps ∧ MapIs D s.old s.n
  n1 : 256 ≤ s.n
  n2 : s.n ≤ 4096

theorem rangeAt_off {F : Nat → Prop} {W W' : World} {b o : Nat} {cs : List Value} (h : W.rangeAt b o cs) (ho : Off F W W') (hb : ¬ F b) (hlt : b < W.heap.size) : W'.rangeAt b o cs := fun j v hv => (World.cell?_of_block (ho.block b hlt hb)).trans (h j v hv)
theorem Sec.lt {W : World} {g n : Nat} {now : Nat → ByteArray} (h : Sec W g n now) : g < W.heap.size := by obtain ⟨cur, h1, _⟩ := h.blk; exact (Array.getElem?_eq_some_iff.1 h1).1
theorem Sec.off {F : Nat → Prop} {W W' : World} {g n : Nat} {now : Nat → ByteArray} (h : Sec W g n now) (ho : Off F W W') (hg : ¬ F g) : Sec W' g n now := by
  obtain ⟨cur, h1, h2⟩ := h.blk
  exact ⟨⟨cur, (ho.block g h.lt hg).trans h1, h2⟩, fun i hi => rangeAt_off (h.at_ i hi) ho hg h.lt, h.size⟩
theorem map_off {F : Nat → Prop} {W W' : World} {m k : Nat} {D : DataW Unit} (h : W.ownsMap Try.prog 3 secR m k D) (ho : Off F W W') (hm : ¬ F m) : W'.ownsMap Try.prog 3 secR m k D := by
  obtain ⟨es, c, h1, h2⟩ := h
  exact ⟨es, c, (ho.block m (Array.getElem?_eq_some_iff.1 h1).1 hm).trans h1, h2⟩
theorem map_lt {W : World} {m k : Nat} {D : DataW Unit} (h : W.ownsMap Try.prog 3 secR m k D) : m < W.heap.size := by obtain ⟨es, c, h1, h2⟩ := h; exact (Array.getElem?_eq_some_iff.1 h1).1
theorem PD.off {F : Nat → Prop} {W W' : World} {base : Nat} {A : PA} {s : PS} (h : PD W base A s) (ho : Off F W W') (hF : ∀ k, A.F k → ¬ F k) : PD W' base A s := by
  obtain ⟨k, D, h1, h2⟩ := h.map
  exact ⟨h.le, h.blkP.off ho (hF _ (.inl rfl)), h.blkQ.off ho (hF _ (.inr (.inl rfl))), h.sec.off ho (hF _ (.inr (.inr (.inl rfl)))), ⟨k, D, map_off h1 ho (hF _ (.inr (.inr (.inr rfl)))), h2⟩, h.n1, h.n2⟩
theorem PD.below {W W' : World} {base : Nat} {A : PA} {s : PS} (h : PD W base A s) (hb : Below W.heap.size W W') : PD W' base A s := h.off (F := fun _ => False) (Off.of_below hb) (fun _ _ h => h)
theorem PD.lt {W : World} {base : Nat} {A : PA} {s : PS} (h : PD W base A s) (k : Nat) (hk : A.F k) : base ≤ k ∧ k < W.heap.size := by
  obtain ⟨l1, l2, l3, l4⟩ := h.le
  obtain ⟨c, D, h1, h2⟩ := h.map
  rcases hk with rfl | rfl | rfl | rfl
  · exact ⟨l1, h.blkP.lt⟩
  · exact ⟨l2, h.blkQ.lt⟩
  · exact ⟨l3, h.sec.lt⟩
  · exact ⟨l4, map_lt h1⟩
theorem PD.apart {W : World} {base : Nat} {A : PA} {s : PS} (h : PD W base A s) : A.p ≠ A.q ∧ A.g ≠ A.q ∧ A.m ≠ A.q ∧ A.g ≠ A.p ∧ A.m ≠ A.p ∧ A.m ≠ A.g := by
  obtain ⟨k, D, ⟨es, c, h1, _⟩, h2⟩ := h.map
  obtain ⟨cur, h3, h4⟩ := h.sec.blk
  have hp : W.heap[A.p]? = _ := h.blkP
  have hq : W.heap[A.q]? = _ := h.blkQ
  refine ⟨fun e => ?_, fun e => ?_, fun e => ?_, fun e => ?_, fun e => ?_, fun e => ?_⟩
  · rw [e, hq] at hp; cases hp
  · rw [e, hq] at h3; cases h3
  · rw [e, hq] at h1; cases h1
  · rw [e, hp] at h3; cases h3
  · rw [e, hp] at h1; cases h1
  · rw [e, h3] at h1; cases h1
theorem PD.cells {W : World} {base : Nat} {A : PA} {s : PS} (h : PD W base A s) : W.cell? ⟨A.q, 0, none⟩ = some (.slice (some ⟨A.g, 0, none⟩) s.n s.n) ∧ W.cell? ⟨A.q, 1, none⟩ = some (.map (some A.m)) ∧ W.cell? ⟨A.q, 2, none⟩ = some (.int .i64 s.left) ∧ W.cell? ⟨A.q, 3, none⟩ = some (.bool s.broken) ∧ W.cell? ⟨A.q, 4, none⟩ = some (.int .i64 s.steps) :=
  ⟨h.blkQ.cell 0, h.blkQ.cell 1, h.blkQ.cell 2, h.blkQ.cell 3, h.blkQ.cell 4⟩
theorem Off.one (W : World) {B i : Nat} (u : Value) : Off (fun k => k = B) W (W.setCell ⟨B, i, none⟩ u) := (Off.refl _ W).setCell u (.inl rfl)
/-- A number or a flag of the disk is written. -/
theorem PD.cell {W : World} {base : Nat} {A : PA} {s : PS} (h : PD W base A s) (i : Nat) (u : Value) {s' : PS} (hn : s'.n = s.n) (h1 : s'.now = s.now) (h2 : s'.old = s.old) (hs : s.steps ≤ s'.steps) (hc : (pdCells A s).setIfInBounds i u = pdCells A s') : PD (W.setCell ⟨A.q, i, none⟩ u) base A s' := by
  have hb := h.blkQ.set i u
  rw [hc] at hb
  obtain ⟨a1, a2, a3, a4, a5, a6⟩ := h.apart
  obtain ⟨k, D, m1, m2, m3⟩ := h.map
  have ho := Off.one (i := i) (B := A.q) W u
  refine ⟨h.le, h.blkP.off ho a1, hb, ?_, ⟨k, D, map_off m1 ho a3, by omega, by rw [h2, hn]; exact m3⟩, by rw [hn]; exact h.n1, by rw [hn]; exact h.n2⟩
  rw [hn, h1]; exact h.sec.off ho a2
end Go.Proofs.Ytdgbgmffpcooeaa
