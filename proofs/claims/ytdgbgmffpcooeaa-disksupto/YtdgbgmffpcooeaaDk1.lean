/- Plain facts on the document's disk in memory: its block, its three rows, and what a step leaves of the rest. -/
import Derived.Test.YtdgbgmffpcooeaaBk1
import Derived.Test.YtdgbgmffpcooeaaQCover
namespace Go.Proofs.Ytdgbgmffpcooeaa
open Go.RowKit

/-- All but the blocks of F is as it was. -/
structure Off (F : Nat → Prop) (W W' : World) : Prop where
  os : W'.os = W.os
  tape : W'.tape = W.tape
  output : W'.output = W.output
  size : W.heap.size ≤ W'.heap.size
  block : ∀ k, k < W.heap.size → ¬ F k → W'.heap[k]? = W.heap[k]?
theorem Off.refl (F : Nat → Prop) (W : World) : Off F W W := ⟨rfl, rfl, rfl, Nat.le_refl _, fun _ _ _ => rfl⟩
theorem Off.trans {F : Nat → Prop} {a b c : World} (h : Off F a b) (k : Off F b c) : Off F a c :=
  ⟨k.os.trans h.os, k.tape.trans h.tape, k.output.trans h.output, Nat.le_trans h.size k.size, fun i hi hf => (k.block i (Nat.lt_of_lt_of_le hi h.size) hf).trans (h.block i hi hf)⟩
theorem Off.mono {F G : Nat → Prop} {W W' : World} (h : Off F W W') (hg : ∀ k, k < W.heap.size → F k → G k) : Off G W W' := ⟨h.os, h.tape, h.output, h.size, fun k hk hf => h.block k hk (fun hF => hf (hg k hk hF))⟩
/-- What may be written besides: blocks that were made since. -/
theorem Off.step {F G : Nat → Prop} {a b c : World} (h : Off F a b) (k : Off G b c) (hg : ∀ i, i < a.heap.size → G i → F i) : Off F a c :=
  ⟨k.os.trans h.os, k.tape.trans h.tape, k.output.trans h.output, Nat.le_trans h.size k.size, fun i hi hf => (k.block i (Nat.lt_of_lt_of_le hi h.size) (fun hG => hf (hg i hi hG))).trans (h.block i hi hf)⟩
theorem Off.of_below {F : Nat → Prop} {W W' : World} (h : Below W.heap.size W W') : Off F W W' := ⟨h.os, h.tape, h.output, h.size, fun k hk _ => h.block k hk⟩
theorem Off.below {F : Nat → Prop} {W W' : World} {n : Nat} (h : Off F W W') (hn : n ≤ W.heap.size) (hF : ∀ k, F k → n ≤ k) : Below n W W' :=
  ⟨h.os, h.tape, h.output, h.size, fun k hk => h.block k (Nat.lt_of_lt_of_le hk hn) (fun hf => by have := hF k hf; omega)⟩
theorem Off.setCell {F : Nat → Prop} {W0 W : World} (h : Off F W0 W) {B i : Nat} (u : Value) (hB : F B ∨ W0.heap.size ≤ B) : Off F W0 (W.setCell ⟨B, i, none⟩ u) :=
  ⟨h.os, h.tape, h.output, by simp [World.setCell]; exact h.size, fun k hk hf => (Below.heap_setCell W ⟨B, i, none⟩ u k (fun e => by
    simp only at e
    subst e
    rcases hB with g | g
    · exact hf g
    · omega)).trans (h.block k hk hf)⟩
theorem Off.drew {F : Nat → Prop} {W0 W : World} (h : Off F W0 W) : Off F W0 W.drew := ⟨h.os, h.tape, h.output, h.size, h.block⟩
theorem Off.alloc {F : Nat → Prop} {W0 W : World} (h : Off F W0 W) (o : Obj) : Off F W0 (W.alloc o) := h.trans (Off.of_below ((Below.refl _ W).alloc (Nat.le_refl _) o))
theorem Off.grown {F : Nat → Prop} {W0 W W' : World} {row : Option Nat} (h : Off F W0 W) (hg : W.grownBy W' row) (hr : ∀ j, row = some j → F j ∨ W0.heap.size ≤ j) : Off F W0 W' :=
  ⟨hg.os.trans h.os, hg.tape.trans h.tape, hg.output.trans h.output, Nat.le_trans h.size hg.size, fun k hk hf => (hg.block k (Nat.lt_of_lt_of_le hk h.size) (fun e => by
    rcases hr k e.symm with g | g
    · exact hf g
    · omega)).trans (h.block k hk hf)⟩
theorem Blk.off {F : Nat → Prop} {W W' : World} {B : Nat} {t : TypeId} {vs : Array Value} (h : Blk W B t vs) (ho : Off F W W') (hB : ¬ F B) : Blk W' B t vs := (ho.block B h.lt hB).trans h
theorem own_off {F : Nat → Prop} {W W' : World} {base : Nat} {e : TypeId} {size g n cap : Nat} {xs : List Value} (h : W.ownsRow base e size (.slice (some ⟨g, 0, none⟩) n cap) n xs) (ho : Off F W W') (hg : ¬ F g) : W'.ownsRow base e size (.slice (some ⟨g, 0, none⟩) n cap) n xs := by
  obtain ⟨h0, h1 | ⟨g', cap', cur, e1, e2, e3, e4⟩⟩ := h
  · exact ⟨h0, .inl h1⟩
  · cases e1
    exact ⟨h0, .inr ⟨g, cap, cur, rfl, e2, (ho.block g (Array.getElem?_eq_some_iff.1 e3).1 hg).trans e3, e4⟩⟩

def upd {α : Type} (f : Nat → α) (i : Nat) (b : α) : Nat → α := fun j => if j = i then b else f j
theorem upd_same {α : Type} (f : Nat → α) (i : Nat) (b : α) : upd f i b i = b := by simp [upd]
theorem upd_ne {α : Type} (f : Nat → α) {i j : Nat} (b : α) (h : j ≠ i) : upd f i b j = f j := by simp [upd, h]
theorem range_set {α : Type} (k : α → Value) (f : Nat → α) (n i : Nat) (b : α) : ((List.range n).map fun j => k (f j)).set i (k b) = (List.range n).map fun j => k (upd f i b j) := by
  apply List.ext_getElem?
  intro t
  rw [List.getElem?_set]
  simp only [List.getElem?_map, List.length_map, List.length_range]
  by_cases h : i = t
  · subst h
    by_cases g : i < n
    · rw [if_pos rfl, if_pos g, List.getElem?_range g]; simp [upd]
    · rw [if_pos rfl, if_neg g, List.getElem?_eq_none (by simp; omega)]; rfl
  · rw [if_neg h]
    by_cases g : t < n
    · rw [List.getElem?_range g]; simp [upd, Ne.symm h]
    · rw [List.getElem?_eq_none (by simp; omega)]; rfl
theorem range_get {α : Type} (k : α → Value) (f : Nat → α) (n i : Nat) (h : i < n) : ((List.range n).map fun j => k (f j))[i]? = some (k (f i)) := by
  rw [List.getElem?_map, List.getElem?_range h]; rfl

/-- The document's disk. -/
structure RS where
  n : Nat
  safe : Nat → ByteArray
  now : Nat → ByteArray
  dirty : Nat → Bool
  broken : Bool
  counts : Bool
  left : Int
  steps : Int
/-- Where it lies. -/
structure RA where
  r : Nat
  sa : Nat
  no : Nat
  di : Nat
  cs : Nat
  cn : Nat
  cd : Nat
def RA.F (A : RA) (k : Nat) : Prop := k = A.r ∨ k = A.sa ∨ k = A.no ∨ k = A.di
def rdCells (A : RA) (s : RS) : Array Value := #[.slice (some ⟨A.sa, 0, none⟩) s.n A.cs, .slice (some ⟨A.no, 0, none⟩) s.n A.cn, .slice (some ⟨A.di, 0, none⟩) s.n A.cd, .bool s.broken, .bool s.counts, .int .i64 s.left, .int .i64 s.steps]
structure RD (W : World) (base : Nat) (A : RA) (s : RS) : Prop where
  le : base ≤ A.r
  blk : Blk W A.r 86 (rdCells A s)
  rowS : W.ownsRow base 9 1 (.slice (some ⟨A.sa, 0, none⟩) s.n A.cs) s.n ((List.range s.n).map fun i => .string (s.safe i))
  rowN : W.ownsRow base 9 1 (.slice (some ⟨A.no, 0, none⟩) s.n A.cn) s.n ((List.range s.n).map fun i => .string (s.now i))
  rowD : W.ownsRow base 4 1 (.slice (some ⟨A.di, 0, none⟩) s.n A.cd) s.n ((List.range s.n).map fun i => .bool (s.dirty i))
  ne : A.sa ≠ A.no
  n1 : 256 ≤ s.n
  n2 : s.n ≤ 4096
theorem RD.off {F : Nat → Prop} {W W' : World} {base : Nat} {A : RA} {s : RS} (h : RD W base A s) (ho : Off F W W') (hF : ∀ k, A.F k → ¬ F k) : RD W' base A s :=
  ⟨h.le, h.blk.off ho (hF _ (.inl rfl)), own_off h.rowS ho (hF _ (.inr (.inl rfl))), own_off h.rowN ho (hF _ (.inr (.inr (.inl rfl)))), own_off h.rowD ho (hF _ (.inr (.inr (.inr rfl)))), h.ne, h.n1, h.n2⟩
theorem RD.below {W W' : World} {base : Nat} {A : RA} {s : RS} (h : RD W base A s) (hb : Below W.heap.size W W') : RD W' base A s := h.off (F := fun _ => False) (Off.of_below hb) (fun _ _ h => h)
theorem RD.ge {W : World} {base : Nat} {A : RA} {s : RS} (h : RD W base A s) (k : Nat) (hk : A.F k) : base ≤ k ∧ k < W.heap.size := by
  rcases hk with rfl | rfl | rfl | rfl
  · exact ⟨h.le, h.blk.lt⟩
  · exact own_lt h.rowS
  · exact own_lt h.rowN
  · exact own_lt h.rowD
theorem RD.cell {W : World} {base : Nat} {A : RA} {s : RS} (h : RD W base A s) (i : Nat) (u : Value) {s' : RS} (hn : s'.n = s.n) (h1 : s'.safe = s.safe) (h2 : s'.now = s.now) (h3 : s'.dirty = s.dirty) (hc : (rdCells A s).setIfInBounds i u = rdCells A s') : RD (W.setCell ⟨A.r, i, none⟩ u) base A s' := by
  have hb := h.blk.set i u
  rw [hc] at hb
  refine ⟨h.le, hb, ?_, ?_, ?_, h.ne, by rw [hn]; exact h.n1, by rw [hn]; exact h.n2⟩
  · rw [hn, h1]; exact own_other h.rowS h.blk (by decide) u
  · rw [hn, h2]; exact own_other h.rowN h.blk (by decide) u
  · rw [hn, h3]; exact own_other h.rowD h.blk (by decide) u
theorem RD.setNow {W : World} {base : Nat} {A : RA} {s : RS} (h : RD W base A s) (i : Nat) (b : ByteArray) : RD (W.setCell ⟨A.no, i, none⟩ (.string b)) base A { s with now := upd s.now i b } := by
  obtain ⟨_, cs, hN⟩ := own_tagged h.rowN (j := A.no) rfl
  refine ⟨h.le, h.blk.other (Ne.symm (tag_ne h.blk hN (by decide))) _ _, own_far h.rowS (by simp [Value.ownBlock]; exact h.ne) _, ?_, own_other h.rowD hN (by decide) _, h.ne, h.n1, h.n2⟩
  have := own_set h.rowN i (.string b)
  rw [range_set Value.string s.now] at this
  exact this
theorem RD.setSafe {W : World} {base : Nat} {A : RA} {s : RS} (h : RD W base A s) (i : Nat) (b : ByteArray) : RD (W.setCell ⟨A.sa, i, none⟩ (.string b)) base A { s with safe := upd s.safe i b } := by
  obtain ⟨_, cs, hS⟩ := own_tagged h.rowS (j := A.sa) rfl
  refine ⟨h.le, h.blk.other (Ne.symm (tag_ne h.blk hS (by decide))) _ _, ?_, own_far h.rowN (by simp [Value.ownBlock]; exact Ne.symm h.ne) _, own_other h.rowD hS (by decide) _, h.ne, h.n1, h.n2⟩
  have := own_set h.rowS i (.string b)
  rw [range_set Value.string s.safe] at this
  exact this
theorem RD.setDirty {W : World} {base : Nat} {A : RA} {s : RS} (h : RD W base A s) (i : Nat) (b : Bool) : RD (W.setCell ⟨A.di, i, none⟩ (.bool b)) base A { s with dirty := upd s.dirty i b } := by
  obtain ⟨_, cs, hD⟩ := own_tagged h.rowD (j := A.di) rfl
  refine ⟨h.le, h.blk.other (Ne.symm (tag_ne h.blk hD (by decide))) _ _, own_other h.rowS hD (by decide) _, own_other h.rowN hD (by decide) _, ?_, h.ne, h.n1, h.n2⟩
  have := own_set h.rowD i (.bool b)
  rw [range_set Value.bool s.dirty] at this
  exact this
theorem RD.getNow {W : World} {base : Nat} {A : RA} {s : RS} (h : RD W base A s) {i : Nat} (hi : i < s.n) : W.cell? ⟨A.no, i, none⟩ = some (.string (s.now i)) ∧ W.frozen? ⟨A.no, i, none⟩ = false := by
  have := own_cell h.rowN i (by omega)
  rw [range_get Value.string s.now s.n i hi] at this; exact this
theorem RD.getSafe {W : World} {base : Nat} {A : RA} {s : RS} (h : RD W base A s) {i : Nat} (hi : i < s.n) : W.cell? ⟨A.sa, i, none⟩ = some (.string (s.safe i)) ∧ W.frozen? ⟨A.sa, i, none⟩ = false := by
  have := own_cell h.rowS i (by omega)
  rw [range_get Value.string s.safe s.n i hi] at this; exact this
theorem RD.getDirty {W : World} {base : Nat} {A : RA} {s : RS} (h : RD W base A s) {i : Nat} (hi : i < s.n) : W.cell? ⟨A.di, i, none⟩ = some (.bool (s.dirty i)) ∧ W.frozen? ⟨A.di, i, none⟩ = false := by
  have := own_cell h.rowD i (by omega)
  rw [range_get Value.bool s.dirty s.n i hi] at this; exact this
end Go.Proofs.Ytdgbgmffpcooeaa
