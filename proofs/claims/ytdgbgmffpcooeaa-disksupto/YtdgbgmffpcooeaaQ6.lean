/- The pairs of disks that the law keeps: what is known of them ahead of a step and behind it. -/
import Derived.Test.YtdgbgmffpcooeaaQ5
import Derived.Deep.CutBlock
namespace Go.Proofs.Ytdgbgmffpcooeaa
open Go.RowKit Go.Lib Go.Maps

/-- A step that came in. -/
structure OpR where
  kd : Int
  wd : Int
  ad : Int
  sd : ByteArray
  ak : Option Addr
  lk : Nat
  ck : Nat
  r1 : Int
  r2 : Int
  r3 : Int
  r4 : Int
/-- The steps that came in. -/
structure OAt (w : World) (so : Option Addr) (ls : Nat) (O : Nat → OpR) : Prop where
  at_ : ∀ i, i < ls → ∃ a, so = some a ∧ a.block < w.heap.size ∧ w.cell? (a.add (i * 9)) = some (.int .i64 (O i).kd) ∧ w.cell? ⟨(a.add (i * 9)).block, (a.add (i * 9)).off + 1, none⟩ = some (.int .i64 (O i).wd) ∧ w.cell? ⟨(a.add (i * 9)).block, (a.add (i * 9)).off + 2, none⟩ = some (.int .i64 (O i).ad) ∧ w.cell? ⟨(a.add (i * 9)).block, (a.add (i * 9)).off + 3, none⟩ = some (.string (O i).sd) ∧ w.cell? ⟨(a.add (i * 9)).block, (a.add (i * 9)).off + 4, none⟩ = some (.slice (O i).ak (O i).lk (O i).ck) ∧ w.cell? ⟨(a.add (i * 9)).block, (a.add (i * 9)).off + 5, none⟩ = some (.int .i64 (O i).r1) ∧ w.cell? ⟨(a.add (i * 9)).block, (a.add (i * 9)).off + 6, none⟩ = some (.int .i64 (O i).r2) ∧ w.cell? ⟨(a.add (i * 9)).block, (a.add (i * 9)).off + 7, none⟩ = some (.int .i64 (O i).r3) ∧ w.cell? ⟨(a.add (i * 9)).block, (a.add (i * 9)).off + 8, none⟩ = some (.int .i64 (O i).r4)
  wd_ : ∀ i, i < ls → -9223372036854775808 ≤ (O i).wd ∧ (O i).wd ≤ 9223372036854775807
  ad_ : ∀ i, i < ls → -9223372036854775808 ≤ (O i).ad ∧ (O i).ad ≤ 9223372036854775807
  sd_ : ∀ i, i < ls → (O i).sd.size ≤ 1048576
  lk_ : ∀ i, i < ls → (O i).lk ≤ 1048576
  kat : ∀ i, i < ls → ∃ K, KAt w (O i).ak (O i).lk K

/-- A pair of disks: where they lie. -/
structure Duo where
  x : Value
  y : Value
  F : Nat → Prop
def Two (W : World) (base k : Nat) (E : Duo) : Prop :=
  (E.x = .pointer none ∧ E.y = .pointer none ∧ ∀ j, ¬ E.F j) ∨ ∃ A s B r, E.x = .pointer (some ⟨A.p, 0, none⟩) ∧ E.y = .pointer (some ⟨B.r, 0, none⟩) ∧ PD W base A s ∧ RD W base B r ∧ Rel k s r ∧ (∀ j, A.F j → ¬ B.F j) ∧ ∀ j, E.F j ↔ A.F j ∨ B.F j
def flat2 (L : List Duo) : List Value := L.flatMap fun e => [e.x, e.y]
theorem Two.off {F : Nat → Prop} {W W' : World} {base k k' : Nat} {E : Duo} (h : Two W base k E) (hk : k ≤ k') (ho : Off F W W') (hF : ∀ j, E.F j → ¬ F j) : Two W' base k' E := by
  rcases h with h | ⟨A, s, B, r, h1, h2, h3, h4, h5, h6, h7⟩
  · exact .inl h
  · exact .inr ⟨A, s, B, r, h1, h2, h3.off ho (fun j hj => hF j ((h7 j).2 (.inl hj))), h4.off ho (fun j hj => hF j ((h7 j).2 (.inr hj))), h5.mono hk, h6, h7⟩
theorem Two.lt {W : World} {base k : Nat} {E : Duo} (h : Two W base k E) (j : Nat) (hj : E.F j) : base ≤ j ∧ j < W.heap.size := by
  rcases h with ⟨_, _, h⟩ | ⟨A, s, B, r, h1, h2, h3, h4, h5, h6, h7⟩
  · exact absurd hj (h j)
  · rcases (h7 j).1 hj with h | h
    · exact h3.lt j h
    · exact h4.ge j h
theorem length_flat2 (L : List Duo) : (flat2 L).length = L.length * 2 := by
  induction L with
  | nil => rfl
  | cons e r ih => simp only [flat2, List.flatMap_cons, List.length_append, List.length_cons, List.length_nil] at ih ⊢; omega
theorem get_flat2 (L : List Duo) (i : Nat) (h : i < L.length) : (flat2 L)[i * 2]? = some (L[i]).x ∧ (flat2 L)[i * 2 + 1]? = some (L[i]).y := by
  induction L generalizing i with
  | nil => simp at h
  | cons e r ih =>
    cases i with
    | zero => simp [flat2]
    | succ i =>
      have := ih i (by simpa using h)
      simp only [flat2, List.flatMap_cons] at this ⊢
      rw [List.getElem?_append_right (by simp; omega), List.getElem?_append_right (by simp; omega)]
      simp only [List.length_cons, List.length_nil]
      rw [show (i + 1) * 2 - (0 + 1 + 1) = i * 2 by omega, show (i + 1) * 2 + 1 - (0 + 1 + 1) = i * 2 + 1 by omega]
      exact this
theorem flat2_append (L : List Duo) (e : Duo) : flat2 (L ++ [e]) = flat2 L ++ [e.x, e.y] := by simp [flat2]

theorem info55 : (Try.prog.info? 55).map (fun i => (i.zero, i.size, i.bytes)) = some (some (.agg #[.pointer none, .pointer none]), 2, 16) := by kernel_rfl
theorem Two.one {W : World} {base k : Nat} {E : Duo} (h : Two W base k E) : E.x.oneCell' = true ∧ E.y.oneCell' = true := by
  rcases h with ⟨h1, h2, _⟩ | ⟨A, s, B, r, h1, h2, _⟩
  · rw [h1, h2]; exact ⟨rfl, rfl⟩
  · rw [h1, h2]; exact ⟨rfl, rfl⟩
/-- A pair more. -/
theorem more {w wc w2 : World} {base k : Nat} {v' : Value} {L' : List Duo} {E : Duo} {g : Nat} (ob : Obj) (hE : Two wc base k E) (htw : ∀ e ∈ L', Two wc base k e) (hpw : L'.Pairwise fun a b => ∀ j, a.F j → ¬ b.F j) (hdis : ∀ e ∈ L', ∀ j, e.F j → ¬ E.F j) (hvF : ∀ j, v'.ownBlock = some j → (∀ e ∈ L', ¬ e.F j) ∧ ¬ E.F j)
    (hge : ∀ j, v'.ownBlock = some j → base ≤ j) (hg : (wc.alloc ob).grownBy w2 v'.ownBlock) (hat : v'.ownBlock = some g ∨ g = wc.heap.size + 1) (hb : base ≤ w.heap.size) (hB : Below base w wc) :
    (∀ e ∈ L' ++ [E], Two w2 base k e) ∧ ((L' ++ [E]).Pairwise fun a b => ∀ j, a.F j → ¬ b.F j) ∧ (∀ e ∈ L' ++ [E], ¬ e.F g) ∧ Below base w w2 := by
  have ho : Off (fun j => v'.ownBlock = some j) wc w2 := ((Off.refl _ wc).alloc ob).grown hg (fun j hj => .inl hj)
  refine ⟨fun e he => ?_, ?_, fun e he hj => ?_, ?_⟩
  · rcases List.mem_append.1 he with h | h
    · exact (htw e h).off (Nat.le_refl _) ho (fun j hj hv => (hvF j hv).1 e h hj)
    · rw [List.mem_singleton.1 h]
      exact hE.off (Nat.le_refl _) ho (fun j hj hv => (hvF j hv).2 hj)
  · rw [List.pairwise_append]
    exact ⟨hpw, List.pairwise_singleton _ _, fun a ha b hb' => by rw [List.mem_singleton.1 hb']; exact hdis a ha⟩
  · have h2 : Two wc base k e ∧ (v'.ownBlock = some g → ¬ e.F g) := by
      rcases List.mem_append.1 he with h | h
      · exact ⟨htw e h, fun hv => (hvF g hv).1 e h⟩
      · rw [List.mem_singleton.1 h]; exact ⟨hE, fun hv => (hvF g hv).2⟩
    rcases hat with h | h
    · exact h2.2 h hj
    · have := (h2.1.lt g hj).2; omega
  · exact hB.trans (ho.below (Nat.le_trans hb hB.size) (fun j hj => hge j hj))

/-- What is known ahead of a step. -/
structure Dsk (w : World) (i b8 : Nat) (v : Value) (L : List Duo) (W : World) : Prop where
  hb8 : Blk W b8 55 #[.pointer none, .pointer none]
  tw : ∀ e ∈ L, Two W w.heap.size (2 * i) e
  row : W.ownsRow w.heap.size 55 2 v L.length (flat2 L)
  len : L.length ≤ i
  pw : L.Pairwise fun a b => ∀ j, a.F j → ¬ b.F j
  vF : ∀ j, v.ownBlock = some j → ∀ e ∈ L, ¬ e.F j
  lt : ∀ e ∈ L, ∀ j, e.F j → j < b8
  vlt : ∀ j, v.ownBlock = some j → j < b8
  le : w.heap.size ≤ b8
  bl : Below w.heap.size w W
/-- What is known behind it. -/
def Join (w : World) (i b8 : Nat) (v' : Value) (wx : World) : Prop :=
  ∃ (L' : List Duo) (E : Duo), Blk wx b8 55 #[E.x, E.y] ∧ Two wx w.heap.size (2 * (i + 1)) E ∧ wx.ownsRow w.heap.size 55 2 v' L'.length (flat2 L') ∧ L'.length ≤ i + 1 ∧ (E.x ≠ .pointer none → L'.length ≤ i) ∧ (∀ e ∈ L', Two wx w.heap.size (2 * (i + 1)) e) ∧ (L'.Pairwise fun a b => ∀ j, a.F j → ¬ b.F j) ∧ (∀ e ∈ L', ∀ j, e.F j → ¬ E.F j) ∧ (∀ j, v'.ownBlock = some j → (∀ e ∈ L', ¬ e.F j) ∧ ¬ E.F j ∧ j ≠ b8) ∧ Below w.heap.size w wx
def noDuo : Duo := ⟨.pointer none, .pointer none, fun _ => False⟩
theorem two_no (W : World) (base k : Nat) : Two W base k noDuo := .inl ⟨rfl, rfl, fun _ h => h⟩
theorem own_off' {F : Nat → Prop} {W W' : World} {base : Nat} {e : TypeId} {size n : Nat} {v : Value} {xs : List Value} (h : W.ownsRow base e size v n xs) (ho : Off F W W') (hg : ∀ j, v.ownBlock = some j → ¬ F j) : W'.ownsRow base e size v n xs := by
  obtain ⟨h0, h1 | ⟨g', cap', cur, e1, e2, e3, e4⟩⟩ := h
  · exact ⟨h0, .inl h1⟩
  · subst e1
    exact ⟨h0, .inr ⟨g', cap', cur, rfl, e2, (ho.block g' (Array.getElem?_eq_some_iff.1 e3).1 (hg g' rfl)).trans e3, e4⟩⟩
/-- No pair more. -/
theorem Dsk.idle {w W : World} {i b8 : Nat} {v : Value} {L : List Duo} (h : Dsk w i b8 v L W) : Join w i b8 v W :=
  ⟨L, noDuo, h.hb8, two_no _ _ _, h.row, by have := h.len; omega, fun hh => absurd rfl hh, fun e he => (h.tw e he).off (by omega) (Off.refl (fun _ => False) W) (fun _ _ h => h), h.pw, fun _ _ _ _ hh => hh, fun j hj => ⟨h.vF j hj, fun hh => hh, by have := h.vlt j hj; omega⟩, h.bl⟩
theorem Dsk.off {w W W' : World} {i b8 : Nat} {v : Value} {L : List Duo} {F : Nat → Prop} (h : Dsk w i b8 v L W) (ho : Off F W W') (hF : ∀ j, F j → b8 < j) : Dsk w i b8 v L W' :=
  ⟨h.hb8.off ho (fun hh => by have := hF _ hh; omega), fun e he => (h.tw e he).off (Nat.le_refl _) ho (fun j hj hh => by have := hF _ hh; have := h.lt e he j hj; omega), own_off' h.row ho (fun j hj hh => by have := hF _ hh; have := h.vlt j hj; omega), h.len, h.pw, h.vF, h.lt, h.vlt, h.le, h.bl.trans (ho.below h.bl.size (fun j hj => by have := hF j hj; have := h.le; omega))⟩
theorem PD.base {W : World} {b b' : Nat} {A : PA} {s : PS} (h : PD W b A s) (hb : b' ≤ b) : PD W b' A s := by
  obtain ⟨l1, l2, l3, l4⟩ := h.le
  exact { h with le := ⟨by omega, by omega, by omega, by omega⟩ }
theorem RD.base {W : World} {b b' : Nat} {A : RA} {s : RS} (h : RD W b A s) (hb : b' ≤ b) : RD W b' A s :=
  ⟨Nat.le_trans hb h.le, h.blk, own_mono h.rowS hb, own_mono h.rowN hb, own_mono h.rowD hb, h.ne, h.n1, h.n2⟩
theorem Off.two (W : World) {B : Nat} (u v : Value) : Off (fun k => k = B) W ((W.setCell ⟨B, 0, none⟩ u).setCell ⟨B, 1, none⟩ v) := ((Off.refl (fun k => k = B) W).setCell (B := B) (i := 0) u (.inl rfl)).setCell (B := B) (i := 1) v (.inl rfl)
theorem Blk.two {W : World} {B : Nat} {t : TypeId} {a b : Value} (h : Blk W B t #[a, b]) (u v : Value) : Blk ((W.setCell ⟨B, 0, none⟩ u).setCell ⟨B, 1, none⟩ v) B t #[u, v] := (h.set 0 u).set 1 v
/-- A pair of new disks. -/
theorem Dsk.born {w W1 W3 : World} {i b8 : Nat} {v : Value} {L : List Duo} (h : Dsk w i b8 v L W1) (hb : Below W1.heap.size W1 W3) {A : PA} {s : PS} {B : RA} {r : RS} {m : Nat} (hP : PD W3 W1.heap.size A s) (hPm : ∀ j, A.F j → j < m) (hR : RD W3 m B r) (hm : W1.heap.size ≤ m) (hrel : Rel 0 s r) :
    Join w i b8 v ((W3.setCell ⟨b8, 0, none⟩ (.pointer (some ⟨A.p, 0, none⟩))).setCell ⟨b8, 1, none⟩ (.pointer (some ⟨B.r, 0, none⟩))) := by
  have hlt8 := h.hb8.lt
  have h3 := h.off (F := fun _ => False) (Off.of_below hb) (fun _ hh => hh.elim)
  have ho := Off.two W3 (B := b8) (.pointer (some ⟨A.p, 0, none⟩)) (.pointer (some ⟨B.r, 0, none⟩))
  have hbw : w.heap.size ≤ W1.heap.size := h.bl.size
  have hA : ∀ j, A.F j → b8 < j := fun j hj => by have := (hP.lt j hj).1; omega
  have hBF : ∀ j, B.F j → b8 < j := fun j hj => by have := (hR.ge j hj).1; omega
  refine ⟨L, ⟨_, _, fun j => A.F j ∨ B.F j⟩, h3.hb8.two _ _, .inr ⟨A, s, B, r, rfl, rfl, (hP.base hbw).off ho (fun j hj hh => ?_), (hR.base (Nat.le_trans hbw hm)).off ho (fun j hj hh => ?_), hrel.mono (by omega), fun j hj hj2 => ?_, fun _ => Iff.rfl⟩, own_off' h3.row ho (fun j hj hh => ?_), ?_, fun _ => h.len, fun e he => (h3.tw e he).off (by omega) ho (fun j hj hh => ?_), h.pw, fun e he j hj hE => ?_, fun j hj => ⟨h.vF j hj, fun hE => ?_, ?_⟩, h3.bl.trans (ho.below h3.bl.size (fun j hj => ?_))⟩
  · have := hA j hj; omega
  · have := hBF j hj; omega
  · have := hPm j hj; have := (hR.ge j hj2).1; omega
  · have := h.vlt j hj; omega
  · have := h.len; omega
  · have := h.lt e he j hj; omega
  · have := h.lt e he j hj
    rcases hE with hE | hE
    · have := hA j hE; omega
    · have := hBF j hE; omega
  · have := h.vlt j hj
    rcases hE with hE | hE
    · have := hA j hE; omega
    · have := hBF j hE; omega
  · have := h.vlt j hj; omega
  · have := h.le; omega
theorem Dsk.stillborn {w W1 : World} {i b8 : Nat} {v : Value} {L : List Duo} (h : Dsk w i b8 v L W1) : Join w i b8 v ((W1.setCell ⟨b8, 0, none⟩ (.pointer none)).setCell ⟨b8, 1, none⟩ (.pointer none)) := by
  have ho := Off.two W1 (B := b8) (.pointer none) (.pointer none)
  refine Dsk.idle (L := L) ⟨h.hb8.two _ _, fun e he => (h.tw e he).off (Nat.le_refl _) ho (fun j hj hh => ?_), own_off' h.row ho (fun j hj hh => ?_), h.len, h.pw, h.vF, h.lt, h.vlt, h.le, h.bl.trans (ho.below h.bl.size (fun j hj => ?_))⟩
  · have := h.lt e he j hj; omega
  · have := h.vlt j hj; omega
  · have := h.le; omega

/-- A pair that is none. -/
theorem Dsk.more_nil {w W1 w2 : World} {i b8 g cap : Nat} {v : Value} {L : List Duo} (h : Dsk w i b8 v L W1) {ob : Obj} (hg : (W1.alloc ob).grownBy w2 v.ownBlock) (hat : v.ownBlock = some g ∨ g = W1.heap.size + 1) (hC : w2.ownsRow w.heap.size 55 2 (.slice (some ⟨g, 0, none⟩) (L.length + 1) cap) (L.length + 1) (flat2 L ++ [.pointer none, .pointer none])) :
    Join w i b8 (.slice (some ⟨g, 0, none⟩) (L.length + 1) cap) w2 := by
  have hlt8 := h.hb8.lt
  obtain ⟨k1, k2, k3, k4⟩ := more (w := w) (E := noDuo) (k := 2 * (i + 1)) ob (two_no _ _ _) (fun e he => (h.tw e he).off (by omega) (Off.refl (fun _ => False) W1) (fun _ _ h => h)) h.pw (fun _ _ _ _ hh => hh) (fun j hj => ⟨h.vF j hj, fun hh => hh⟩) (fun j hj => own_ge h.row hj) hg hat (Nat.le_refl _) h.bl
  have hbe : Blk w2 b8 55 #[.pointer none, .pointer none] := (h.hb8.alloc ob).grown hg (fun j hj e => by have := h.vlt j hj; omega)
  refine ⟨L ++ [noDuo], noDuo, hbe, two_no _ _ _, ?_, ?_, fun hh => absurd rfl hh, k1, k2, fun _ _ _ _ hh => hh, fun j hj => ?_, k4⟩
  · rw [List.length_append, flat2_append]; exact hC
  · have := h.len
    rw [List.length_append]
    show L.length + 1 ≤ _
    omega
  · cases hj
    refine ⟨k3, fun hh => hh, fun e => ?_⟩
    have e' : g = b8 := e
    rcases hat with hh | hh
    · have := h.vlt _ hh
      omega
    · omega
end Go.Proofs.Ytdgbgmffpcooeaa
