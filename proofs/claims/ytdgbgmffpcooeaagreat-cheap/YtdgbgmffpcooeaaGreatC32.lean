/- Se4 -/
import Derived.Scope
import Derived.Sort.LoopGhostIn
import Derived.Test.YtdgbgmffpcooeaaGreatC30
import Derived.Test.YtdgbgmffpcooeaaGreatC31
section
/- A window's search: what lies where. -/
namespace Go.Proofs.YtdgbgmffpcooeaaGreat
open Go.RowKit Go.Lib
theorem wpIn_scope_wide {n : Nat} {P : Program} {c : Code} {Q : Exit → Act → World → Prop} {a : Act} {w : World} (h : c.wpIn Fence.wide n P (Exit.noGoto Q) a w) : (Code.scope c).wpIn Fence.wide n P Q a w := wpIn_wide.2 (wp_scope_straight (wpIn_wide.1 h))
theorem blk_ne {W : World} {a b t1 t2 : Nat} {v1 v2 : Array Value} (h1 : Blk W a t1 v1) (h2 : Blk W b t2 v2) (ht : t1 ≠ t2) : a ≠ b := fun e => by
  subst e
  have e1 : W.heap[a]? = _ := h1
  have e2 : W.heap[a]? = _ := h2
  rw [e1] at e2
  simp at e2
  exact ht e2.2
/-- What lies where while a window is searched. -/
structure Sb (w : World) (A : PA) (x t : Nat) (dead : Bool) (r : Box) (rs : List Nat) (B7 B8 : Nat) (sv : Value) (acc : List Int) (c : Nat × Nat) (more : Bool) (W : World) : Prop where
  b3 : Blk W w.heap.size 34 (boxC r)
  b4 : Blk W (w.heap.size + 1) 35 #[.slice none 0 0]
  b5 : Blk W (w.heap.size + 1 + 1) 26 #[.int .i64 0]
  b6 : Blk W (w.heap.size + 1 + 1 + 1) 35 #[sv]
  b7 : Blk W B7 99 #[.int .i64 (c.1 : Int), .int .i64 (c.2 : Int)]
  b8 : Blk W B8 4 #[.bool more]
  row : W.ownsRow w.heap.size 3 1 sv acc.length (intsV acc)
  ix : IdxB W x t dead
  off : Off A.F w W
  nd : rs.Nodup
  mks : ∀ k ∈ rs, W.heap[k]? = some (.deferred (some []))
  ge : w.heap.size ≤ B7 ∧ w.heap.size ≤ B8
  ger : ∀ k ∈ rs, w.heap.size ≤ k
section
variable {w X Y : World} {A : PA} {x t : Nat} {dead : Bool} {r : Box} {rs : List Nat} {B7 B8 : Nat} {sv : Value} {acc : List Int} {c : Nat × Nat} {more : Bool}
/-- The blocks that count. -/
def Sk (w : World) (rs : List Nat) (B7 B8 : Nat) (sv : Value) (k : Nat) : Prop := k = w.heap.size ∨ k = w.heap.size + 1 ∨ k = w.heap.size + 1 + 1 ∨ k = w.heap.size + 1 + 1 + 1 ∨ k = B7 ∨ k = B8 ∨ sv.ownBlock = some k ∨ k ∈ rs
theorem Sb.offs (h : Sb w A x t dead r rs B7 B8 sv acc c more X) {G : Nat → Prop} (ho : Off G X Y) (hF : ∀ k, A.F k → k < w.heap.size) (hxF : ¬ A.F x) (hxl : x < w.heap.size) (hG : ∀ k, G k → A.F k ∨ (w.heap.size ≤ k ∧ ¬ Sk w rs B7 B8 sv k)) : Sb w A x t dead r rs B7 B8 sv acc c more Y := by
  have hk : ∀ k, w.heap.size ≤ k → Sk w rs B7 B8 sv k → ¬ G k := fun k hk1 hk2 hg => by
    rcases hG k hg with h1 | ⟨_, h1⟩
    · have := hF k h1; omega
    · exact h1 hk2
  refine ⟨h.b3.off ho (hk _ (Nat.le_refl _) (.inl rfl)), h.b4.off ho (hk _ (by omega) (.inr (.inl rfl))), h.b5.off ho (hk _ (by omega) (.inr (.inr (.inl rfl)))), h.b6.off ho (hk _ (by omega) (.inr (.inr (.inr (.inl rfl))))), h.b7.off ho (hk _ h.ge.1 (.inr (.inr (.inr (.inr (.inl rfl)))))), h.b8.off ho (hk _ h.ge.2 (.inr (.inr (.inr (.inr (.inr (.inl rfl))))))), own_offv h.row ho (fun g hg => hk g (own_tagged h.row hg).1 (.inr (.inr (.inr (.inr (.inr (.inr (.inl hg)))))))), (ho.block x h.ix.lt (fun hg => ?_)).trans h.ix, h.off.step ho (fun k hk1 hg => ?_), h.nd, fun k hm => ?_, h.ge, h.ger⟩
  · rcases hG x hg with h1 | ⟨h1, _⟩
    · exact hxF h1
    · omega
  · rcases hG k hg with h1 | ⟨h1, _⟩
    · exact h1
    · omega
  · have hm' := h.mks k hm
    exact (ho.block k (Array.getElem?_eq_some_iff.1 hm').1 (hk k (h.ger k hm) (.inr (.inr (.inr (.inr (.inr (.inr (.inr hm))))))))).trans hm'
theorem Sb.below (h : Sb w A x t dead r rs B7 B8 sv acc c more X) (hb : Below X.heap.size X Y) (hF : ∀ k, A.F k → k < w.heap.size) (hxF : ¬ A.F x) (hxl : x < w.heap.size) : Sb w A x t dead r rs B7 B8 sv acc c more Y :=
  h.offs (G := fun _ => False) (Off.of_below hb) hF hxF hxl (fun _ h => h.elim)
theorem mk_ne (h : Sb w A x t dead r rs B7 B8 sv acc c more X) {k : Nat} {cs : Array Value} {ty : TypeId} {fr : Nat × Nat} (hk : X.heap[k]? = some (.cells cs ty fr)) : k ∉ rs := fun hm => by
  have := h.mks k hm
  rw [hk] at this
  simp at this
/-- The cell and whether there is more are written anew. -/
theorem Sb.put78 (h : Sb w A x t dead r rs B7 B8 sv acc c more X) (c' : Nat × Nat) (more' : Bool) (hxl : x < w.heap.size) (ho : Off (fun k => k = B7 ∨ k = B8) X Y) (h7 : Blk Y B7 99 #[.int .i64 (c'.1 : Int), .int .i64 (c'.2 : Int)]) (h8 : Blk Y B8 4 #[.bool more']) : Sb w A x t dead r rs B7 B8 sv acc c' more' Y := by
  have n : ∀ k, k ≠ B7 → k ≠ B8 → ¬ (k = B7 ∨ k = B8) := fun k h1 h2 h => h.elim h1 h2
  refine ⟨h.b3.off ho (n _ (blk_ne h.b3 h.b7 (by decide)) (blk_ne h.b3 h.b8 (by decide))), h.b4.off ho (n _ (blk_ne h.b4 h.b7 (by decide)) (blk_ne h.b4 h.b8 (by decide))), h.b5.off ho (n _ (blk_ne h.b5 h.b7 (by decide)) (blk_ne h.b5 h.b8 (by decide))), h.b6.off ho (n _ (blk_ne h.b6 h.b7 (by decide)) (blk_ne h.b6 h.b8 (by decide))), h7, h8, own_offv h.row ho (fun g hg => n _ (own_ne h.row h.b7 (by decide) g hg) (own_ne h.row h.b8 (by decide) g hg)), (ho.block x h.ix.lt (by have := h.ge; omega)).trans h.ix, h.off.step ho (fun k hk1 hg => by have := h.ge; omega), h.nd, fun k hm => ?_, h.ge, h.ger⟩
  have hm' := h.mks k hm
  refine (ho.block k (Array.getElem?_eq_some_iff.1 hm').1 (n _ (fun e => ?_) (fun e => ?_))).trans hm'
  · subst e; exact mk_ne h h.b7 hm
  · subst e; exact mk_ne h h.b8 hm
/-- A number more. -/
theorem Sb.grow (h : Sb w A x t dead r rs B7 B8 sv acc c more X) {sv' : Value} {i : Int} {Z : World} (hxl : x < w.heap.size) (hg : X.grownBy Y sv.ownBlock) (hrow : Y.ownsRow w.heap.size 3 1 sv' (acc.length + 1) (intsV acc ++ [.int .i64 i]))
    (hZ : Z = Y.setCell ⟨w.heap.size + 1 + 1 + 1, 0, none⟩ sv') : Sb w A x t dead r rs B7 B8 sv' (acc ++ [i]) c more Z ∧ Off (fun k => k = w.heap.size + 1 + 1 + 1 ∨ sv.ownBlock = some k) X Z := by
  have oG : Off (fun k => sv.ownBlock = some k) X Y := (Off.refl _ X).grown hg (fun j hj => .inl hj)
  have oZ : Off (fun k => k = w.heap.size + 1 + 1 + 1) Y Z := by rw [hZ]; exact Off.one _ _
  have ho : Off (fun k => k = w.heap.size + 1 + 1 + 1 ∨ sv.ownBlock = some k) X Z := (oG.mono fun k _ e => .inr e).trans (oZ.mono fun k _ e => .inl e)
  have hlt : ∀ k, sv.ownBlock = some k → w.heap.size ≤ k := fun k hk => (own_tagged h.row hk).1
  have y6 : Blk Y (w.heap.size + 1 + 1 + 1) 35 #[sv] := h.b6.off oG (fun hg => own_ne h.row h.b6 (by decide) _ hg rfl)
  have z6 : Blk Z (w.heap.size + 1 + 1 + 1) 35 #[sv'] := by rw [hZ]; exact y6.set 0 sv'
  have hs6 := y6.lt
  refine ⟨⟨h.b3.off ho (fun hg => ?_), h.b4.off ho (fun hg => ?_), h.b5.off ho (fun hg => ?_), z6, h.b7.off ho (fun hg => ?_), h.b8.off ho (fun hg => ?_), ?_, (ho.block x h.ix.lt (fun hg => ?_)).trans h.ix, h.off.step ho (fun k hk1 hg => ?_), h.nd, fun k hm => ?_, h.ge, h.ger⟩, ho⟩
  · rcases hg with hg | hg
    · omega
    · exact own_ne h.row h.b3 (by decide) _ hg rfl
  · rcases hg with hg | hg
    · omega
    · exact own_ne h.row h.b4 (by decide) _ hg rfl
  · rcases hg with hg | hg
    · omega
    · exact own_ne h.row h.b5 (by decide) _ hg rfl
  · rcases hg with hg | hg
    · exact blk_ne h.b7 h.b6 (by decide) hg
    · exact own_ne h.row h.b7 (by decide) _ hg rfl
  · rcases hg with hg | hg
    · exact blk_ne h.b8 h.b6 (by decide) hg
    · exact own_ne h.row h.b8 (by decide) _ hg rfl
  · have e1 : (acc ++ [i]).length = acc.length + 1 := by simp
    have e2 : intsV (acc ++ [i]) = intsV acc ++ [.int .i64 i] := by simp [intsV]
    rw [e1, e2]
    refine own_offv hrow oZ (fun g hg e => ?_)
    subst e
    obtain ⟨_, cs, hc⟩ := own_tagged hrow hg
    have e6 : Y.heap[w.heap.size + 1 + 1 + 1]? = _ := y6
    rw [hc] at e6
    simp at e6
  · rcases hg with hg | hg
    · omega
    · have := hlt x hg; omega
  · rcases hg with hg | hg
    · omega
    · have := hlt k hg; omega
  · have hm' := h.mks k hm
    refine (ho.block k (Array.getElem?_eq_some_iff.1 hm').1 (fun hg => ?_)).trans hm'
    rcases hg with hg | hg
    · subst hg; exact mk_ne h h.b6 hm
    · obtain ⟨_, cs, hc⟩ := own_tagged h.row hg
      exact mk_ne h hc hm
end
end Go.Proofs.YtdgbgmffpcooeaaGreat
end
