/- Plain facts on the books of lists: rows in memory, and what a step leaves of them. -/
import Derived.Test.YtdgbgmffpcooeaaOwn
import Derived.Test.YtdgbgmffpcooeaaKeep
import Derived.Deep.AppendLies
import Derived.OwnWalk
namespace Go.Proofs.Ytdgbgmffpcooeaa
open Go.RowKit

/-- append onto a row of one's own: the law of the kit, and besides: the old row reads as it did, up to its length. -/
theorem run_append_old {P : Program} (w : World) (t ty : TypeId) (base : Nat) (e : TypeId) (i : TypeInfo) (z : Value) (size bytes : Nat) (ht : P.underlying t = some (.slice e)) (hi : P.info? e = some i) (hz : i.zero = some z)
    (hsize : i.size = size) (hby : i.bytes = bytes) (hzs : z.cells.size = size) (hsz : 0 < size)
    (v : Value) (n : Nat) (xs : List Value) (hown : w.ownsRow base e size v n xs)
    (ad : Addr) (m c : Nat) (news : List Value) (hl : news.length = m * size) (hnews : ∀ j u, news[j]? = some u → w.cell? (ad.add j) = some u) (h1 : ∀ u ∈ news, u.oneCell' = true)
    (hm : 0 < m) (h63 : n + m ≤ maxLen) (hbytes : (n + m) * bytes ≤ 140737488355328) (hbase : base ≤ w.heap.size) (H : Nat) (hH : w.heap.size = H) :
    ∃ g cap w', (Builtin.append_ #[t, t] ty #[v, .slice (some ad) m c]).run P w = .ok (.slice (some ⟨g, 0, none⟩) (n + m) cap) w' ∧
      w'.ownsRow base e size (.slice (some ⟨g, 0, none⟩) (n + m) cap) (n + m) (xs ++ news) ∧ w.grownBy w' v.ownBlock ∧ (v.ownBlock = some g ∨ g = H) ∧ g < w'.heap.size ∧
      ∀ j, v.ownBlock = some j → ∃ cur, w'.heap[j]? = some (.cells cur e (0, 0)) ∧ cur.toList.take (n * size) = xs := by
  obtain ⟨g, cap, w', hr, h2, h3, h4, h5⟩ := run_append_lies (P := P) w t ty base e i z size bytes ht hi hz hsize hby hzs hsz v n xs hown ad m c news hl hnews h1 hm h63 hbytes hbase H hH
  refine ⟨g, cap, w', hr, h2, h3, h4, h5, fun j hj => ?_⟩
  have hlen := hown.1
  obtain ⟨_, ⟨e1, _⟩ | ⟨g0, cap0, cur0, e1, _, hb0, q1, q2, q3, q4⟩⟩ := hown
  · rw [e1] at hj; cases hj
  · rw [e1] at hj hr
    simp only [Value.ownBlock, Option.some.injEq] at hj
    rw [← hj]
    by_cases hroom : n + m ≤ cap0
    · have hfit : n * i.size + news.length ≤ cur0.size := by rw [hl, q3, hsize, ← Nat.add_mul]; exact Nat.mul_le_mul_right _ hroom
      have hr2 := run_append_room (P := P) w t ty e i ht hi g0 n cap0 cur0 hb0 ad m c news (by rw [hsize]; exact hl) hnews h1 hroom hfit
      rw [hr2] at hr
      injection hr with hv hw
      rw [← hw]
      refine ⟨_, setRow_heap w g0 cur0 _ e _ hb0, ?_⟩
      rw [hsize, q4]
      simp only [List.append_assoc]
      rw [← hlen]
      exact List.take_left
    · have holds : ∀ j u, xs[j]? = some u → w.cell? ((⟨g0, 0, none⟩ : Addr).add j) = some u := (show w.ownsRow base e size v n xs from ⟨hlen, .inr ⟨g0, cap0, cur0, e1, ‹_›, hb0, q1, q2, q3, q4⟩⟩).cells (g := g0) (by rw [e1]; rfl)
      have hr2 := run_append_grow (P := P) w t ty e i z ht hi hz ⟨g0, 0, none⟩ n cap0 xs (by rw [hsize]; exact hlen) holds ad m c news (by rw [hsize]; exact hl) hnews (by omega) (by unfold maxLen at h63; omega) (growslice_fits (by omega) (by rw [hby]; exact hbytes))
      rw [hr2] at hr
      injection hr with hv hw
      rw [← hw]
      exact ⟨cur0, (Below.heap_alloc w.drew _ g0 (Array.getElem?_eq_some_iff.1 hb0).1).trans hb0, q4⟩

theorem wpList_append_old {P : Program} (w : World) {ops : Array Oper} {rest : List Oper} {o : Oper} {a : Act} {Q : Exit → Act → World → Prop} (hgd : o.guard = none) (s x : Operand) (t : TypeId)
    (ho : o.op = .call { callee := .builtin .append, args := #[s, x], argTypes := #[t, t] })
    (base : Nat) (e : TypeId) (i : TypeInfo) (z : Value) (size bytes : Nat) (ht : P.underlying t = some (.slice e)) (hi : P.info? e = some i) (hz : i.zero = some z)
    (hsize : i.size = size) (hby : i.bytes = bytes) (hzs : z.cells.size = size) (hsz : 0 < size)
    (v : Value) (n : Nat) (xs : List Value) (hs : a.eval s = v) (hown : w.ownsRow base e size v n xs)
    (ad : Addr) (m c : Nat) (news : List Value) (hx : a.eval x = .slice (some ad) m c) (hl : news.length = m * size) (hnews : ∀ j u, news[j]? = some u → w.cell? (ad.add j) = some u) (h1 : ∀ u ∈ news, u.oneCell' = true)
    (hm : 0 < m) (h63 : n + m ≤ maxLen) (hbytes : (n + m) * bytes ≤ 140737488355328) (hbase : base ≤ w.heap.size) (H : Nat) (hH : w.heap.size = H)
    (h : ∀ g cap w', w'.ownsRow base e size (.slice (some ⟨g, 0, none⟩) (n + m) cap) (n + m) (xs ++ news) → w.grownBy w' v.ownBlock → (v.ownBlock = some g ∨ g = H) → g < w'.heap.size → (∀ j, v.ownBlock = some j → ∃ cur, w'.heap[j]? = some (.cells cur e (0, 0)) ∧ cur.toList.take (n * size) = xs) → wpList P ops Q rest (a.put o.dst (.slice (some ⟨g, 0, none⟩) (n + m) cap)) w') : wpList P ops Q (o :: rest) a w := by
  refine wpList_plain hgd fun K hK => ?_
  obtain ⟨g, cap, w', hr, h2, h3, h4, h5, h6⟩ := run_append_old (P := P) w t o.type base e i z size bytes ht hi hz hsize hby hzs hsz v n xs hown ad m c news hl hnews h1 hm h63 hbytes hbase H hH
  unfold Oper.wp execOp
  simp only [ho, resolve, invoke, builtin, Sem.run_bind, Sem.run_pure, Result.andThen_ok, List.map_toArray, List.map_cons, List.map_nil, hs, hx, hr]
  exact hK _ _ (h g cap w' h2 h3 h4 h5 h6)

theorem own_set {W : World} {base : Nat} {e : TypeId} {size g n cap : Nat} {xs : List Value} (h : W.ownsRow base e size (.slice (some ⟨g, 0, none⟩) n cap) n xs) (t : Nat) (u : Value) : (W.setCell ⟨g, t, none⟩ u).ownsRow base e size (.slice (some ⟨g, 0, none⟩) n cap) n (xs.set t u) := by
  obtain ⟨h0, ⟨e1, _⟩ | ⟨g', cap', cur, e1, hb, h1, q1, q2, q3, q4⟩⟩ := h
  · cases e1
  · cases e1
    refine ⟨by rw [List.length_set]; exact h0, .inr ⟨g, cap, cur.setIfInBounds t u, rfl, hb, Blk.set h1 t u, q1, q2, by rw [Array.size_setIfInBounds]; exact q3, ?_⟩⟩
    rw [Array.toList_setIfInBounds, List.take_set, q4]

/-- The first n cells of a row bear this mark. -/
def Marks (xs : List Value) (n : Nat) (μ : Int) : Prop := ∀ j, j < n → xs[j * 2]? = some (.int .i64 μ) ∧ xs[j * 2 + 1]? = some (.int .i64 0)
theorem Marks.snoc {xs : List Value} {n : Nat} {μ : Int} (h : Marks xs n μ) (hl : xs.length = n * 2) : Marks (xs ++ [.int .i64 μ, .int .i64 0]) (n + 1) μ := by
  intro j hj
  rcases Nat.lt_or_ge j n with g | g
  · rw [List.getElem?_append_left (by omega), List.getElem?_append_left (by omega)]; exact h j g
  · have : j = n := by omega
    subst this
    rw [List.getElem?_append_right (by omega), List.getElem?_append_right (by omega), hl, show j * 2 - j * 2 = 0 by omega, show j * 2 + 1 - j * 2 = 1 by omega]
    exact ⟨rfl, rfl⟩
theorem Marks.of_take {xs ys : List Value} {n m : Nat} {μ : Int} (h : Marks xs n μ) (he : ys.take (m * 2) = xs) (hn : n ≤ m) : Marks ys n μ := by
  intro j hj
  have := h j hj
  rw [← he, List.getElem?_take_of_lt (by omega), List.getElem?_take_of_lt (by omega)] at this
  exact this
theorem Marks.mono {xs : List Value} {n m : Nat} {μ : Int} (h : Marks xs n μ) (hm : m ≤ n) : Marks xs m μ := fun j hj => h j (by omega)
theorem Marks.step {xs : List Value} {n : Nat} {μ : Int} (h : Marks xs n μ) (hl : n * 2 + 1 < xs.length) : Marks ((xs.set (n * 2) (.int .i64 μ)).set (n * 2 + 1) (.int .i64 0)) (n + 1) μ := by
  intro j hj
  rcases Nat.lt_or_ge j n with g | g
  · rw [List.getElem?_set_ne (by omega), List.getElem?_set_ne (by omega), List.getElem?_set_ne (by omega), List.getElem?_set_ne (by omega)]; exact h j g
  · have : j = n := by omega
    subst this
    rw [List.getElem?_set_ne (by omega), List.getElem?_set_self (by omega), List.getElem?_set_self (by rw [List.length_set]; omega)]
    exact ⟨rfl, rfl⟩

/-- A list in the books that bears its mark. -/
def Ent (W : World) (N : Nat) (e : Value × Int) : Prop := e.1 = .slice none 0 0 ∨ ∃ g n cap cur, e.1 = .slice (some ⟨g, 0, none⟩) n cap ∧ W.heap[g]? = some (.cells cur 34 (0, 0)) ∧ n ≤ N ∧ Marks cur.toList n e.2
theorem Ent.keep {W W' : World} {N M : Nat} {e : Value × Int} (h : Ent W N e) (hN : N ≤ M) (hk : ∀ g cur, e.1.ownBlock = some g → W.heap[g]? = some (.cells cur 34 (0, 0)) → W'.heap[g]? = some (.cells cur 34 (0, 0))) : Ent W' M e := by
  rcases h with h | ⟨g, n, cap, cur, e1, e2, e3, e4⟩
  · exact .inl h
  · exact .inr ⟨g, n, cap, cur, e1, hk g cur (by rw [e1]; rfl) e2, by omega, e4⟩

theorem ent_self {W : World} {base n : Nat} {u : Value} {ys : List Value} {μ : Int} (h : W.ownsRow base 34 2 u n ys) (hm : Marks ys n μ) : Ent W n (u, μ) := by
  obtain ⟨_, ⟨rfl, rfl⟩ | ⟨g, cap, cur, rfl, _, h2, _, _, _, h6⟩⟩ := h
  · exact .inl rfl
  · exact .inr ⟨g, n, cap, cur, rfl, h2, Nat.le_refl _, hm.of_take h6 (Nat.le_refl _)⟩
theorem ent_append {W w' : World} {n N : Nat} {u : Value} {ys : List Value} {μ : Int} {e : Value × Int} (he : Ent W N e) (hμ : e.2 = μ) (hN : N ≤ n) (hm : Marks ys n μ) (hg : W.grownBy w' u.ownBlock) (hold : ∀ j, u.ownBlock = some j → ∃ cur, w'.heap[j]? = some (.cells cur 34 (0, 0)) ∧ cur.toList.take (n * 2) = ys) : Ent w' (n + 1) e := by
  rcases he with h | ⟨g, n', cap, cur, e1, e2, e3, e4⟩
  · exact .inl h
  · by_cases hu : u.ownBlock = some g
    · obtain ⟨cur', h1, h2⟩ := hold g hu
      refine .inr ⟨g, n', cap, cur', e1, h1, by omega, ?_⟩
      rw [hμ]
      exact (hm.mono (show n' ≤ n by omega)).of_take h2 (by omega)
    · exact .inr ⟨g, n', cap, cur, e1, (hg.block g (Array.getElem?_eq_some_iff.1 e2).1 (fun e => hu e.symm)).trans e2, by omega, e4⟩

/-- What a step on the books leaves: all below a block, and all rows of cells but one. -/
structure Fr (base : Nat) (v : Value) (W W' : World) : Prop where
  low : Below base W W'
  cells : ∀ k cur, W.heap[k]? = some (.cells cur 34 (0, 0)) → v.ownBlock ≠ some k → W'.heap[k]? = some (.cells cur 34 (0, 0))
theorem Fr.refl (base : Nat) (v : Value) (W : World) : Fr base v W W := ⟨Below.refl _ _, fun _ _ h _ => h⟩
theorem Fr.trans {base : Nat} {v : Value} {a b c : World} (h : Fr base v a b) (k : Fr base v b c) : Fr base v a c := ⟨h.low.trans k.low, fun i cur hi hv => k.cells i cur (h.cells i cur hi hv) hv⟩
theorem Fr.of_below {base : Nat} {v : Value} {W W' : World} (h : Below W.heap.size W W') (hb : base ≤ W.heap.size) : Fr base v W W' := ⟨h.mono hb, fun k _ hk _ => (h.block k (Array.getElem?_eq_some_iff.1 hk).1).trans hk⟩
theorem Fr.grown {base : Nat} {v : Value} {W0 W W' : World} {row : Option Nat} (h : Fr base v W0 W) (hg : W.grownBy W' row) (hb : base ≤ W.heap.size) (hr : ∀ j, row = some j → base ≤ j ∧ (v.ownBlock = some j ∨ W0.heap.size ≤ j ∨ ∃ cs t f, W.heap[j]? = some (.cells cs t f) ∧ t ≠ 34)) : Fr base v W0 W' := by
  refine ⟨h.low.grown hg hb (fun k e => (hr k e).1), fun k cur hk hv => ?_⟩
  have h1 := h.cells k cur hk hv
  refine (hg.block k (Array.getElem?_eq_some_iff.1 h1).1 fun e => ?_).trans h1
  rcases (hr k e.symm).2 with h2 | h2 | ⟨cs, t, f, h2, h3⟩
  · exact hv h2
  · have := (Array.getElem?_eq_some_iff.1 hk).1; omega
  · rw [h1] at h2; cases h2; exact h3 rfl
theorem Fr.setCell {base : Nat} {v : Value} {W0 W : World} (h : Fr base v W0 W) {B i : Nat} (u : Value) (hb : base ≤ B) (hr : v.ownBlock = some B ∨ W0.heap.size ≤ B ∨ ∃ cs t f, W.heap[B]? = some (.cells cs t f) ∧ t ≠ 34) : Fr base v W0 (W.setCell ⟨B, i, none⟩ u) := by
  refine ⟨h.low.setCell (p := ⟨B, i, none⟩) hb u, fun k cur hk hv => ?_⟩
  have h1 := h.cells k cur hk hv
  refine (Below.heap_setCell W ⟨B, i, none⟩ u k fun e => ?_).trans h1
  simp only at e
  subst e
  rcases hr with h2 | h2 | ⟨cs, t, f, h2, h3⟩
  · exact hv h2
  · have := (Array.getElem?_eq_some_iff.1 hk).1; omega
  · rw [h1] at h2; cases h2; exact h3 rfl
theorem Fr.alloc {base : Nat} {v : Value} {W0 W : World} (h : Fr base v W0 W) (hb : base ≤ W.heap.size) (o : Obj) : Fr base v W0 (W.alloc o) := h.grown (World.grownBy_alloc W o none) hb (fun _ e => by cases e)
theorem Fr.drew {base : Nat} {v : Value} {W0 W : World} (h : Fr base v W0 W) : Fr base v W0 W.drew := ⟨h.low.drew, h.cells⟩
theorem Fr.weaken {base : Nat} {v : Value} {W W' : World} (h : Fr base (.slice none 0 0) W W') : Fr base v W W' := ⟨h.low, fun k cur hk _ => h.cells k cur hk (by simp [Value.ownBlock])⟩
theorem own_fr {base base' : Nat} {v u : Value} {W W' : World} {n : Nat} {xs : List Value} (h : Fr base v W W') (hu : W.ownsRow base' 34 2 u n xs) (hne : ∀ j, u.ownBlock = some j → v.ownBlock ≠ some j) : W'.ownsRow base' 34 2 u n xs := by
  obtain ⟨h0, h1 | ⟨g, cap, cur, e1, e2, e3, e4⟩⟩ := hu
  · exact ⟨h0, .inl h1⟩
  · exact ⟨h0, .inr ⟨g, cap, cur, e1, e2, h.cells g cur e3 (hne g (by rw [e1]; rfl)), e4⟩⟩
theorem ent_fr {base : Nat} {v : Value} {W W' : World} {N : Nat} {e : Value × Int} (h : Fr base v W W') (he : Ent W N e) (hne : ∀ j, e.1.ownBlock = some j → v.ownBlock ≠ some j) : Ent W' N e := he.keep (Nat.le_refl _) fun g cur h1 h2 => h.cells g cur h2 (hne g h1)

theorem own_tagged {W : World} {base : Nat} {e : TypeId} {size : Nat} {v : Value} {n : Nat} {xs : List Value} (h : W.ownsRow base e size v n xs) {j : Nat} (hj : v.ownBlock = some j) : base ≤ j ∧ ∃ cs, W.heap[j]? = some (.cells cs e (0, 0)) := by
  obtain ⟨_, ⟨rfl, _⟩ | ⟨g, cap, cur, rfl, h1, h2, _⟩⟩ := h
  · cases hj
  · simp only [Value.ownBlock, Option.some.injEq] at hj
    subst hj; exact ⟨h1, cur, h2⟩
theorem own_grown {W W' : World} {base : Nat} {e : TypeId} {size : Nat} {v : Value} {n : Nat} {xs : List Value} {row : Option Nat} (h : W.ownsRow base e size v n xs) (hg : W.grownBy W' row) (hr : ∀ j, row = some j → W.heap.size ≤ j ∨ ∃ cs t f, W.heap[j]? = some (.cells cs t f) ∧ t ≠ e) : W'.ownsRow base e size v n xs := by
  obtain ⟨h0, h1 | ⟨g, cap, cur, e1, e2, e3, e4⟩⟩ := h
  · exact ⟨h0, .inl h1⟩
  · refine ⟨h0, .inr ⟨g, cap, cur, e1, e2, (hg.block g (Array.getElem?_eq_some_iff.1 e3).1 fun e => ?_).trans e3, e4⟩⟩
    rcases hr g e.symm with h2 | ⟨cs, t, f, h2, h3⟩
    · have := (Array.getElem?_eq_some_iff.1 e3).1; omega
    · rw [e3] at h2; cases h2; exact h3 rfl
theorem own_other {W : World} {base : Nat} {e : TypeId} {size : Nat} {v : Value} {n : Nat} {xs : List Value} (h : W.ownsRow base e size v n xs) {B i : Nat} {cs : Array Value} {t : TypeId} {f : Nat × Nat} (hB : W.heap[B]? = some (.cells cs t f)) (ht : t ≠ e) (u : Value) : (W.setCell ⟨B, i, none⟩ u).ownsRow base e size v n xs := by
  obtain ⟨h0, h1 | ⟨g, cap, cur, e1, e2, e3, e4⟩⟩ := h
  · exact ⟨h0, .inl h1⟩
  · refine ⟨h0, .inr ⟨g, cap, cur, e1, e2, (Below.heap_setCell W ⟨B, i, none⟩ u g fun e => ?_).trans e3, e4⟩⟩
    simp only at e
    subst e
    rw [e3] at hB; cases hB; exact ht rfl
theorem own_far {W : World} {base : Nat} {e : TypeId} {size : Nat} {v : Value} {n : Nat} {xs : List Value} (h : W.ownsRow base e size v n xs) {B i : Nat} (hne : v.ownBlock ≠ some B) (u : Value) : (W.setCell ⟨B, i, none⟩ u).ownsRow base e size v n xs := by
  obtain ⟨h0, h1 | ⟨g, cap, cur, e1, e2, e3, e4⟩⟩ := h
  · exact ⟨h0, .inl h1⟩
  · refine ⟨h0, .inr ⟨g, cap, cur, e1, e2, (Below.heap_setCell W ⟨B, i, none⟩ u g fun e => ?_).trans e3, e4⟩⟩
    simp only at e
    subst e
    rw [e1] at hne; exact hne rfl
theorem Blk.grown {W W' : World} {B : Nat} {t : TypeId} {vs : Array Value} {row : Option Nat} (h : Blk W B t vs) (hg : W.grownBy W' row) (hr : ∀ j, row = some j → j ≠ B) : Blk W' B t vs := h.kept hg (fun e => hr B e.symm rfl)
theorem tag_ne {W : World} {B j : Nat} {t s : TypeId} {vs cs : Array Value} (h : Blk W B t vs) (hj : W.heap[j]? = some (.cells cs s (0, 0))) (hne : s ≠ t) : j ≠ B := fun e => by
  subst e; rw [show W.heap[j]? = _ from h] at hj; cases hj; exact hne rfl

/-- The cells of the books. -/
def bkCells (n came : Int) (kc yc cv cn : Value) : Array Value := #[.int .i64 n, .int .i64 came, .bool false, kc, yc, .slice none 0 0, .slice none 0 0, cv, cn, .slice none 0 0, .slice none 0 0]
structure Bk (W : World) (base B n came : Nat) (kc yc cv cn : Value) (E : List (Value × Int)) : Prop where
  le : base ≤ B
  blk : Blk W B 39 (bkCells n came kc yc cv cn)
  rowC : W.ownsRow base 25 1 cv E.length (E.map (·.1))
  rowN : W.ownsRow base 3 1 cn E.length (E.map fun e => .int .i64 e.2)
  ent : ∀ e ∈ E, Ent W 8 e
theorem Bk.below {W W' : World} {base B n came : Nat} {kc yc cv cn : Value} {E : List (Value × Int)} (h : Bk W base B n came kc yc cv cn E) (hb : Below W.heap.size W W') : Bk W' base B n came kc yc cv cn E :=
  ⟨h.le, h.blk.below hb h.blk.lt, own_below h.rowC hb, own_below h.rowN hb, fun e he => (h.ent e he).keep (Nat.le_refl _) fun g _ _ h2 => (hb.block g (Array.getElem?_eq_some_iff.1 h2).1).trans h2⟩
end Go.Proofs.Ytdgbgmffpcooeaa
