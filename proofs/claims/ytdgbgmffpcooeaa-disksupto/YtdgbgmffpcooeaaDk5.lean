/- What the document's disk answers at Image. -/
import Derived.Test.YtdgbgmffpcooeaaDk3
import Derived.Lib.AppendStr
import Derived.Laws.IdiomStrings
namespace Go.Proofs.Ytdgbgmffpcooeaa
open Go.RowKit Go.Lib

theorem info5 : (Try.prog.info? 5).map (fun i => (i.zero, i.size, i.bytes)) = some (some (.int .u8 0), 1, 1) := by kernel_rfl

/-- The bytes of the first j. -/
def joined (f : Nat → ByteArray) (j : Nat) : List UInt8 := (List.range j).flatMap fun t => (f t).data.toList
theorem joined_zero (f : Nat → ByteArray) : joined f 0 = [] := by simp [joined]
theorem joined_succ (f : Nat → ByteArray) (j : Nat) : joined f (j + 1) = joined f j ++ (f j).data.toList := by simp [joined, List.range_succ]
theorem length_data (b : ByteArray) : b.data.toList.length = b.size := by rw [Array.length_toList]; rfl
theorem length_joined (f : Nat → ByteArray) (j : Nat) (h : ∀ t, t < j → (f t).size = 256) : (joined f j).length = j * 256 := by
  induction j with
  | zero => simp [joined]
  | succ j ih => rw [joined_succ, List.length_append, ih (fun t ht => h t (by omega)), length_data, h j (by omega)]; omega
def byteCells (l : List UInt8) : List Value := l.map fun b => .int .u8 b.toNat
theorem byteCells_succ (f : Nat → ByteArray) (j : Nat) : byteCells (joined f (j + 1)) = byteCells (joined f j) ++ strCells (f j) := by rw [joined_succ]; simp [byteCells, strCells]
theorem joined_congr {f g : Nat → ByteArray} {j : Nat} (h : ∀ t, t < j → f t = g t) : joined f j = joined g j := by
  induction j with
  | zero => simp [joined]
  | succ j ih => rw [joined_succ, joined_succ, ih (fun t ht => h t (by omega)), h j (by omega)]

/-- 'string(b)' of a row of bytes that is owned. -/
theorem conv_own {w : World} {base g cap n : Nat} {l : List UInt8} (hn : l.length = n) (h : w.ownsRow base 5 1 (.slice (some ⟨g, 0, none⟩) n cap) n (byteCells l)) : (convert 81 9 (.slice (some ⟨g, 0, none⟩) n cap)).run Try.prog w = .ok (.string ⟨l.toArray⟩) w := by
  have := run_convert_bytes_back (P := Try.prog) w 81 9 5 ⟨g, 0, none⟩ cap l Try.underlying81 Try.underlying5 Try.underlying9 (fun j hj => by
    have h1 := (own_cell h j (by omega)).1
    rw [show (⟨g, 0, none⟩ : Addr).add j = ⟨g, j, none⟩ by unfold Addr.add; split <;> simp_all]
    rw [h1]; simp [byteCells, List.getElem?_eq_getElem hj])
  rw [hn] at this; exact this

set_option maxRecDepth 100000 in
set_option maxHeartbeats 2000000 in
theorem rimage_any (w : World) (base : Nat) (A : RA) (s : RS) (h : RD w base A s) (hok : ∀ t, t < s.n → (s.safe t).size = 256) :
    Calls Try.prog 25 #[.pointer (some ⟨A.r, 0, none⟩)] w fun e w' => e = .returned (.tuple #[.string ⟨(joined s.safe s.n).toArray⟩, .int .i64 0]) ∧ Below w.heap.size w w' := by
  obtain ⟨i5, hi5, hz5a, hz5b, hz5c⟩ := info_parts info5
  have hn1 := h.n1
  have hn2 := h.n2
  obtain ⟨c0, c1, c2, c3, c4, c5, c6⟩ := h.cells
  have hm : wrap64 ((s.n : Int) * 256) = ((s.n * 256 : Nat) : Int) := by unfold wrap64; omega
  go_enter Try.func25, Try.ntmps25
  go_wp2_with (at_make; refine wpList_make_own _ rfl _ (.tmp 13) 81 rfl w.heap.size 5 i5 _ 1 Try.underlying81 hi5 hz5a hz5b _ _ _ (s.n * 256) rfl rfl (by omega) (by rw [hz5c]; omega) (by unfold maxLen; omega) (Nat.le_refl _) ?_; intro w1 hown hgrow)
  have hB1 : Below w.heap.size w w1 := (Below.refl _ _).grown hgrow (Nat.le_refl _) (fun k hk => by cases hk)
  clear hgrow
  go_loopw [4, 5] (fun v x wr => ∃ j : Nat, x = .int .i64 (j : Int) ∧ j ≤ s.n ∧ wr.ownsRow w.heap.size 5 1 v (j * 256) (byteCells (joined s.safe j)) ∧ Below w.heap.size w wr) (fun _ x _ => s.n - (intOf x).toNat)
  case atStart => exact ⟨0, rfl, by omega, by rw [joined_zero]; simpa [byteCells] using hown, hB1⟩
  case round =>
    obtain ⟨j, rfl, hj, hv, hB⟩ := hrel
    clear hown hB1 c0 c1 c2 c3 c4 c5 c6
    have hRw := h.below hB
    obtain ⟨c0, c1, c2, c3, c4, c5, c6⟩ := hRw.cells
    have hs := hB.size
    by_cases hlt : j < s.n
    · have hlt' : (j : Int) < (s.n : Int) := by omega
      obtain ⟨q1, q2⟩ := hRw.getSafe (i := j) hlt
      have hsz := hok j hlt
      have hsa := (own_lt hRw.rowS).2
      go_wp2_with (at_builtin; refine wpList_append_own_string _ rfl (.tmp 24) (.tmp 31) 81 9 rfl w.heap.size 5 i5 Try.underlying81 Try.underlying9 hi5 hz5a hz5b hz5c _ (j * 256) _ rfl hv (s.safe j) rfl (by unfold maxLen; omega) (by omega) hs ?_; intro v' w2 hv2 hg2 _)
      go_wp2
      go_roundw
      case rel =>
        refine ⟨j + 1, by go_num, by omega, ?_, ?_⟩
        · rw [hsz] at hv2
          rw [byteCells_succ, show (j + 1) * 256 = j * 256 + 256 by omega]; exact hv2
        · exact hB.grown hg2 hs (fun k hk => own_ge hv hk)
      case measure => simp [intOf]; omega
    · have hlt' : decide ((j : Int) < (s.n : Int)) = false := by simp; omega
      have hlt2 : decide (j < s.n) = false := by simp; omega
      have hjn : j = s.n := by omega
      rw [hjn] at hv
      obtain ⟨g, cap, hvv, _, _⟩ := hv.form (by omega)
      subst hvv
      have hcv := conv_own (length_joined s.safe s.n hok) hv
      clear hjn
      go_wp2
      go_ret2
      exact ⟨rfl, hB⟩
end Go.Proofs.Ytdgbgmffpcooeaa
