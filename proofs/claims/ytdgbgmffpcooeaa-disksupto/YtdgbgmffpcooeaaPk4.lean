/- What the program's New makes. -/
import Derived.Test.YtdgbgmffpcooeaaPk3
namespace Go.Proofs.Ytdgbgmffpcooeaa
open Go.RowKit Go.Lib Go.Maps

theorem info107 : (Try.prog.info? 107).map (fun i => (i.zero, i.size, i.bytes)) = some (some (.agg (Array.replicate 256 (.int .u8 0))), 256, 256) := by kernel_rfl

/-- A disk that has no outer block yet. -/
structure PI (W : World) (base q g m : Nat) (s : PS) : Prop where
  le : base ≤ q ∧ base ≤ g ∧ base ≤ m
  blkQ : Blk W q 105 (pdCells ⟨0, q, g, m⟩ s)
  sec : Sec W g s.n s.now
  map : ∃ k D, W.ownsMap Try.prog 3 secR m k D ∧ (k : Int) ≤ s.steps ∧ MapIs D s.old s.n
  n1 : 256 ≤ s.n
  n2 : s.n ≤ 4096
def PS.fresh (n : Nat) (now : Nat → ByteArray) : PS := ⟨n, now, fun _ => none, -1, false, 0⟩
theorem size_zero256 : (zeros 256).size = 256 := size_zeros 256
theorem zero_cells_of (k j : Nat) (v : Value) (h : (strCells (zeros k))[j]? = some v) : j < k ∧ v = .int .u8 0 := by
  have hl : (strCells (zeros k)).length = k := by rw [strCells_length]; exact size_zeros k
  have hj : j < k := by have := (List.getElem?_eq_some_iff.1 h).1; omega
  refine ⟨hj, ?_⟩
  unfold strCells zeros at h
  rw [List.getElem?_map] at h
  simp [hj] at h
  exact h.symm
theorem zero_cells (j : Nat) (v : Value) (h : (strCells (zeros 256))[j]? = some v) : j < 256 ∧ v = .int .u8 0 := zero_cells_of 256 j v h
theorem rep_get (k i : Nat) (x : Value) (h : i < k) : (Array.replicate k x)[i]! = x := by
  rw [getElem!_pos _ _ (by simpa using h)]; simp

/-- The sectors that make lays. -/
theorem sec_made {W : World} {base g n : Nat} (h : W.ownsRow base 107 256 (.slice (some ⟨g, 0, none⟩) n n) n (madeCells (Value.agg (Array.replicate 256 (.int .u8 0))).cells (n * 256)).toList) : Sec W g n (fun _ => zeros 256) := by
  have hc := own_cell h
  obtain ⟨_, ⟨e1, _⟩ | ⟨g', cap', cur, e1, _, h1, _, _, h3, _⟩⟩ := h
  · cases e1
  · cases e1
    refine ⟨⟨cur, h1, h3⟩, fun i hi j v hv => ?_, fun _ _ => size_zero256⟩
    obtain ⟨hj, rfl⟩ := zero_cells j v hv
    have hlt : i * 256 + j < n * 256 := by
      have := Nat.mul_le_mul_right 256 (show i + 1 ≤ n from hi); omega
    rw [(hc (i * 256 + j) hlt).1]
    simp [madeCells, Value.cells, hlt]
    exact rep_get 256 _ _ (Nat.mod_lt _ (by omega))

set_option maxRecDepth 100000 in
set_option maxHeartbeats 1000000 in
theorem pnew_no (w : World) (a : Int) (h : a < 256 ∨ 4096 < a) :
    Calls Try.prog 44 #[.int .i64 a] w fun e w' => e = .returned (.tuple #[.pointer none, .int .i64 2]) ∧ w' = w := by
  rcases h with h | h
  · go_enter Try.func44, Try.ntmps44
    go_wp2
    go_ret2
    exact ⟨rfl, rfl⟩
  · have h0 : decide (a < 256) = false := by simp; omega
    go_enter Try.func44, Try.ntmps44
    go_wp2
    go_ret2
    exact ⟨rfl, rfl⟩

set_option maxRecDepth 100000 in
set_option maxHeartbeats 1000000 in
theorem pnew_ok (w : World) (n : Nat) (h1 : 256 ≤ n) (h2 : n ≤ 4096) :
    Calls Try.prog 44 #[.int .i64 (n : Int)] w fun e w' => ∃ q g m, e = .returned (.tuple #[.pointer (some ⟨q, 0, none⟩), .int .i64 0]) ∧ PI w' w.heap.size q g m (PS.fresh n (fun _ => zeros 256)) ∧ Below w.heap.size w w' := by
  obtain ⟨i7, hi7, hz7a, hz7b, hz7c⟩ := info_parts info107
  have t1 : decide ((n : Int) < 256) = false := by simp; omega
  have t2 : decide ((4096 : Int) < (n : Int)) = false := by simp; omega
  have hmm := @run_makeMap Try.prog
  go_enter Try.func44, Try.ntmps44
  go_wp2_with (at_make; refine wpList_make_full _ rfl (.tmp 10) (.tmp 10) 102 rfl w.heap.size 107 i7 _ 256 Try.underlying102 hi7 hz7a hz7b _ _ _ _ n rfl rfl rfl rfl (by rw [hz7c]; omega) (by unfold maxLen; omega) (Nat.le_refl _) ?_; intro w1 hown hgrow; have hsec := sec_made hown; clear hown hz7a)
  have hB1 : Below w.heap.size w w1 := (Below.refl _ _).grown hgrow (Nat.le_refl _) (fun k hk => by cases hk)
  have hs1 := hB1.size
  have hgl := hsec.lt
  go_ret2
  refine ⟨w1.heap.size + 1, w.heap.size, w1.heap.size, rfl, ⟨⟨by omega, by omega, by omega⟩, ?_, ?_, ⟨0, .map [], ?_, (by show (0 : Int) ≤ 0; exact Int.le_refl _), MapIs.empty _⟩, h1, h2⟩, (hB1.alloc hs1 _).alloc (by simp; omega) _⟩
  · have := Blk.new (w1.alloc (.map #[] 0)) 105 #[.slice (some ⟨w.heap.size, 0, none⟩) n n, .map (some w1.heap.size), .int .i64 (-1), .bool false, .int .i64 0]
    simp only [World.size_alloc] at this
    exact this
  · exact hsec.off (F := fun _ => False) (Off.of_below (((Below.refl _ w1).alloc (Nat.le_refl _) _).alloc (by simp) _)) (fun h => h)
  · have := (World.ownsMap_made (H := Unit) w1 Try.prog 3 secR).alloc (.cells #[.slice (some ⟨w.heap.size, 0, none⟩) n n, .map (some w1.heap.size), .int .i64 (-1), .bool false, .int .i64 0] 105)
    exact this
end Go.Proofs.Ytdgbgmffpcooeaa
