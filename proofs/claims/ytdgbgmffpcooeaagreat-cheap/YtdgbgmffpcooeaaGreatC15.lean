/- Pk2 Pk3 Pk4 Pk5 -/
import Derived.Test.YtdgbgmffpcooeaaGreatC06
import Derived.Deep.RegionLaw
import Derived.Deep.DeepCutAuto
section
/- What the program's disk answers: has, fails, spend, settle, Steps, Break, Flush, Read. -/
namespace Go.Proofs.YtdgbgmffpcooeaaGreat
open Go.RowKit Go.Lib Go.Maps

def PS.brk (s : PS) : Bool := s.broken || decide (s.left = 0)
def PS.asked (s : PS) : PS := { s with broken := s.brk }
def PS.spent (s : PS) : PS := { s with left := if 0 < s.left then s.left - 1 else s.left }
def PS.settled (s : PS) : PS := { s with old := fun _ => none }

set_option maxHeartbeats 1000000 in
theorem phas_any (w : World) (base : Nat) (A : PA) (s : PS) (h : PD w base A s) (i : Int) :
    Calls Tryz.prog 164 #[.pointer (some ⟨A.q, 0, none⟩), .int .i64 i] w fun e w' => e = .returned (.bool (decide (0 ≤ i ∧ i < (s.n : Int)))) ∧ w' = w := by
  obtain ⟨c0, c1, c2, c3, c4⟩ := h.cells
  by_cases h1 : 0 ≤ i
  · by_cases h2 : i < (s.n : Int)
    · go_enter Tryz.func164, Tryz.ntmps164
      go_wp2
      go_ret
      exact ⟨ret_bool (by simp [h1, h2]), rfl⟩
    · have t2 : decide (i < (s.n : Int)) = false := by simp; omega
      go_enter Tryz.func164, Tryz.ntmps164
      go_wp2
      go_ret
      exact ⟨ret_bool (by simp), rfl⟩
  · have t1 : decide (0 ≤ i) = false := by simp; omega
    go_enter Tryz.func164, Tryz.ntmps164
    go_wp2
    go_ret
    exact ⟨ret_bool (by simp), rfl⟩

set_option maxHeartbeats 1000000 in
theorem pfails_any (w : World) (base : Nat) (A : PA) (s : PS) (h : PD w base A s) :
    Calls Tryz.prog 106 #[.pointer (some ⟨A.q, 0, none⟩)] w fun e w' => e = .returned (.bool s.brk) ∧ PD w' base A s.asked ∧ Off A.F w w' := by
  obtain ⟨c0, c1, c2, c3, c4⟩ := h.cells
  have f3 : w.frozen? ⟨A.q, 3, none⟩ = false := h.blkQ.frozen 3
  by_cases hl : s.left = 0
  · have hb : s.brk = true := by unfold PS.brk; simp [hl]
    have hR : PD (w.setCell ⟨A.q, 3, none⟩ (.bool true)) base A s.asked := h.cell 3 (.bool true) rfl rfl rfl (by unfold PS.asked; rw [hb]; rfl)
    rw [hl] at c2
    go_enter Tryz.func106, Tryz.ntmps106
    go_wp2
    go_ret
    exact ⟨ret_bool hb.symm, hR, (Off.refl _ _).setCell _ (.inl (.inr (.inl rfl)))⟩
  · have t1 : (s.left == 0) = false := by simp; omega
    have hb : s.brk = s.broken := by unfold PS.brk; simp [hl]
    have hs : s.asked = s := by unfold PS.asked; rw [hb]
    have HB : Hid (s.brk = s.broken) := hb
    have HS : Hid (s.asked = s) := hs
    clear hb hs
    go_enter Tryz.func106, Tryz.ntmps106
    go_wp2
    go_ret
    exact ⟨ret_bool HB.out.symm, by rw [HS.out]; exact h, Off.refl _ _⟩

set_option maxHeartbeats 1000000 in
theorem pspend_any (w : World) (base : Nat) (A : PA) (s : PS) (h : PD w base A s) (hlf : -1 ≤ s.left ∧ s.left ≤ 9223372036854775807) :
    Calls Tryz.prog 107 #[.pointer (some ⟨A.q, 0, none⟩)] w fun e w' => e = .returned (.tuple #[]) ∧ PD w' base A s.spent ∧ Off A.F w w' := by
  obtain ⟨c0, c1, c2, c3, c4⟩ := h.cells
  have f2 : w.frozen? ⟨A.q, 2, none⟩ = false := h.blkQ.frozen 2
  by_cases hl : 0 < s.left
  · have hs : s.spent = { s with left := s.left - 1 } := by unfold PS.spent; rw [if_pos hl]
    have hR : PD (w.setCell ⟨A.q, 2, none⟩ (.int .i64 (s.left - 1))) base A s.spent := h.cell 2 (.int .i64 (s.left - 1)) (by rw [hs]) (by rw [hs]) (by rw [hs]) (by rw [hs]; rfl)
    have HS : Hid (s.spent = { s with left := s.left - 1 }) := hs
    clear hs
    go_enter Tryz.func107, Tryz.ntmps107
    go_wp2
    refine bodyPost_end (v := .tuple #[]) (by simp [results, Tryz.results107]) rfl ⟨rfl, hR, (Off.refl _ _).setCell _ (.inl (.inr (.inl rfl)))⟩
  · have t1 : decide (0 < s.left) = false := by simp; omega
    have hs : s.spent = s := by unfold PS.spent; rw [if_neg hl]
    have HS : Hid (s.spent = s) := hs
    clear hs
    go_enter Tryz.func107, Tryz.ntmps107
    go_wp2
    refine bodyPost_end (v := .tuple #[]) (by simp [results, Tryz.results107]) rfl ⟨rfl, by rw [HS.out]; exact h, Off.refl _ _⟩

theorem MapIs.empty (n : Nat) : MapIs (.map []) (fun _ => none) n := ⟨fun i _ => (by simp [Maps.has]), fun i b _ h => (by cases h), fun k h => (by simp [Maps.has] at h), fun i b _ h => (by cases h)⟩

set_option maxHeartbeats 1000000 in
theorem psettle_any (w : World) (base : Nat) (A : PA) (s : PS) (h : PD w base A s) :
    Calls Tryz.prog 73 #[.pointer (some ⟨A.q, 0, none⟩)] w fun e w' => e = .returned (.tuple #[]) ∧ PD w' base { A with m := w.heap.size } s.settled ∧ Off A.F w w' := by
  obtain ⟨a1, a2, a3, a4, a5, a6⟩ := h.apart
  obtain ⟨c0, c1, c2, c3, c4⟩ := h.cells
  have hbl := h.blkQ.lt
  have f1 : w.frozen? ⟨A.q, 1, none⟩ = false := h.blkQ.frozen 1
  have hmm := @run_makeMap Tryz.prog
  have hR : PD ((w.setCell ⟨A.q, 1, none⟩ (.map (some w.heap.size))).alloc (.map #[] 0)) base { A with m := w.heap.size } s.settled := by
    have ho : Off (fun k => k = A.q) w ((w.setCell ⟨A.q, 1, none⟩ (.map (some w.heap.size))).alloc (.map #[] 0)) := (Off.one (i := 1) (B := A.q) w (.map (some w.heap.size))).alloc _
    obtain ⟨l1, l2, l3, l4⟩ := h.le
    refine ⟨⟨l1, l2, l3, by simp only; omega⟩, h.blkP.off ho a1, (h.blkQ.set 1 _).alloc _, h.sec.off ho a2, ⟨0, .map [], ?_, Nat.zero_le _, MapIs.empty _⟩, h.n1, h.n2⟩
    have := World.ownsMap_made (H := Unit) (w.setCell ⟨A.q, 1, none⟩ (.map (some w.heap.size))) Tryz.prog 3 secR
    simpa using this
  go_enter Tryz.func73, Tryz.ntmps73
  go_wp2
  refine bodyPost_end (v := .tuple #[]) (by simp [results, Tryz.results73]) rfl ⟨rfl, hR, ((Off.refl _ _).setCell _ (.inl (.inr (.inl rfl)))).alloc _⟩

set_option maxHeartbeats 1000000 in
theorem psteps_any (w : World) (base : Nat) (A : PA) (s : PS) (h : PD w base A s) :
    Calls Tryz.prog 55 #[.pointer (some ⟨A.q, 0, none⟩)] w fun e w' => e = .returned (.int .i64 s.steps) ∧ w' = w := by
  obtain ⟨c0, c1, c2, c3, c4⟩ := h.cells
  go_enter Tryz.func55, Tryz.ntmps55
  go_wp2
  go_ret
  exact ⟨rfl, rfl⟩

def PS.flush (s : PS) : Int × PS := if s.brk then (4, s.asked) else (0, s.asked.spent.settled)
end Go.Proofs.YtdgbgmffpcooeaaGreat
end
section
/- What the program's disk answers at Read; what New makes. -/
namespace Go.Proofs.YtdgbgmffpcooeaaGreat
open Go.RowKit Go.Lib Go.Maps

theorem sec_conv {W : World} {g n : Nat} {now : Nat → ByteArray} (h : Sec W g n now) {i : Nat} (hi : i < n) : (convert 81 9 (.slice (some ⟨g, i * 256, none⟩) 256 256)).run Tryz.prog W = .ok (.string (now i)) W := by
  have hl : (now i).data.toList.length = 256 := by rw [length_data]; exact h.size i hi
  have := run_convert_bytes_back (P := Tryz.prog) W 81 9 5 ⟨g, i * 256, none⟩ 256 (now i).data.toList Tryz.underlying81 Tryz.underlying5 Tryz.underlying9 (fun j hj => by
    rw [Addr.add_mid]
    exact h.at_ i hi j _ (by unfold strCells; rw [List.getElem?_map, List.getElem?_eq_getElem hj]; rfl))
  rw [hl] at this
  simpa using this

def PS.read (s : PS) (i : Int) : ByteArray × Int × PS :=
  if i < 0 ∨ (s.n : Int) ≤ i then (ByteArray.empty, 3, s) else if s.brk then (ByteArray.empty, 4, s.asked) else (s.now i.toNat, 0, { s.asked with steps := wrap64 (s.steps + 1) })

set_option maxRecDepth 100000 in
set_option maxHeartbeats 1000000 in
theorem pread_any (w : World) (base : Nat) (A : PA) (s : PS) (h : PD w base A s) (i : Int) :
    Calls Tryz.prog 128 #[.pointer (some ⟨A.q, 0, none⟩), .int .i64 i] w fun e w' => e = .returned (.tuple #[.string (s.read i).1, .int .i64 (s.read i).2.1]) ∧ PD w' base A (s.read i).2.2 ∧ Off A.F w w' := by
  have hhas := phas_any w base A s h i
  by_cases h1 : i < 0 ∨ (s.n : Int) ≤ i
  · have e : s.read i = (ByteArray.empty, 3, s) := by unfold PS.read; rw [if_pos h1]
    rw [e]
    have hd : decide (0 ≤ i ∧ i < (s.n : Int)) = false := by rw [decide_eq_false_iff_not]; omega
    rw [hd] at hhas
    clear hd h1 e
    go_enter Tryz.func128, Tryz.ntmps128
    go_wp2_with (go_at_call 164; refine hhas.mono ?_; rintro e w1 ⟨rfl, rfl⟩)
    go_ret2
    exact ⟨rfl, h, Off.refl _ _⟩
  · have hd : decide (0 ≤ i ∧ i < (s.n : Int)) = true := by rw [decide_eq_true_iff]; omega
    rw [hd] at hhas
    obtain ⟨k, rfl⟩ : ∃ k : Nat, i = k := ⟨i.toNat, by omega⟩
    have hk : k < s.n := by omega
    have hk' : (k : Int) < (s.n : Int) := by omega
    have hcon := pfails_any w base A s h
    clear hd
    cases hb : s.brk with
    | true =>
      have e : s.read k = (ByteArray.empty, 4, s.asked) := by unfold PS.read; rw [if_neg h1, hb]; rfl
      rw [e]
      rw [hb] at hcon
      clear h1 e
      go_enter Tryz.func128, Tryz.ntmps128
      go_wp2_with (first | (go_at_call 164; refine hhas.mono ?_; rintro e w1 ⟨rfl, rfl⟩) | (go_at_call 106; refine hcon.mono ?_; rintro e w1 ⟨rfl, hR, ho⟩))
      go_ret2
      exact ⟨rfl, hR, ho⟩
    | false =>
      have e : s.read k = (s.now k, 0, { s.asked with steps := wrap64 (s.steps + 1) }) := by unfold PS.read; rw [if_neg h1, hb]; rfl
      rw [e]
      rw [hb] at hcon
      clear h1 e
      go_enter Tryz.func128, Tryz.ntmps128
      go_wp2_with (first | (go_at_call 164; refine hhas.mono ?_; rintro e w0 ⟨rfl, rfl⟩) | (go_at_call 106; refine hcon.mono ?_; rintro e w1 ⟨rfl, hR, ho⟩; have hR2 : PD (w1.setCell ⟨A.q, 4, none⟩ (.int .i64 (wrap64 (s.steps + 1)))) base A { s.asked with steps := wrap64 (s.steps + 1) } := hR.cell 4 (.int .i64 (wrap64 (s.steps + 1))) rfl rfl rfl rfl; have hcv := sec_conv hR2.sec (i := k) hk; have hgl := hR.sec.lt; have c0 : w1.cell? ⟨A.q, 0, none⟩ = some (.slice (some ⟨A.g, 0, none⟩) s.n s.n) := hR.cells.1; have c4 : w1.cell? ⟨A.q, 4, none⟩ = some (.int .i64 s.steps) := hR.cells.2.2.2.2; have f4 : w1.frozen? ⟨A.q, 4, none⟩ = false := hR.blkQ.frozen 4; simp only [PS.asked] at hcv))
      go_ret2
      exact ⟨rfl, hR2, ho.setCell _ (.inl (.inr (.inl rfl)))⟩
end Go.Proofs.YtdgbgmffpcooeaaGreat
end
section
/- What the program's New makes. -/
namespace Go.Proofs.YtdgbgmffpcooeaaGreat
open Go.RowKit Go.Lib Go.Maps

theorem info135 : (Tryz.prog.info? 135).map (fun i => (i.zero, i.size, i.bytes)) = some (some (.agg (Array.replicate 256 (.int .u8 0))), 256, 256) := by kernel_rfl

/-- A disk that has no outer block yet. -/
structure PI (W : World) (base q g m : Nat) (s : PS) : Prop where
  le : base ≤ q ∧ base ≤ g ∧ base ≤ m
  blkQ : Blk W q 133 (pdCells ⟨0, q, g, m⟩ s)
  sec : Sec W g s.n s.now
  map : ∃ k D, W.ownsMap Tryz.prog 3 secR m k D ∧ k ≤ 4096 ∧ MapIs D s.old s.n
  n1 : 256 ≤ s.n
  n2 : s.n ≤ 4096
def PS.fresh (n : Nat) (now : Nat → ByteArray) : PS := ⟨n, now, fun _ => none, -1, false, 0⟩
theorem size_zero256 : (zeros 256).size = 256 := size_zeros 256
theorem zero_cells_of (k j : Nat) (v : Value) (h : (strCells (zeros k))[j]? = some v) : j < k ∧ v = .int .u8 0 := by
  have hl : (strCells (zeros k)).length = k := by rw [strCells_length]; exact size_zeros k
  have hj : j < k := by have := (List.getElem?_eq_some_iff.1 h).1; omega
  refine ⟨hj, ?_⟩
  unfold strCells zeros at h
  rw [List.getElem?_map] at h
  simp [hj] at h
  exact h.symm
theorem zero_cells (j : Nat) (v : Value) (h : (strCells (zeros 256))[j]? = some v) : j < 256 ∧ v = .int .u8 0 := zero_cells_of 256 j v h
theorem rep_get (k i : Nat) (x : Value) (h : i < k) : (Array.replicate k x)[i]! = x := by
  rw [getElem!_pos _ _ (by simpa using h)]; simp

/-- The sectors that make lays. -/
theorem sec_made {W : World} {base g n : Nat} (h : W.ownsRow base 135 256 (.slice (some ⟨g, 0, none⟩) n n) n (madeCells (Value.agg (Array.replicate 256 (.int .u8 0))).cells (n * 256)).toList) : Sec W g n (fun _ => zeros 256) := by
  have hc := own_cell h
  obtain ⟨_, ⟨e1, _⟩ | ⟨g', cap', cur, e1, _, h1, _, _, h3, _⟩⟩ := h
  · cases e1
  · cases e1
    refine ⟨⟨cur, h1, h3⟩, fun i hi j v hv => ?_, fun _ _ => size_zero256⟩
    obtain ⟨hj, rfl⟩ := zero_cells j v hv
    have hlt : i * 256 + j < n * 256 := by
      have := Nat.mul_le_mul_right 256 (show i + 1 ≤ n from hi); omega
    rw [(hc (i * 256 + j) hlt).1]
    simp [madeCells, Value.cells, hlt]
    exact rep_get 256 _ _ (Nat.mod_lt _ (by omega))

set_option maxRecDepth 100000 in
set_option maxHeartbeats 1000000 in
theorem pnew_ok (w : World) (n : Nat) (h1 : 256 ≤ n) (h2 : n ≤ 4096) :
    Calls Tryz.prog 57 #[.int .i64 (n : Int)] w fun e w' => ∃ q g m, e = .returned (.tuple #[.pointer (some ⟨q, 0, none⟩), .int .i64 0]) ∧ PI w' w.heap.size q g m (PS.fresh n (fun _ => zeros 256)) ∧ Below w.heap.size w w' := by
  obtain ⟨i7, hi7, hz7a, hz7b, hz7c⟩ := info_parts info135
  have t1 : decide ((n : Int) < 256) = false := by simp; omega
  have t2 : decide ((4096 : Int) < (n : Int)) = false := by simp; omega
  have hmm := @run_makeMap Tryz.prog
  go_enter Tryz.func57, Tryz.ntmps57
  go_wp2_with (at_make; refine wpList_make_full _ rfl (.tmp 10) (.tmp 10) 130 rfl w.heap.size 135 i7 _ 256 Tryz.underlying130 hi7 hz7a hz7b _ _ _ _ n rfl rfl rfl rfl (by rw [hz7c]; omega) (by unfold maxLen; omega) (Nat.le_refl _) ?_; intro w1 hown hgrow; have hsec := sec_made hown; clear hown hz7a)
  have hB1 : Below w.heap.size w w1 := (Below.refl _ _).grown hgrow (Nat.le_refl _) (fun k hk => by cases hk)
  have hs1 := hB1.size
  have hgl := hsec.lt
  go_ret2
  refine ⟨w1.heap.size + 1, w.heap.size, w1.heap.size, rfl, ⟨⟨by omega, by omega, by omega⟩, ?_, ?_, ⟨0, .map [], ?_, Nat.zero_le _, MapIs.empty _⟩, h1, h2⟩, (hB1.alloc hs1 _).alloc (by simp; omega) _⟩
  · have := Blk.new (w1.alloc (.map #[] 0)) 133 #[.slice (some ⟨w.heap.size, 0, none⟩) n n, .map (some w1.heap.size), .int .i64 (-1), .bool false, .int .i64 0]
    simp only [World.size_alloc] at this
    exact this
  · exact hsec.off (F := fun _ => False) (Off.of_below (((Below.refl _ w1).alloc (Nat.le_refl _) _).alloc (by simp) _)) (fun h => h)
  · have := (World.ownsMap_made (H := Unit) w1 Tryz.prog 3 secR).alloc (.cells #[.slice (some ⟨w.heap.size, 0, none⟩) n n, .map (some w1.heap.size), .int .i64 (-1), .bool false, .int .i64 0] 133)
    exact this
end Go.Proofs.YtdgbgmffpcooeaaGreat
end
section
/- What the program's Load makes. -/
namespace Go.Proofs.YtdgbgmffpcooeaaGreat
open Go.RowKit Go.Lib Go.Maps

theorem setCells_block {g : Nat} {t : TypeId} : ∀ (vs : List Value) (o : Nat) (W : World) (cur : Array Value), W.heap[g]? = some (.cells cur t (0, 0)) → ∃ cur', (W.setCells g o vs).heap[g]? = some (.cells cur' t (0, 0)) ∧ cur'.size = cur.size
  | [], _, _, cur, h => ⟨cur, h, rfl⟩
  | v :: r, o, W, cur, h => by
    obtain ⟨c, h1, h2⟩ := setCells_block r (o + 1) (W.setCell ⟨g, o, none⟩ v) (cur.setIfInBounds o v) (Blk.set h o v)
    exact ⟨c, h1, by rw [h2, Array.size_setIfInBounds]⟩
theorem Off.setCells {F : Nat → Prop} {W0 : World} {B : Nat} (hB : F B ∨ W0.heap.size ≤ B) : ∀ (vs : List Value) (o : Nat) (W : World), Off F W0 W → Off F W0 (W.setCells B o vs)
  | [], _, _, h => h
  | v :: r, o, _, h => Off.setCells hB r (o + 1) _ (h.setCell v hB)
theorem Sec.there {W : World} {g n : Nat} {now : Nat → ByteArray} (h : Sec W g n now) {i : Nat} (hi : i < n) : W.there g (i * 256) 256 := fun j hj => by
  obtain ⟨cur, h1, h2⟩ := h.blk
  have hl : i * 256 + j < cur.size := by rw [h2]; have := Nat.mul_le_mul_right 256 (show i + 1 ≤ n from hi); omega
  exact ⟨by simp [World.cell?, h1, hl], by simp [World.frozen?, h1]⟩
theorem Sec.set {W : World} {g n : Nat} {now : Nat → ByteArray} (h : Sec W g n now) {i : Nat} (hi : i < n) {b : ByteArray} (hb : b.size = 256) : Sec (W.setCells g (i * 256) (strCells b)) g n (upd now i b) := by
  have hl : (strCells b).length = 256 := by rw [strCells_length, hb]
  obtain ⟨cur, h1, h2⟩ := h.blk
  obtain ⟨cur', h3, h4⟩ := setCells_block (strCells b) (i * 256) W cur h1
  refine ⟨⟨cur', h3, h4.trans h2⟩, fun t ht => ?_, fun t ht => ?_⟩
  · by_cases e : t = i
    · subst e
      rw [upd_same]
      exact World.rangeAt_setCells_same W g (t * 256) (strCells b) (by rw [hl]; exact h.there hi)
    · rw [upd_ne now b e]
      refine World.rangeAt_setCells_apart (h.at_ t ht) g (i * 256) (strCells b) (.inr ?_)
      rw [hl, strCells_length, h.size t ht]
      rcases Nat.lt_or_ge t i with g1 | g1
      · left; have := Nat.mul_le_mul_right 256 (show t + 1 ≤ i from g1); omega
      · right; have := Nat.mul_le_mul_right 256 (show i + 1 ≤ t by omega); omega
  · by_cases e : t = i
    · subst e; rw [upd_same]; exact hb
    · rw [upd_ne now b e]; exact h.size t ht

/-- 'copy(dst, s)', s a string no shorter than dst: so many of its first bytes go over. -/
theorem run_copy_long {P : Program} (w : World) (dT sT ty elem : TypeId) (b o dLen dCap : Nat) (t : ByteArray)
    (hu : P.underlying dT = some (.slice elem)) (hz : ∀ w, (Go.sizeOf elem).run P w = .ok 1 w) (hle : dLen ≤ t.size) (ht : w.there b o dLen) :
    (Builtin.copy_ #[dT, sT] ty #[.slice (some ⟨b, o, none⟩) dLen dCap, .string t]).run P w = .ok (goInt dLen) (w.setCells b o (strCells (t.extract 0 dLen))) := by
  have hmin : Nat.min t.size dLen = dLen := Nat.min_eq_right hle
  have hsz : (t.extract 0 dLen).size = dLen := by rw [ByteArray.size_extract]; omega
  have hl : (strCells (t.extract 0 dLen)).length = dLen := by rw [strCells_length, hsz]
  have htk : List.take dLen (List.map (fun x : UInt8 => Value.int .u8 (x.toNat : Int)) t.data.toList) = strCells (t.extract 0 dLen) := by
    unfold strCells
    rw [← List.map_take]
    congr 1
    rw [ByteArray.data_extract]
    simp
  have hst := run_storeCells_cells (P := P) b o (strCells (t.extract 0 dLen)) 0 w (by rw [hl]; intro j hj; simpa using (ht j hj).1) (by rw [hl]; intro j hj; simpa using (ht j hj).2) (strCells_oneCell _)
  simp [Builtin.copy_, run_underlying hu, Builtin.lenOf, Builtin.firstCells, hz, hmin]
  rw [htk, hst]
  rfl
theorem sizeOf5 (w : World) : (Go.sizeOf 5).run Tryz.prog w = .ok 1 w := by kernel_rfl
end Go.Proofs.YtdgbgmffpcooeaaGreat
end
