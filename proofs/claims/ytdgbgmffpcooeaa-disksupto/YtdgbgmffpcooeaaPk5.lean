/- What the program's Load makes. -/
import Derived.Test.YtdgbgmffpcooeaaPk4
import Derived.Deep.RegionLaw
import Derived.Deep.DeepCutAuto
namespace Go.Proofs.Ytdgbgmffpcooeaa
open Go.RowKit Go.Lib Go.Maps

theorem setCells_block {g : Nat} {t : TypeId} : ∀ (vs : List Value) (o : Nat) (W : World) (cur : Array Value), W.heap[g]? = some (.cells cur t (0, 0)) → ∃ cur', (W.setCells g o vs).heap[g]? = some (.cells cur' t (0, 0)) ∧ cur'.size = cur.size
  | [], _, _, cur, h => ⟨cur, h, rfl⟩
  | v :: r, o, W, cur, h => by
    obtain ⟨c, h1, h2⟩ := setCells_block r (o + 1) (W.setCell ⟨g, o, none⟩ v) (cur.setIfInBounds o v) (Blk.set h o v)
    exact ⟨c, h1, by rw [h2, Array.size_setIfInBounds]⟩
theorem Off.setCells {F : Nat → Prop} {W0 : World} {B : Nat} (hB : F B ∨ W0.heap.size ≤ B) : ∀ (vs : List Value) (o : Nat) (W : World), Off F W0 W → Off F W0 (W.setCells B o vs)
  | [], _, _, h => h
  | v :: r, o, _, h => Off.setCells hB r (o + 1) _ (h.setCell v hB)
theorem Sec.there {W : World} {g n : Nat} {now : Nat → ByteArray} (h : Sec W g n now) {i : Nat} (hi : i < n) : W.there g (i * 256) 256 := fun j hj => by
  obtain ⟨cur, h1, h2⟩ := h.blk
  have hl : i * 256 + j < cur.size := by rw [h2]; have := Nat.mul_le_mul_right 256 (show i + 1 ≤ n from hi); omega
  exact ⟨by simp [World.cell?, h1, hl], by simp [World.frozen?, h1]⟩
theorem Sec.set {W : World} {g n : Nat} {now : Nat → ByteArray} (h : Sec W g n now) {i : Nat} (hi : i < n) {b : ByteArray} (hb : b.size = 256) : Sec (W.setCells g (i * 256) (strCells b)) g n (upd now i b) := by
  have hl : (strCells b).length = 256 := by rw [strCells_length, hb]
  obtain ⟨cur, h1, h2⟩ := h.blk
  obtain ⟨cur', h3, h4⟩ := setCells_block (strCells b) (i * 256) W cur h1
  refine ⟨⟨cur', h3, h4.trans h2⟩, fun t ht => ?_, fun t ht => ?_⟩
  · by_cases e : t = i
    · subst e
      rw [upd_same]
      exact World.rangeAt_setCells_same W g (t * 256) (strCells b) (by rw [hl]; exact h.there hi)
    · rw [upd_ne now b e]
      refine World.rangeAt_setCells_apart (h.at_ t ht) g (i * 256) (strCells b) (.inr ?_)
      rw [hl, strCells_length, h.size t ht]
      rcases Nat.lt_or_ge t i with g1 | g1
      · left; have := Nat.mul_le_mul_right 256 (show t + 1 ≤ i from g1); omega
      · right; have := Nat.mul_le_mul_right 256 (show i + 1 ≤ t by omega); omega
  · by_cases e : t = i
    · subst e; rw [upd_same]; exact hb
    · rw [upd_ne now b e]; exact h.size t ht

/-- 'copy(dst, s)', s a string no shorter than dst: so many of its first bytes go over. -/
theorem run_copy_long {P : Program} (w : World) (dT sT ty elem : TypeId) (b o dLen dCap : Nat) (t : ByteArray)
    (hu : P.underlying dT = some (.slice elem)) (hz : ∀ w, (Go.sizeOf elem).run P w = .ok 1 w) (hle : dLen ≤ t.size) (ht : w.there b o dLen) :
    (Builtin.copy_ #[dT, sT] ty #[.slice (some ⟨b, o, none⟩) dLen dCap, .string t]).run P w = .ok (goInt dLen) (w.setCells b o (strCells (t.extract 0 dLen))) := by
  have hmin : Nat.min t.size dLen = dLen := Nat.min_eq_right hle
  have hsz : (t.extract 0 dLen).size = dLen := by rw [ByteArray.size_extract]; omega
  have hl : (strCells (t.extract 0 dLen)).length = dLen := by rw [strCells_length, hsz]
  have htk : List.take dLen (List.map (fun x : UInt8 => Value.int .u8 (x.toNat : Int)) t.data.toList) = strCells (t.extract 0 dLen) := by
    unfold strCells
    rw [← List.map_take]
    congr 1
    rw [ByteArray.data_extract]
    simp
  have hst := run_storeCells_cells (P := P) b o (strCells (t.extract 0 dLen)) 0 w (by rw [hl]; intro j hj; simpa using (ht j hj).1) (by rw [hl]; intro j hj; simpa using (ht j hj).2) (strCells_oneCell _)
  simp [Builtin.copy_, run_underlying hu, Builtin.lenOf, Builtin.firstCells, hz, hmin]
  rw [htk, hst]
  rfl
theorem step_copy_long {P : Program} {ops : Array Oper} {o : Oper} {a : Act} {w : World} {K : Act → World → Prop} {Q : Exit → Act → World → Prop} {E : Prop}
    (hg : o.guard = none) (d x : Operand) (dT sT : TypeId) (hop : o.op = Op.call { callee := Callee.builtin Builtin.copy, args := #[d, x], argTypes := #[dT, sT] })
    (elem : TypeId) (hu : P.underlying dT = some (.slice elem)) (hz : ∀ w, (Go.sizeOf elem).run P w = .ok 1 w)
    (b off dLen dCap : Nat) (hd : a.eval d = .slice (some ⟨b, off, none⟩) dLen dCap) (t : ByteArray) (hx : a.eval x = .string t) (hle : dLen ≤ t.size) (ht : w.there b off dLen)
    (hK : K (a.put o.dst (goInt dLen)) (w.setCells b off (strCells (t.extract 0 dLen)))) :
    if Region.wanted o (yielded ops a.tmps) = true then Oper.wp P o a w K Q else E := by
  have hw : Region.wanted o (yielded ops a.tmps) = true := by simp [Region.wanted, hg]
  rw [if_pos hw]
  have hrun := run_copy_long (P := P) w dT sT o.type elem b off dLen dCap t hu hz hle ht
  unfold Oper.wp
  simp [execOp, hop, resolve, invoke, builtin, hd, hx, hrun, Result.andThen]
  exact hK
theorem sizeOf5 (w : World) : (Go.sizeOf 5).run Try.prog w = .ok 1 w := by kernel_rfl
theorem cut_eq (b : ByteArray) (n i : Nat) (hb : b.size = n * 256) (hi : i < n) : (b.extract (i * 256) b.size).extract 0 256 = cut b i := by
  have := Nat.mul_le_mul_right 256 (show i + 1 ≤ n from hi)
  unfold cut
  have e1 : min (i * 256 + 256) b.size = (i + 1) * 256 := by omega
  rw [ByteArray.extract_extract, e1, Nat.add_zero]

set_option maxRecDepth 100000 in
set_option maxHeartbeats 1000000 in
theorem pload_no (w : World) (b : ByteArray) (hb : b.size ≤ 1099511627776) (h : ¬ (b.size % 256 = 0 ∧ 256 ≤ b.size / 256 ∧ b.size / 256 ≤ 4096)) :
    Calls Try.prog 45 #[.string b] w fun e w' => e = .returned (.tuple #[.pointer none, .int .i64 2]) ∧ w' = w := by
  by_cases h1 : b.size % 256 = 0
  · obtain ⟨n, hn⟩ : ∃ n, n = b.size / 256 := ⟨_, rfl⟩
    have q1 : (((b.size : Nat) : Int).tdiv 256) = (n : Int) := by rw [hn, Int.tdiv_eq_ediv_of_nonneg (by omega)]; omega
    have q2 : (((b.size : Nat) : Int) / 256) = (n : Int) := by rw [hn]; omega
    have q3 : ((b.size : Int).tmod 256) = 0 := by rw [Int.tmod_eq_emod_of_nonneg (by omega)]; omega
    have q4 : ((b.size : Int) % 256) = 0 := by omega
    have hcon := pnew_no w (n : Int) (by omega)
    clear h h1 hn
    go_enter Try.func45, Try.ntmps45
    go_wp2_with (go_at_call 44; refine hcon.mono ?_; rintro e w1 ⟨rfl, rfl⟩)
    go_ret2
    exact ⟨rfl, rfl⟩
  · have q3 : (((b.size : Int).tmod 256) != 0) = true := by rw [Int.tmod_eq_emod_of_nonneg (by omega)]; simp; omega
    have q4 : (((b.size : Int) % 256) != 0) = true := by simp; omega
    clear h h1
    go_enter Try.func45, Try.ntmps45
    go_wp2
    go_ret2
    exact ⟨rfl, rfl⟩

/-- Behind j rounds of Load. -/
def loadNow (b : ByteArray) (j : Nat) : Nat → ByteArray := fun t => if t < j then cut b t else zeros 256
theorem loadNow_succ (b : ByteArray) (j : Nat) : loadNow b (j + 1) = upd (loadNow b j) j (cut b j) := by
  funext t
  unfold loadNow upd
  by_cases e : t = j
  · subst e; simp
  · by_cases g : t < j
    · simp [e, g, show t < j + 1 by omega]
    · simp [e, g, show ¬ t < j + 1 by omega]

set_option maxRecDepth 100000 in
set_option maxHeartbeats 2000000 in
theorem pload_ok (w : World) (b : ByteArray) (n : Nat) (hn : b.size = n * 256) (h1 : 256 ≤ n) (h2 : n ≤ 4096) :
    Calls Try.prog 45 #[.string b] w fun e w' => ∃ q g m, e = .returned (.tuple #[.pointer (some ⟨q, 0, none⟩), .int .i64 0]) ∧ PI w' w.heap.size q g m (PS.fresh n (loadNow b n)) ∧ Below w.heap.size w w' := by
  have q1 : (((b.size : Nat) : Int).tdiv 256) = (n : Int) := by rw [hn]; simp
  have q2 : (((b.size : Nat) : Int) / 256) = (n : Int) := by rw [hn]; omega
  have q3 : ((b.size : Int).tmod 256) = 0 := by rw [Int.tmod_eq_emod_of_nonneg (by omega)]; omega
  have q4 : ((b.size : Int) % 256) = 0 := by omega
  have hcon := pnew_ok w n h1 h2
  have HN : Hid (b.size = n * 256) := hn
  clear hn
  go_enter Try.func45, Try.ntmps45
  go_wp2_with (go_at_call 44; refine hcon.mono ?_; rintro e w1 ⟨q, g, m, rfl, hP, hb1⟩; have c0 : w1.cell? ⟨q, 0, none⟩ = some (.slice (some ⟨g, 0, none⟩) n n) := hP.blkQ.cell 0)
  clear hcon q1 q2 q3 q4
  have hs0 : Sec w1 g n (loadNow b 0) := by
    have := hP.sec
    have e : loadNow b 0 = (fun _ => zeros 256) := by funext t; simp [loadNow]
    rw [e]; exact this
  obtain ⟨km, Dm, hm1, hm2, hm3⟩ := hP.map
  have hgq : g ≠ q := fun e => by
    obtain ⟨cur, h3, _⟩ := hP.sec.blk
    have hq : w1.heap[q]? = _ := hP.blkQ
    rw [e, hq] at h3; cases h3
  have hgm : g ≠ m := fun e => by
    obtain ⟨cur, h3, _⟩ := hP.sec.blk
    obtain ⟨es, c, h4, _⟩ := hm1
    rw [e, h4] at h3; cases h3
  obtain ⟨l1, l2, l3⟩ := hP.le
  go_loopw [26] (fun x wr => ∃ j : Nat, x = .int .i64 (j : Int) ∧ j ≤ n ∧ Sec wr g n (loadNow b j) ∧ Off (fun k => k = g) w1 wr) (fun x _ => n - (intOf x).toNat)
  case atStart => exact ⟨0, rfl, by omega, hs0, Off.refl _ _⟩
  case round =>
    obtain ⟨j, rfl, hj, hsec, ho⟩ := hrel
    clear hs0 c0
    have hbq := hP.blkQ.off ho (Ne.symm hgq)
    by_cases hlt : j < n
    · have hlt' : (j : Int) < (n : Int) := by omega
      have c0 : wr.cell? ⟨q, 0, none⟩ = some (.slice (some ⟨g, 0, none⟩) n n) := hbq.cell 0
      have hgl := hsec.lt
      have g1 : (j : Int) * 256 ≤ (b.size : Int) := by have := HN.out; have := Nat.mul_le_mul_right 256 hj; omega
      have hle : 256 ≤ (b.extract (j * 256) b.size).size := by
        have := HN.out; have := Nat.mul_le_mul_right 256 (show j + 1 ≤ n from hlt)
        rw [ByteArray.size_extract]; omega
      have HLE : Hid (256 ≤ (b.extract (j * 256) b.size).size) := hle
      have hth : wr.drew.there g (j * 256) 256 := (World.there_drew _ _ _ _).2 (hsec.there hlt)
      have HCUT : Hid ((b.extract (j * 256) b.size).extract 0 256 = cut b j) := cut_eq b n j HN.out hlt
      clear hle
      have hsec2 : Sec (wr.drew.setCells g (j * 256) (strCells (cut b j))) g n (loadNow b (j + 1)) := by
        rw [loadNow_succ]
        exact Sec.set (hsec.off (F := fun _ => False) ((Off.refl _ _).drew) (fun h => h)) hlt (size_cut HN.out hlt)
      have ho2 : Off (fun k => k = g) w1 (wr.drew.setCells g (j * 256) (strCells (cut b j))) := Off.setCells (F := fun k => k = g) (B := g) (.inl rfl) _ _ _ ho.drew
      clear hsec ho
      go_wp2
      have hwr : IntKind.i64.wrap ((j : Int) * 256) = ((j * 256 : Nat) : Int) := by rw [show (j : Int) * 256 = ((j * 256 : Nat) : Int) by omega]; exact wrap_i64_nat _ (by omega)
      have g2 : (0 : Int) ≤ (j : Int) * 256 := by omega
      have g3 : ((j : Int) * 256).toNat = j * 256 := by omega
      go_region_law (refine step_copy_long rfl (.tmp 35) (.tmp 39) 81 9 rfl 5 Try.underlying81 sizeOf5 g (j * 256) 256 256 (by simp [Act.eval, Act.put]) (b.extract (j * 256) b.size) (by simp [Act.eval, Act.put]) HLE.out hth ?_; rw [HCUT.out])
      all_goals
        go_wp2
        go_roundw
        case rel => exact ⟨j + 1, by go_num, by omega, hsec2, ho2⟩
        case measure => simp [intOf]; omega
    · have hlt' : decide ((j : Int) < (n : Int)) = false := by simp; omega
      have hlt2 : decide (j < n) = false := by simp; omega
      have hjn : j = n := by omega
      rw [hjn] at hsec
      clear hjn
      go_wp2
      go_ret2
      have hbel : Below w.heap.size w wr := hb1.trans (ho.below hb1.size (fun k hk => by omega))
      exact ⟨q, g, m, rfl, ⟨⟨l1, l2, l3⟩, hbq, hsec, ⟨km, Dm, map_off hm1 ho (Ne.symm hgm), hm2, hm3⟩, h1, h2⟩, hbel⟩
end Go.Proofs.Ytdgbgmffpcooeaa
