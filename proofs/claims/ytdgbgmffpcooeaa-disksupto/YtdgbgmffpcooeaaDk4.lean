/- What the document's disk does at Crash. -/
import Derived.Test.YtdgbgmffpcooeaaDk3
namespace Go.Proofs.Ytdgbgmffpcooeaa
open Go.RowKit

/-- A list of numbers that came in. -/
structure KAt (w : World) (ak : Option Addr) (lk : Nat) (K : Nat → Int) : Prop where
  at_ : ∀ i, i < lk → ∃ a, ak = some a ∧ a.block < w.heap.size ∧ w.cell? (a.add i) = some (.int .i64 (K i))
/-- Is this place among those that are kept? -/
def keptAt (K : Nat → Int) (k : Nat) (a : Nat) : Bool := (List.range k).any fun j => K j == (a : Int)
theorem keptAt_zero (K : Nat → Int) (a : Nat) : keptAt K 0 a = false := by simp [keptAt]
theorem keptAt_succ (K : Nat → Int) (k a : Nat) : keptAt K (k + 1) a = (keptAt K k a || (K k == (a : Int))) := by simp [keptAt, List.range_succ]
/-- How many were written below t. -/
def rank (d : Nat → Bool) (t : Nat) : Nat := (List.range t).countP d
theorem rank_zero (d : Nat → Bool) : rank d 0 = 0 := by simp [rank]
theorem rank_succ (d : Nat → Bool) (t : Nat) : rank d (t + 1) = rank d t + if d t then 1 else 0 := by simp [rank, List.range_succ, List.countP_append]
theorem rank_le (d : Nat → Bool) (t : Nat) : rank d t ≤ t := by
  have := List.countP_le_length (p := d) (l := List.range t)
  simpa [rank] using this
def RS.stays (s : RS) (lk : Nat) (K : Nat → Int) (t : Nat) : Bool := keptAt K lk (rank s.dirty t)
/-- Behind j rounds of Crash. -/
def RS.crashing (s : RS) (lk : Nat) (K : Nat → Int) (j : Nat) : RS :=
  { s with safe := fun t => if t < j ∧ s.dirty t = true ∧ s.stays lk K t = true then s.now t else s.safe t
           now := fun t => if t < j ∧ s.dirty t = true ∧ s.stays lk K t = false then s.safe t else s.now t
           dirty := fun t => if t < j then false else s.dirty t }
def RS.crash (s : RS) (lk : Nat) (K : Nat → Int) : RS := { s.crashing lk K s.n with broken := false, counts := false }
theorem RS.crashing_zero (s : RS) (lk : Nat) (K : Nat → Int) : s.crashing lk K 0 = s := by unfold RS.crashing; simp
theorem RS.crashing_clean (s : RS) (lk : Nat) (K : Nat → Int) (j : Nat) (h : s.dirty j = false) : s.crashing lk K (j + 1) = s.crashing lk K j := by
  unfold RS.crashing
  congr 1
  · funext t
    by_cases e : t = j
    · subst e; simp [h]
    · by_cases g : t < j
      · simp [g, show t < j + 1 by omega]
      · simp [g, show ¬ t < j + 1 by omega]
  · funext t
    by_cases e : t = j
    · subst e; simp [h]
    · by_cases g : t < j
      · simp [g, show t < j + 1 by omega]
      · simp [g, show ¬ t < j + 1 by omega]
  · funext t
    by_cases e : t = j
    · subst e; simp [h]
    · by_cases g : t < j
      · simp [g, show t < j + 1 by omega]
      · simp [g, show ¬ t < j + 1 by omega]
theorem RS.crashing_kept (s : RS) (lk : Nat) (K : Nat → Int) (j : Nat) (h : s.dirty j = true) (hs : s.stays lk K j = true) : s.crashing lk K (j + 1) = { s.crashing lk K j with safe := upd (s.crashing lk K j).safe j (s.now j), dirty := upd (s.crashing lk K j).dirty j false } := by
  unfold RS.crashing upd
  congr 1
  · funext t
    by_cases e : t = j
    · subst e; simp [h, hs]
    · by_cases g : t < j
      · simp [e, g, show t < j + 1 by omega]
      · simp [e, g, show ¬ t < j + 1 by omega]
  · funext t
    by_cases e : t = j
    · subst e; simp [hs]
    · by_cases g : t < j
      · simp [g, show t < j + 1 by omega]
      · simp [g, show ¬ t < j + 1 by omega]
  · funext t
    by_cases e : t = j
    · subst e; simp
    · by_cases g : t < j
      · simp [e, g, show t < j + 1 by omega]
      · simp [e, g, show ¬ t < j + 1 by omega]
theorem RS.crashing_lost (s : RS) (lk : Nat) (K : Nat → Int) (j : Nat) (h : s.dirty j = true) (hs : s.stays lk K j = false) : s.crashing lk K (j + 1) = { s.crashing lk K j with now := upd (s.crashing lk K j).now j (s.safe j), dirty := upd (s.crashing lk K j).dirty j false } := by
  unfold RS.crashing upd
  congr 1
  · funext t
    by_cases e : t = j
    · subst e; simp [hs]
    · by_cases g : t < j
      · simp [g, show t < j + 1 by omega]
      · simp [g, show ¬ t < j + 1 by omega]
  · funext t
    by_cases e : t = j
    · subst e; simp [h, hs]
    · by_cases g : t < j
      · simp [e, g, show t < j + 1 by omega]
      · simp [e, g, show ¬ t < j + 1 by omega]
  · funext t
    by_cases e : t = j
    · subst e; simp
    · by_cases g : t < j
      · simp [e, g, show t < j + 1 by omega]
      · simp [e, g, show ¬ t < j + 1 by omega]
theorem RS.crashing_at (s : RS) (lk : Nat) (K : Nat → Int) (j : Nat) : (s.crashing lk K j).dirty j = s.dirty j ∧ (s.crashing lk K j).now j = s.now j ∧ (s.crashing lk K j).safe j = s.safe j ∧ (s.crashing lk K j).n = s.n := by
  unfold RS.crashing; simp

set_option maxRecDepth 100000 in
set_option maxHeartbeats 4000000 in
theorem rcrash_any (w : World) (base : Nat) (A : RA) (s : RS) (h : RD w base A s) (ak : Option Addr) (lk ck : Nat) (K : Nat → Int) (hK : KAt w ak lk K) (hlk : lk ≤ 1073741824) (hout : ∀ a, ak = some a → 0 < lk → ¬ A.F a.block) :
    Calls Try.prog 69 #[.pointer (some ⟨A.r, 0, none⟩), .slice ak lk ck] w fun e w' => e = .returned (.int .i64 0) ∧ RD w' base A (s.crash lk K) ∧ Off A.F w w' := by
  have hn2 := h.n2
  have hKc : ∀ W', Off A.F w W' → ∀ i, i < lk → ∃ a, ak = some a ∧ W'.cell? (a.add i) = some (.int .i64 (K i)) := fun W' ho i hi => by
    obtain ⟨a, ha, hb, hc⟩ := hK.at_ i hi
    have hblk : (a.add i).block = a.block := by unfold Addr.add; split <;> rfl
    exact ⟨a, ha, (World.cell?_of_block (ho.block (a.add i).block (by rw [hblk]; exact hb) (by rw [hblk]; exact hout a ha (by omega)))).trans hc⟩
  go_enter Try.func69, Try.ntmps69
  go_wp2
  go_loopw [5, 6] (fun a x wr => ∃ j : Nat, x = .int .i64 (j : Int) ∧ a = .int .i64 (rank s.dirty j : Int) ∧ j ≤ s.n ∧ RD wr base A (s.crashing lk K j) ∧ Off A.F w wr) (fun _ x _ => s.n - (intOf x).toNat)
  case atStart => exact ⟨0, rfl, by rw [rank_zero]; rfl, by omega, by rw [RS.crashing_zero]; exact h, Off.refl _ _⟩
  case round =>
    obtain ⟨j, rfl, rfl, hj, hR, ho⟩ := hrel
    obtain ⟨z1, z2, z3, z4⟩ := RS.crashing_at s lk K j
    obtain ⟨c0, c1, c2, c3, c4, c5, c6⟩ := hR.cells
    rw [z4] at c0 c1 c2
    have hrl := rank_le s.dirty j
    obtain ⟨at_, hat⟩ : ∃ a, rank s.dirty j = a := ⟨_, rfl⟩
    rw [hat] at hrl ⊢
    by_cases hlt : j < s.n
    · have hlt' : (j : Int) < (s.n : Int) := by omega
      obtain ⟨d1, d2⟩ := hR.getDirty (i := j) (by rw [z4]; exact hlt)
      rw [z1] at d1
      cases hd : s.dirty j with
      | false =>
        rw [hd] at d1
        have HR : Hid (RD wr base A (s.crashing lk K (j + 1))) := by show RD _ _ _ _; rw [RS.crashing_clean s lk K j hd]; exact hR
        have HA : Hid (rank s.dirty (j + 1) = at_) := by show _ = _; rw [rank_succ, hd, hat]; rfl
        clear hd hat
        go_wp2
        go_roundw
        case rel => exact ⟨j + 1, by go_num, by rw [HA.out], by omega, HR.out, ho⟩
        case measure => simp [intOf]; omega
      | true =>
        rw [hd] at d1
        have HD : Hid (s.dirty j = true) := hd
        have HAT : Hid (rank s.dirty j = at_) := hat
        clear hd hat
        go_wp2
        go_loopw [7, 8] (fun b x ws => ∃ k : Nat, x = .int .i64 (k : Int) ∧ k ≤ lk ∧ b = .bool (keptAt K k at_) ∧ ws = wr) (fun _ x _ => lk - (intOf x).toNat)
        case atStart => exact ⟨0, rfl, by omega, by rw [keptAt_zero], rfl⟩
        case round =>
          obtain ⟨k, rfl, hk, rfl, rfl⟩ := hrel
          by_cases hlt2 : k < lk
          · have hlt2' : (k : Int) < (lk : Int) := by omega
            obtain ⟨a, ha, hca⟩ := hKc _ ho k hlt2
            subst ha
            have hsu := keptAt_succ K k at_
            cases hb : keptAt K k at_ with
            | true =>
              rw [hb] at hsu
              have HSU : Hid (keptAt K (k + 1) at_ = true) := by show _ = _; simpa using hsu
              clear hsu
              go_wp2
              go_roundw
              case rel => exact ⟨k + 1, by go_num, by omega, by rw [HSU.out], trivial⟩
              case measure => simp [intOf]; omega
            | false =>
              rw [hb] at hsu
              have HSU : Hid (keptAt K (k + 1) at_ = (K k == (at_ : Int))) := by show _ = _; simpa using hsu
              clear hsu
              go_wp2
              go_roundw
              case rel => exact ⟨k + 1, by go_num, by omega, by rw [HSU.out], trivial⟩
              case measure => simp [intOf]; omega
          · have hlt2' : decide ((k : Int) < (lk : Int)) = false := by simp; omega
            have hlt3' : decide (k < lk) = false := by simp; omega
            have hkl : k = lk := by omega
            have hst : s.stays lk K j = keptAt K k at_ := by unfold RS.stays; rw [HAT.out, hkl]
            obtain ⟨a1, a2, a3, a4, a5⟩ := hR.apart
            have hne := hR.ne
            obtain ⟨n1, n2⟩ := hR.getNow (i := j) (by rw [z4]; exact hlt)
            obtain ⟨q1, q2⟩ := hR.getSafe (i := j) (by rw [z4]; exact hlt)
            rw [z2] at n1
            rw [z3] at q1
            have HRK : Hid (rank s.dirty (j + 1) = at_ + 1) := by show _ = _; rw [rank_succ, HD.out, HAT.out]; rfl
            clear hkl
            cases hb : keptAt K k at_ with
            | true =>
              rw [hb] at hst
              have hR3 : RD (wr.setCell ⟨A.sa, j, none⟩ (.string (s.now j))).drew base A { s.crashing lk K j with safe := upd (s.crashing lk K j).safe j (s.now j) } := (hR.setSafe j (s.now j)).below ((Below.refl _ _).drew)
              have ho3 := (ho.setCell (B := A.sa) (i := j) (.string (s.now j)) (.inl (.inr (.inl rfl)))).drew
              have HST : Hid (s.stays lk K j = true) := hst
              clear hst
              go_wp2
              go_region
              obtain ⟨W2, hW2⟩ : ∃ W2, (wr.setCell ⟨A.sa, j, none⟩ (.string (s.now j))).drew = W2 := ⟨_, rfl⟩
              rw [hW2] at hR3 ho3 ⊢
              clear hW2 c0 c1 c2 c3 c4 c5 c6 n1 n2 q1 q2 d1 d2
              obtain ⟨c0, c1, c2, c3, c4, c5, c6⟩ := hR3.cells
              have e1 : ({ s.crashing lk K j with safe := upd (s.crashing lk K j).safe j (s.now j) } : RS).n = s.n := z4
              rw [e1] at c0 c1 c2
              obtain ⟨d1, d2⟩ := hR3.getDirty (i := j) (by rw [e1]; exact hlt)
              have hR4 := hR3.setDirty j false
              have ho4 := ho3.setCell (B := A.di) (i := j) (.bool false) (.inl (.inr (.inr (.inr rfl))))
              go_wp2
              refine ⟨⟨j + 1, by go_num, by rw [HRK.out]; go_num, by omega, by rw [RS.crashing_kept s lk K j HD.out HST.out]; exact hR4, ho4⟩, by simp [intOf]; omega⟩
            | false =>
              rw [hb] at hst
              have hR3 : RD (wr.setCell ⟨A.no, j, none⟩ (.string (s.safe j))).drew base A { s.crashing lk K j with now := upd (s.crashing lk K j).now j (s.safe j) } := (hR.setNow j (s.safe j)).below ((Below.refl _ _).drew)
              have ho3 := (ho.setCell (B := A.no) (i := j) (.string (s.safe j)) (.inl (.inr (.inr (.inl rfl))))).drew
              have HST : Hid (s.stays lk K j = false) := hst
              clear hst
              go_wp2
              go_region
              obtain ⟨W2, hW2⟩ : ∃ W2, (wr.setCell ⟨A.no, j, none⟩ (.string (s.safe j))).drew = W2 := ⟨_, rfl⟩
              rw [hW2] at hR3 ho3 ⊢
              clear hW2 c0 c1 c2 c3 c4 c5 c6 n1 n2 q1 q2 d1 d2
              obtain ⟨c0, c1, c2, c3, c4, c5, c6⟩ := hR3.cells
              have e1 : ({ s.crashing lk K j with now := upd (s.crashing lk K j).now j (s.safe j) } : RS).n = s.n := z4
              rw [e1] at c0 c1 c2
              obtain ⟨d1, d2⟩ := hR3.getDirty (i := j) (by rw [e1]; exact hlt)
              have hR4 := hR3.setDirty j false
              have ho4 := ho3.setCell (B := A.di) (i := j) (.bool false) (.inl (.inr (.inr (.inr rfl))))
              go_wp2
              refine ⟨⟨j + 1, by go_num, by rw [HRK.out]; go_num, by omega, by rw [RS.crashing_lost s lk K j HD.out HST.out]; exact hR4, ho4⟩, by simp [intOf]; omega⟩
    · have hlt' : decide ((j : Int) < (s.n : Int)) = false := by simp; omega
      have hlt2 : decide (j < s.n) = false := by simp; omega
      have hjn : j = s.n := by omega
      rw [hjn] at hR
      have f3 : wr.frozen? ⟨A.r, 3, none⟩ = false := hR.blk.frozen 3
      have f4 : wr.frozen? ⟨A.r, 4, none⟩ = false := hR.blk.frozen 4
      have hR2 := (hR.cell 3 (.bool false) (s' := { s.crashing lk K s.n with broken := false }) rfl rfl rfl rfl rfl).cell 4 (.bool false) (s' := s.crash lk K) rfl rfl rfl rfl rfl
      have ho2 := (ho.setCell (B := A.r) (i := 3) (.bool false) (.inl (.inl rfl))).setCell (B := A.r) (i := 4) (.bool false) (.inl (.inl rfl))
      clear hjn hat
      go_wp2
      go_ret
      exact ⟨rfl, hR2, ho2⟩
end Go.Proofs.Ytdgbgmffpcooeaa
