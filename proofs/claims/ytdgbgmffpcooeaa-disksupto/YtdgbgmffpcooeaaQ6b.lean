/- A step of one of the pairs of disks. -/
import Derived.Test.YtdgbgmffpcooeaaQ6
namespace Go.Proofs.Ytdgbgmffpcooeaa
open Go.RowKit Go.Lib Go.Maps

theorem Did.two {W w' : World} {base k : Nat} {A A' : PA} {B : RA} {r r' : RS} {s' : PS} {E : Duo} (h : Did W w' base k A B A' s' r') (hR : RD W base B r) (ex : E.x = .pointer (some ⟨A.p, 0, none⟩)) (ey : E.y = .pointer (some ⟨B.r, 0, none⟩)) (hd : ∀ j, A.F j → ¬ B.F j) (hF : ∀ j, E.F j ↔ A.F j ∨ B.F j) :
    ∃ E' : Duo, E'.x = E.x ∧ E'.y = E.y ∧ Two w' base (k + 2) E' ∧ Off E.F W w' ∧ ∀ j, E'.F j → E.F j ∨ W.heap.size ≤ j := by
  refine ⟨⟨E.x, E.y, fun j => A'.F j ∨ B.F j⟩, rfl, rfl, .inr ⟨A', s', B, r', by rw [h.p]; exact ex, ey, h.pd, h.rd, h.rel, fun j hj hj2 => ?_, fun _ => Iff.rfl⟩, h.off.mono (fun j _ hj => (hF j).2 hj), fun j hj => ?_⟩
  · rcases h.new j hj with hh | hh
    · exact hd j hh hj2
    · have := (hR.ge j hj2).2; omega
  · rcases hj with hj | hj
    · exact (h.new j hj).imp (fun hh => (hF j).2 (.inl hh)) id
    · exact .inl ((hF j).2 (.inr hj))
theorem does_any (W : World) (base k : Nat) (E : Duo) (hE : Two W base k E) (hk : k ≤ 1048576 * 8) (kd : Int) (h4 : 4 ≤ kd) (h10 : kd ≤ 10) (wd ad : Int) (had : ad ≤ 9223372036854775807) (sd : ByteArray) (ak : Option Addr) (lk ck : Nat) (K : Nat → Int) (hK : KAt W ak lk K) (hlk : lk ≤ 1048576) (hout : ∀ a, ak = some a → 0 < lk → a.block < base) (r1 r2 r3 r4 : Int) :
    Calls Try.prog 26 #[.agg #[E.x, E.y], .agg (opV kd wd ad sd ak lk ck r1 r2 r3 r4)] W fun e w' => ∃ E' : Duo, e = .returned (.bool true) ∧ E'.x = E.x ∧ E'.y = E.y ∧ Two w' base (k + 2) E' ∧ Off E.F W w' ∧ ∀ j, E'.F j → E.F j ∨ W.heap.size ≤ j := by
  have hc : kd = 4 ∨ kd = 5 ∨ kd = 6 ∨ kd = 7 ∨ kd = 8 ∨ kd = 9 ∨ kd = 10 := by omega
  rcases hE with ⟨ex, ey, hn⟩ | ⟨A, s, B, r, ex, ey, hP, hR, hrel, hd, hF⟩
  · have fin : ∀ (e : Ending) (w' : World), e = .returned (.bool true) ∧ Below W.heap.size W w' → ∃ E' : Duo, e = .returned (.bool true) ∧ E'.x = E.x ∧ E'.y = E.y ∧ Two w' base (k + 2) E' ∧ Off E.F W w' ∧ ∀ j, E'.F j → E.F j ∨ W.heap.size ≤ j := fun e w' ⟨h1, h2⟩ => ⟨E, h1, rfl, rfl, .inl ⟨ex, ey, hn⟩, Off.of_below h2, fun j hj => .inl hj⟩
    rw [show (Value.agg #[E.x, E.y]) = .agg #[.pointer none, .pointer none] by rw [ex, ey]]
    rcases hc with rfl | rfl | rfl | rfl | rfl | rfl | rfl
    · exact (does4_nil W wd ad sd ak lk ck r1 r2 r3 r4).mono fin
    · exact (does5_nil W wd ad sd ak lk ck r1 r2 r3 r4).mono fin
    · exact (does6_nil W wd ad sd ak lk ck r1 r2 r3 r4).mono fin
    · exact (does7_nil W wd ad sd ak lk ck r1 r2 r3 r4).mono fin
    · exact (does8_nil W wd ad sd ak lk ck K hK hlk r1 r2 r3 r4).mono fin
    · exact (does9_nil W wd ad sd ak lk ck r1 r2 r3 r4).mono fin
    · exact (does10_nil W wd ad sd ak lk ck r1 r2 r3 r4).mono fin
  · have fin : ∀ (e : Ending) (w' : World), (∃ A' s' r', e = .returned (.bool true) ∧ Did W w' base k A B A' s' r') → ∃ E' : Duo, e = .returned (.bool true) ∧ E'.x = E.x ∧ E'.y = E.y ∧ Two w' base (k + 2) E' ∧ Off E.F W w' ∧ ∀ j, E'.F j → E.F j ∨ W.heap.size ≤ j := fun e w' ⟨A', s', r', h1, h2⟩ => by
      obtain ⟨E', q1, q2, q3, q4, q5⟩ := h2.two hR ex ey hd hF
      exact ⟨E', h1, q1, q2, q3, q4, q5⟩
    have hout' : ∀ a, ak = some a → 0 < lk → ¬ (A.F a.block ∨ B.F a.block) := fun a ha h0 hh => by
      have := hout a ha h0
      rcases hh with hh | hh
      · have := (hP.lt _ hh).1; omega
      · have := (hR.ge _ hh).1; omega
    rw [show (Value.agg #[E.x, E.y]) = .agg #[.pointer (some ⟨A.p, 0, none⟩), .pointer (some ⟨B.r, 0, none⟩)] by rw [ex, ey]]
    rcases hc with rfl | rfl | rfl | rfl | rfl | rfl | rfl
    · exact (does4_real W base k A s B r hP hR hrel hd hk wd ad sd ak lk ck r1 r2 r3 r4).mono fin
    · exact (does5_real W base k A s B r hP hR hrel hd hk wd ad sd ak lk ck r1 r2 r3 r4).mono fin
    · exact (does6_real W base k A s B r hP hR hrel hd hk wd ad sd ak lk ck r1 r2 r3 r4).mono fin
    · exact (does7_real W base k A s B r hP hR hrel hd hk wd ad had sd ak lk ck r1 r2 r3 r4).mono fin
    · exact (does8_real W base k A s B r hP hR hrel hd hk wd ad sd ak lk ck K hK hlk hout' r1 r2 r3 r4).mono fin
    · exact (does9_real W base k A s B r hP hR hrel hd hk wd ad sd ak lk ck r1 r2 r3 r4).mono fin
    · exact (does10_real W base k A s B r hP hR hrel hd hk wd ad sd ak lk ck r1 r2 r3 r4).mono fin
theorem flat2_set (L : List Duo) (j : Nat) (E' : Duo) (h : j < L.length) (ex : E'.x = (L[j]).x) (ey : E'.y = (L[j]).y) : flat2 (L.set j E') = flat2 L := by
  induction L generalizing j with
  | nil => simp at h
  | cons e r ih =>
    cases j with
    | zero =>
      simp only [List.getElem_cons_zero] at ex ey
      simp [flat2, ex, ey]
    | succ j =>
      simp only [List.getElem_cons_succ] at ex ey
      have := ih j (by simpa using h) ex ey
      simp only [flat2, List.set_cons_succ, List.flatMap_cons] at this ⊢
      rw [this]
/-- One of the pairs has done a step. -/
theorem Dsk.done {w W1 W2 : World} {i b8 : Nat} {v : Value} {L : List Duo} (h : Dsk w i b8 v L W1) (j : Nat) (hj : j < L.length) (E' : Duo) (ex : E'.x = (L[j]).x) (ey : E'.y = (L[j]).y) (hE : Two W2 w.heap.size (2 * i + 2) E') (ho : Off (L[j]).F W1 W2) (hnew : ∀ t, E'.F t → (L[j]).F t ∨ W1.heap.size ≤ t) :
    Join w i b8 v W2 := by
  have hlt8 := h.hb8.lt
  have hmem : L[j] ∈ L := List.getElem_mem hj
  have hdisj : ∀ a (ha : a < L.length), a ≠ j → ∀ t, (L[a]).F t → ¬ (L[j]).F t := fun a ha hne t h1 h2 => by
    have hp := List.pairwise_iff_getElem.1 h.pw
    rcases Nat.lt_or_gt_of_ne hne with hh | hh
    · exact hp a j ha hj hh t h1 h2
    · exact hp j a hj ha hh t h2 h1
  have hE' : ∀ a (ha : a < L.length), a ≠ j → ∀ t, (L[a]).F t → ¬ E'.F t := fun a ha hne t h1 h2 => by
    rcases hnew t h2 with hh | hh
    · exact hdisj a ha hne t h1 hh
    · have := h.lt _ (List.getElem_mem ha) t h1; omega
  have hget : ∀ e ∈ L.set j E', e = E' ∨ ∃ a, ∃ ha : a < L.length, a ≠ j ∧ e = L[a] := fun e he => by
    obtain ⟨a, ha, rfl⟩ := List.getElem_of_mem he
    have ha' : a < L.length := by simpa using ha
    rw [List.getElem_set]
    by_cases hh : j = a
    · rw [if_pos hh]; exact .inl rfl
    · rw [if_neg hh]; exact .inr ⟨a, ha', fun e => hh e.symm, rfl⟩
  have hlen : (L.set j E').length = L.length := List.length_set
  refine ⟨L.set j E', noDuo, h.hb8.off ho (fun hh => ?_), two_no _ _ _, ?_, ?_, fun hh => absurd rfl hh, fun e he => ?_, ?_, fun _ _ _ _ hh => hh, fun t ht => ⟨fun e he hh => ?_, fun hh => hh, ?_⟩, h.bl.trans (ho.below h.bl.size (fun t ht => ((h.tw _ hmem).lt t ht).1))⟩
  · have := h.lt _ hmem _ hh; omega
  · rw [hlen, flat2_set L j E' hj ex ey]
    exact own_off' h.row ho (fun t ht => h.vF t ht _ hmem)
  · rw [hlen]; have := h.len; omega
  · rcases hget e he with rfl | ⟨a, ha, hne, rfl⟩
    · exact hE
    · exact (h.tw _ (List.getElem_mem ha)).off (by omega) ho (fun t ht hh => hdisj a ha hne t ht hh)
  · rw [List.pairwise_iff_getElem]
    intro a b ha hb hab t h1 h2
    have ha' : a < L.length := by simpa using ha
    have hb' : b < L.length := by simpa using hb
    rw [List.getElem_set] at h1 h2
    by_cases e1 : j = a
    · rw [if_pos e1] at h1
      rw [if_neg (by omega)] at h2
      exact hE' b hb' (by omega) t h2 h1
    · rw [if_neg e1] at h1
      by_cases e2 : j = b
      · rw [if_pos e2] at h2
        exact hE' a ha' (by omega) t h1 h2
      · rw [if_neg e2] at h2
        exact List.pairwise_iff_getElem.1 h.pw a b ha' hb' hab t h1 h2
  · have hv := h.vlt t ht
    rcases hget e he with rfl | ⟨a, ha, hne, rfl⟩
    · rcases hnew t hh with h1 | h1
      · exact h.vF t ht _ hmem h1
      · omega
    · exact h.vF t ht _ (List.getElem_mem ha) hh
  · have := h.vlt t ht; omega
/-- Which of n the number c speaks of. -/
def pickN (c : Int) (n : Nat) : Nat := ((if c < 0 then -(c + 1) else c).tmod (n : Int)).toNat
theorem pickN_lt (c : Int) (n : Nat) (hn : 0 < n) : pickN c n < n := by
  have h2 := Int.tmod_lt_of_pos (if c < 0 then -(c + 1) else c) (show (0 : Int) < (n : Int) by omega)
  unfold pickN; omega
theorem pick_eq2 (w : World) (c : Int) (n : Nat) (hn : 0 < n) (_hn2 : n ≤ 1073741824) (hc : -9223372036854775808 ≤ c ∧ c ≤ 9223372036854775807) :
    Calls Try.prog 24 #[.int .i64 c, .int .i64 (n : Int)] w fun e w' => e = .returned (.int .i64 (pickN c n : Int)) ∧ w' = w := by
  have key : ∀ d : Int, 0 ≤ d → d.tmod (n : Int) = ((d.tmod (n : Int)).toNat : Int) := fun d hd => by
    have h1 := Int.tmod_nonneg (n : Int) hd
    omega
  have hn0 : (n : Int) ≠ 0 := by omega
  by_cases h : c < 0
  · have hp : pickN c n = ((-(c + 1)).tmod (n : Int)).toNat := by unfold pickN; rw [if_pos h]
    have hj := key (-(c + 1)) (by omega)
    rw [← hp] at hj
    generalize pickN c n = j at hj ⊢
    clear hp key
    go_enter Try.func24, Try.ntmps24
    go_wp2
    go_ret
    exact ⟨rfl, rfl⟩
  · have h0 : decide (c < 0) = false := by simp; omega
    have hp : pickN c n = (c.tmod (n : Int)).toNat := by unfold pickN; rw [if_neg h]
    have hj := key c (by omega)
    rw [← hp] at hj
    generalize pickN c n = j at hj ⊢
    clear hp key
    go_enter Try.func24, Try.ntmps24
    go_wp2
    go_ret
    exact ⟨rfl, rfl⟩
end Go.Proofs.Ytdgbgmffpcooeaa
