/- A step of a disk, as the law does it: the program's disk and the document's answer alike. -/
import Derived.Test.YtdgbgmffpcooeaaQ4
namespace Go.Proofs.Ytdgbgmffpcooeaa
open Go.RowKit Go.Lib Go.Maps

def opV (kd wd ad : Int) (sd : ByteArray) (ak : Option Addr) (lk ck : Nat) (r1 r2 r3 r4 : Int) : Array Value := #[.int .i64 kd, .int .i64 wd, .int .i64 ad, .string sd, .slice ak lk ck, .int .i64 r1, .int .i64 r2, .int .i64 r3, .int .i64 r4]

theorem qimage_ok' (w : World) (base : Nat) (A : PA) (s : PS) (h : PD w base A s) : Calls Try.prog 47 #[.pointer (some ⟨A.p, 0, none⟩)] w fun e w' => e = .returned (.tuple #[.string ⟨(joined s.safe s.n).toArray⟩, .int .i64 0]) ∧ PD w' base A s ∧ Off A.F w w' :=
  (qimage_ok w base A s h).mono fun _ _ ⟨h1, h2⟩ => ⟨h1, h.below h2, Off.of_below h2⟩
theorem rimage_any' (w : World) (base : Nat) (A : RA) (s : RS) (h : RD w base A s) (hok : ∀ t, t < s.n → (s.safe t).size = 256) : Calls Try.prog 25 #[.pointer (some ⟨A.r, 0, none⟩)] w fun e w' => e = .returned (.tuple #[.string ⟨(joined s.safe s.n).toArray⟩, .int .i64 0]) ∧ RD w' base A s ∧ Off A.F w w' :=
  (rimage_any w base A s h hok).mono fun _ _ ⟨h1, h2⟩ => ⟨h1, h.below h2, Off.of_below h2⟩
theorem qsteps_ok' (w : World) (base : Nat) (A : PA) (s : PS) (h : PD w base A s) : Calls Try.prog 48 #[.pointer (some ⟨A.p, 0, none⟩)] w fun e w' => e = .returned (.tuple #[.int .i64 s.steps, .int .i64 0]) ∧ PD w' base A s ∧ Off A.F w w' :=
  (qsteps_ok w base A s h).mono fun _ _ ⟨h1, h2⟩ => by subst h2; exact ⟨h1, h, Off.refl _ _⟩
theorem rsteps_any' (w : World) (base : Nat) (A : RA) (s : RS) (h : RD w base A s) : Calls Try.prog 49 #[.pointer (some ⟨A.r, 0, none⟩)] w fun e w' => e = .returned (.tuple #[.int .i64 s.steps, .int .i64 0]) ∧ RD w' base A s ∧ Off A.F w w' :=
  (rsteps_any w base A s h).mono fun _ _ ⟨h1, h2⟩ => by subst h2; exact ⟨h1, h, Off.refl _ _⟩
theorem KAt.off {F : Nat → Prop} {w W : World} {ak : Option Addr} {lk : Nat} {K : Nat → Int} (h : KAt w ak lk K) (ho : Off F w W) (hout : ∀ a, ak = some a → 0 < lk → ¬ F a.block) : KAt W ak lk K := ⟨fun i hi => by
  obtain ⟨a, ha, hb, hc⟩ := h.at_ i hi
  have hblk : (a.add i).block = a.block := by unfold Addr.add; split <;> rfl
  exact ⟨a, ha, Nat.lt_of_lt_of_le hb ho.size, (World.cell?_of_block (ho.block (a.add i).block (by rw [hblk]; exact hb) (by rw [hblk]; exact hout a ha (by omega)))).trans hc⟩⟩

structure Did (w w' : World) (base k : Nat) (A : PA) (B : RA) (A' : PA) (s' : PS) (r' : RS) : Prop where
  pd : PD w' base A' s'
  rd : RD w' base B r'
  rel : Rel (k + 2) s' r'
  p : A'.p = A.p
  new : ∀ j, A'.F j → A.F j ∨ w.heap.size ≤ j
  off : Off (fun j => A.F j ∨ B.F j) w w'

set_option maxRecDepth 100000 in
set_option maxHeartbeats 2000000 in
theorem does4_real (w : World) (base k : Nat) (A : PA) (s : PS) (B : RA) (r : RS) (hP : PD w base A s) (hR : RD w base B r) (hrel : Rel k s r) (hd : ∀ j, A.F j → ¬ B.F j) (_hk : k ≤ 1048576 * 8) (wd ad : Int) (sd : ByteArray) (ak : Option Addr) (lk ck : Nat) (r1 r2 r3 r4 : Int) :
    Calls Try.prog 26 #[.agg #[.pointer (some ⟨A.p, 0, none⟩), .pointer (some ⟨B.r, 0, none⟩)], .agg (opV 4 wd ad sd ak lk ck r1 r2 r3 r4)] w fun e w' => ∃ A' s' r', e = .returned (.bool true) ∧ Did w w' base k A B A' s' r' := by
  have hs1 := hrel.steps
  have hs2 := hrel.steps1
  have hs3 := hrel.steps2
  have hl1 := hrel.left1
  have hl2 := hrel.left2
  have hlp := hrel.leftP
  have hlA := hP.lt
  have hlB := hR.ge
  unfold opV
  go_enter Try.func26, Try.ntmps26
  go_upto_region 1 with (fail)
  have hbe : Below w.heap.size w ((w.alloc (.cells #[.pointer (some ⟨A.p, 0, none⟩), .pointer (some ⟨B.r, 0, none⟩)] 55)).alloc (.cells (opV 4 wd ad sd ak lk ck r1 r2 r3 r4) 51)) := ((Below.refl _ _).alloc (Nat.le_refl _) _).alloc (by simp) _
  have hb0 := (Blk.new w 55 #[.pointer (some ⟨A.p, 0, none⟩), .pointer (some ⟨B.r, 0, none⟩)]).alloc (.cells (opV 4 wd ad sd ak lk ck r1 r2 r3 r4) 51)
  have hb1 := Blk.new (w.alloc (.cells #[.pointer (some ⟨A.p, 0, none⟩), .pointer (some ⟨B.r, 0, none⟩)] 55)) 51 (opV 4 wd ad sd ak lk ck r1 r2 r3 r4)
  simp only [World.size_alloc] at hb1
  obtain ⟨b0, hbb0⟩ : ∃ b0, w.heap.size = b0 := ⟨_, rfl⟩
  obtain ⟨b1, hbb1⟩ : ∃ b1, b0 + 1 = b1 := ⟨_, rfl⟩
  have f0 : ¬ A.F b0 := fun h => by have := (hlA _ h).2; omega
  have f1 : ¬ A.F b1 := fun h => by have := (hlA _ h).2; omega
  have g0 : ¬ B.F b0 := fun h => by have := (hlB _ h).2; omega
  unfold opV at hbe hb0 hb1
  obtain ⟨w1, hw1⟩ : ∃ w1, (w.alloc (.cells #[.pointer (some ⟨A.p, 0, none⟩), .pointer (some ⟨B.r, 0, none⟩)] 55)).alloc (.cells #[.int .i64 4, .int .i64 wd, .int .i64 ad, .string sd, .slice ak lk ck, .int .i64 r1, .int .i64 r2, .int .i64 r3, .int .i64 r4] 51) = w1 := ⟨_, rfl⟩
  rw [hw1] at hbe hb0 hb1 ⊢
  rw [hbb0] at hb0 hb1 ⊢
  rw [hbb1] at hb1 ⊢
  have HB0 : Hid (w.heap.size = b0) := hbb0
  clear hw1 hbb0 hbb1
  have hP1 := hP.below hbe
  have hR1 := hR.below hbe
  have HD : Hid _ := hd
  clear hd
  obtain ⟨e1, e2, e3⟩ := hrel.read ad
  have hq := qread_ok w1 base A s hP1 ad ⟨(by omega), (by omega)⟩
  rw [e1, e2] at hq
  obtain ⟨sv, hsv⟩ : ∃ v, (r.read ad).1 = v := ⟨_, rfl⟩
  obtain ⟨ev, hev⟩ : ∃ v, (r.read ad).2.1 = v := ⟨_, rfl⟩
  rw [hsv, hev] at hq
  have HREL : Hid _ := e3.mono (show k + 1 ≤ k + 2 by omega)
  clear e1 e2 e3
  have c0 : w1.cell? ⟨b0, 0, none⟩ = some (.pointer (some ⟨A.p, 0, none⟩)) := hb0.cell 0
  have c1 : w1.cell? ⟨b1, 0, none⟩ = some (.int .i64 4) := hb1.cell 0
  have c2 : w1.cell? ⟨b1, 2, none⟩ = some (.int .i64 ad) := hb1.cell 2
  have c3 : w1.cell? ⟨b1, 3, none⟩ = some (.string sd) := hb1.cell 3
  go_wp2_with (first
    | (go_at_call 41; refine hq.mono ?_; rintro e w2 ⟨rfl, hP2, ho2⟩; have hR2 := hR1.off ho2 (fun j hj hj2 => HD.out j hj2 hj); have hb02 := hb0.off ho2 f0; have hb12 := hb1.off ho2 f1; have d0 : w2.cell? ⟨b0, 1, none⟩ = some (.pointer (some ⟨B.r, 0, none⟩)) := hb02.cell 1; have d2 : w2.cell? ⟨b1, 2, none⟩ = some (.int .i64 ad) := hb12.cell 2; have d3 : w2.cell? ⟨b1, 3, none⟩ = some (.string sd) := hb12.cell 3; clear c0 c1 c2 c3; have hr := rread_any w2 base B r hR2 ad ⟨(by omega), (by omega)⟩; rw [hsv, hev] at hr)
    | (go_at_call 46; refine hr.mono ?_; rintro e w3 ⟨rfl, hR3, ho3⟩; clear d0 d2 d3))
  go_ret
  refine ⟨A, _, _, by simp, ⟨hP2.off ho3 ?_, hR3, HREL.out, rfl, fun j hj => .inl hj, ?_⟩⟩
  · exact fun j hj hj2 => HD.out j hj hj2
  · exact ((Off.of_below hbe).trans (ho2.mono (fun _ _ h => .inl h))).trans (ho3.mono (fun _ _ h => .inr h))

set_option maxRecDepth 100000 in
set_option maxHeartbeats 2000000 in
theorem does5_real (w : World) (base k : Nat) (A : PA) (s : PS) (B : RA) (r : RS) (hP : PD w base A s) (hR : RD w base B r) (hrel : Rel k s r) (hd : ∀ j, A.F j → ¬ B.F j) (_hk : k ≤ 1048576 * 8) (wd ad : Int) (sd : ByteArray) (ak : Option Addr) (lk ck : Nat) (r1 r2 r3 r4 : Int) :
    Calls Try.prog 26 #[.agg #[.pointer (some ⟨A.p, 0, none⟩), .pointer (some ⟨B.r, 0, none⟩)], .agg (opV 5 wd ad sd ak lk ck r1 r2 r3 r4)] w fun e w' => ∃ A' s' r', e = .returned (.bool true) ∧ Did w w' base k A B A' s' r' := by
  have hs1 := hrel.steps
  have hs2 := hrel.steps1
  have hs3 := hrel.steps2
  have hl1 := hrel.left1
  have hl2 := hrel.left2
  have hlp := hrel.leftP
  have hlA := hP.lt
  have hlB := hR.ge
  unfold opV
  go_enter Try.func26, Try.ntmps26
  go_upto_region 1 with (fail)
  have hbe : Below w.heap.size w ((w.alloc (.cells #[.pointer (some ⟨A.p, 0, none⟩), .pointer (some ⟨B.r, 0, none⟩)] 55)).alloc (.cells (opV 5 wd ad sd ak lk ck r1 r2 r3 r4) 51)) := ((Below.refl _ _).alloc (Nat.le_refl _) _).alloc (by simp) _
  have hb0 := (Blk.new w 55 #[.pointer (some ⟨A.p, 0, none⟩), .pointer (some ⟨B.r, 0, none⟩)]).alloc (.cells (opV 5 wd ad sd ak lk ck r1 r2 r3 r4) 51)
  have hb1 := Blk.new (w.alloc (.cells #[.pointer (some ⟨A.p, 0, none⟩), .pointer (some ⟨B.r, 0, none⟩)] 55)) 51 (opV 5 wd ad sd ak lk ck r1 r2 r3 r4)
  simp only [World.size_alloc] at hb1
  obtain ⟨b0, hbb0⟩ : ∃ b0, w.heap.size = b0 := ⟨_, rfl⟩
  obtain ⟨b1, hbb1⟩ : ∃ b1, b0 + 1 = b1 := ⟨_, rfl⟩
  have f0 : ¬ A.F b0 := fun h => by have := (hlA _ h).2; omega
  have f1 : ¬ A.F b1 := fun h => by have := (hlA _ h).2; omega
  have g0 : ¬ B.F b0 := fun h => by have := (hlB _ h).2; omega
  unfold opV at hbe hb0 hb1
  obtain ⟨w1, hw1⟩ : ∃ w1, (w.alloc (.cells #[.pointer (some ⟨A.p, 0, none⟩), .pointer (some ⟨B.r, 0, none⟩)] 55)).alloc (.cells #[.int .i64 5, .int .i64 wd, .int .i64 ad, .string sd, .slice ak lk ck, .int .i64 r1, .int .i64 r2, .int .i64 r3, .int .i64 r4] 51) = w1 := ⟨_, rfl⟩
  rw [hw1] at hbe hb0 hb1 ⊢
  rw [hbb0] at hb0 hb1 ⊢
  rw [hbb1] at hb1 ⊢
  have HB0 : Hid (w.heap.size = b0) := hbb0
  clear hw1 hbb0 hbb1
  have hP1 := hP.below hbe
  have hR1 := hR.below hbe
  have HD : Hid _ := hd
  clear hd
  obtain ⟨e1, e3⟩ := hrel.write ad sd
  have hq := qwrite_ok w1 base A s hP1 ad sd ⟨(by omega), (by omega)⟩ hlp
  rw [e1] at hq
  obtain ⟨ev, hev⟩ : ∃ v, (r.write ad sd).1 = v := ⟨_, rfl⟩
  rw [hev] at hq
  have HREL : Hid _ := e3
  clear e1 e3
  have c0 : w1.cell? ⟨b0, 0, none⟩ = some (.pointer (some ⟨A.p, 0, none⟩)) := hb0.cell 0
  have c1 : w1.cell? ⟨b1, 0, none⟩ = some (.int .i64 5) := hb1.cell 0
  have c2 : w1.cell? ⟨b1, 2, none⟩ = some (.int .i64 ad) := hb1.cell 2
  have c3 : w1.cell? ⟨b1, 3, none⟩ = some (.string sd) := hb1.cell 3
  go_wp2_with (first
    | (go_at_call 40; refine hq.mono ?_; rintro e w2 ⟨rfl, hP2, ho2⟩; have hR2 := hR1.off ho2 (fun j hj hj2 => HD.out j hj2 hj); have hb02 := hb0.off ho2 f0; have hb12 := hb1.off ho2 f1; have d0 : w2.cell? ⟨b0, 1, none⟩ = some (.pointer (some ⟨B.r, 0, none⟩)) := hb02.cell 1; have d2 : w2.cell? ⟨b1, 2, none⟩ = some (.int .i64 ad) := hb12.cell 2; have d3 : w2.cell? ⟨b1, 3, none⟩ = some (.string sd) := hb12.cell 3; clear c0 c1 c2 c3; have hr := rwrite_any w2 base B r hR2 ad sd ⟨(by omega), (by omega)⟩ ⟨(by omega), hl2⟩; rw [hev] at hr)
    | (go_at_call 51; refine hr.mono ?_; rintro e w3 ⟨rfl, hR3, ho3⟩; clear d0 d2 d3))
  go_ret
  refine ⟨A, _, _, by simp, ⟨hP2.off ho3 ?_, hR3, HREL.out, rfl, fun j hj => .inl hj, ?_⟩⟩
  · exact fun j hj hj2 => HD.out j hj hj2
  · exact ((Off.of_below hbe).trans (ho2.mono (fun _ _ h => .inl h))).trans (ho3.mono (fun _ _ h => .inr h))

set_option maxRecDepth 100000 in
set_option maxHeartbeats 2000000 in
theorem does7_real (w : World) (base k : Nat) (A : PA) (s : PS) (B : RA) (r : RS) (hP : PD w base A s) (hR : RD w base B r) (hrel : Rel k s r) (hd : ∀ j, A.F j → ¬ B.F j) (_hk : k ≤ 1048576 * 8) (wd ad : Int) (hwa : ad ≤ 9223372036854775807) (sd : ByteArray) (ak : Option Addr) (lk ck : Nat) (r1 r2 r3 r4 : Int) :
    Calls Try.prog 26 #[.agg #[.pointer (some ⟨A.p, 0, none⟩), .pointer (some ⟨B.r, 0, none⟩)], .agg (opV 7 wd ad sd ak lk ck r1 r2 r3 r4)] w fun e w' => ∃ A' s' r', e = .returned (.bool true) ∧ Did w w' base k A B A' s' r' := by
  have hs1 := hrel.steps
  have hs2 := hrel.steps1
  have hs3 := hrel.steps2
  have hl1 := hrel.left1
  have hl2 := hrel.left2
  have hlp := hrel.leftP
  have hlA := hP.lt
  have hlB := hR.ge
  unfold opV
  go_enter Try.func26, Try.ntmps26
  go_upto_region 1 with (fail)
  have hbe : Below w.heap.size w ((w.alloc (.cells #[.pointer (some ⟨A.p, 0, none⟩), .pointer (some ⟨B.r, 0, none⟩)] 55)).alloc (.cells (opV 7 wd ad sd ak lk ck r1 r2 r3 r4) 51)) := ((Below.refl _ _).alloc (Nat.le_refl _) _).alloc (by simp) _
  have hb0 := (Blk.new w 55 #[.pointer (some ⟨A.p, 0, none⟩), .pointer (some ⟨B.r, 0, none⟩)]).alloc (.cells (opV 7 wd ad sd ak lk ck r1 r2 r3 r4) 51)
  have hb1 := Blk.new (w.alloc (.cells #[.pointer (some ⟨A.p, 0, none⟩), .pointer (some ⟨B.r, 0, none⟩)] 55)) 51 (opV 7 wd ad sd ak lk ck r1 r2 r3 r4)
  simp only [World.size_alloc] at hb1
  obtain ⟨b0, hbb0⟩ : ∃ b0, w.heap.size = b0 := ⟨_, rfl⟩
  obtain ⟨b1, hbb1⟩ : ∃ b1, b0 + 1 = b1 := ⟨_, rfl⟩
  have f0 : ¬ A.F b0 := fun h => by have := (hlA _ h).2; omega
  have f1 : ¬ A.F b1 := fun h => by have := (hlA _ h).2; omega
  have g0 : ¬ B.F b0 := fun h => by have := (hlB _ h).2; omega
  unfold opV at hbe hb0 hb1
  obtain ⟨w1, hw1⟩ : ∃ w1, (w.alloc (.cells #[.pointer (some ⟨A.p, 0, none⟩), .pointer (some ⟨B.r, 0, none⟩)] 55)).alloc (.cells #[.int .i64 7, .int .i64 wd, .int .i64 ad, .string sd, .slice ak lk ck, .int .i64 r1, .int .i64 r2, .int .i64 r3, .int .i64 r4] 51) = w1 := ⟨_, rfl⟩
  rw [hw1] at hbe hb0 hb1 ⊢
  rw [hbb0] at hb0 hb1 ⊢
  rw [hbb1] at hb1 ⊢
  have HB0 : Hid (w.heap.size = b0) := hbb0
  clear hw1 hbb0 hbb1
  have hP1 := hP.below hbe
  have hR1 := hR.below hbe
  have HD : Hid _ := hd
  clear hd
  obtain ⟨e1, e3⟩ := hrel.break_ ad hwa
  have hq := qbreak_ok w1 base A s hP1 ad
  rw [e1] at hq
  obtain ⟨ev, hev⟩ : ∃ v, (r.break_ ad).1 = v := ⟨_, rfl⟩
  rw [hev] at hq
  have HREL : Hid _ := e3.mono (show k ≤ k + 2 by omega)
  clear e1 e3
  have c0 : w1.cell? ⟨b0, 0, none⟩ = some (.pointer (some ⟨A.p, 0, none⟩)) := hb0.cell 0
  have c1 : w1.cell? ⟨b1, 0, none⟩ = some (.int .i64 7) := hb1.cell 0
  have c2 : w1.cell? ⟨b1, 2, none⟩ = some (.int .i64 ad) := hb1.cell 2
  have c3 : w1.cell? ⟨b1, 3, none⟩ = some (.string sd) := hb1.cell 3
  go_wp2_with (first
    | (go_at_call 54; refine hq.mono ?_; rintro e w2 ⟨rfl, hP2, ho2⟩; have hR2 := hR1.off ho2 (fun j hj hj2 => HD.out j hj2 hj); have hb02 := hb0.off ho2 f0; have hb12 := hb1.off ho2 f1; have d0 : w2.cell? ⟨b0, 1, none⟩ = some (.pointer (some ⟨B.r, 0, none⟩)) := hb02.cell 1; have d2 : w2.cell? ⟨b1, 2, none⟩ = some (.int .i64 ad) := hb12.cell 2; have d3 : w2.cell? ⟨b1, 3, none⟩ = some (.string sd) := hb12.cell 3; clear c0 c1 c2 c3; have hr := rbreak_any w2 base B r hR2 ad; rw [hev] at hr)
    | (go_at_call 55; refine hr.mono ?_; rintro e w3 ⟨rfl, hR3, ho3⟩; clear d0 d2 d3))
  go_ret
  refine ⟨A, _, _, by simp, ⟨hP2.off ho3 ?_, hR3, HREL.out, rfl, fun j hj => .inl hj, ?_⟩⟩
  · exact fun j hj hj2 => HD.out j hj hj2
  · exact ((Off.of_below hbe).trans (ho2.mono (fun _ _ h => .inl h))).trans (ho3.mono (fun _ _ h => .inr h))

set_option maxRecDepth 100000 in
set_option maxHeartbeats 2000000 in
theorem does9_real (w : World) (base k : Nat) (A : PA) (s : PS) (B : RA) (r : RS) (hP : PD w base A s) (hR : RD w base B r) (hrel : Rel k s r) (hd : ∀ j, A.F j → ¬ B.F j) (_hk : k ≤ 1048576 * 8) (wd ad : Int) (sd : ByteArray) (ak : Option Addr) (lk ck : Nat) (r1 r2 r3 r4 : Int) :
    Calls Try.prog 26 #[.agg #[.pointer (some ⟨A.p, 0, none⟩), .pointer (some ⟨B.r, 0, none⟩)], .agg (opV 9 wd ad sd ak lk ck r1 r2 r3 r4)] w fun e w' => ∃ A' s' r', e = .returned (.bool true) ∧ Did w w' base k A B A' s' r' := by
  have hs1 := hrel.steps
  have hs2 := hrel.steps1
  have hs3 := hrel.steps2
  have hl1 := hrel.left1
  have hl2 := hrel.left2
  have hlp := hrel.leftP
  have hlA := hP.lt
  have hlB := hR.ge
  unfold opV
  go_enter Try.func26, Try.ntmps26
  go_upto_region 1 with (fail)
  have hbe : Below w.heap.size w ((w.alloc (.cells #[.pointer (some ⟨A.p, 0, none⟩), .pointer (some ⟨B.r, 0, none⟩)] 55)).alloc (.cells (opV 9 wd ad sd ak lk ck r1 r2 r3 r4) 51)) := ((Below.refl _ _).alloc (Nat.le_refl _) _).alloc (by simp) _
  have hb0 := (Blk.new w 55 #[.pointer (some ⟨A.p, 0, none⟩), .pointer (some ⟨B.r, 0, none⟩)]).alloc (.cells (opV 9 wd ad sd ak lk ck r1 r2 r3 r4) 51)
  have hb1 := Blk.new (w.alloc (.cells #[.pointer (some ⟨A.p, 0, none⟩), .pointer (some ⟨B.r, 0, none⟩)] 55)) 51 (opV 9 wd ad sd ak lk ck r1 r2 r3 r4)
  simp only [World.size_alloc] at hb1
  obtain ⟨b0, hbb0⟩ : ∃ b0, w.heap.size = b0 := ⟨_, rfl⟩
  obtain ⟨b1, hbb1⟩ : ∃ b1, b0 + 1 = b1 := ⟨_, rfl⟩
  have f0 : ¬ A.F b0 := fun h => by have := (hlA _ h).2; omega
  have f1 : ¬ A.F b1 := fun h => by have := (hlA _ h).2; omega
  have g0 : ¬ B.F b0 := fun h => by have := (hlB _ h).2; omega
  unfold opV at hbe hb0 hb1
  obtain ⟨w1, hw1⟩ : ∃ w1, (w.alloc (.cells #[.pointer (some ⟨A.p, 0, none⟩), .pointer (some ⟨B.r, 0, none⟩)] 55)).alloc (.cells #[.int .i64 9, .int .i64 wd, .int .i64 ad, .string sd, .slice ak lk ck, .int .i64 r1, .int .i64 r2, .int .i64 r3, .int .i64 r4] 51) = w1 := ⟨_, rfl⟩
  rw [hw1] at hbe hb0 hb1 ⊢
  rw [hbb0] at hb0 hb1 ⊢
  rw [hbb1] at hb1 ⊢
  have HB0 : Hid (w.heap.size = b0) := hbb0
  clear hw1 hbb0 hbb1
  have hP1 := hP.below hbe
  have hR1 := hR.below hbe
  have HD : Hid _ := hd
  clear hd
  have hq := qimage_ok' w1 base A s hP1
  rw [hrel.image] at hq
  obtain ⟨sv, hsv⟩ : ∃ v, (⟨(joined r.safe r.n).toArray⟩ : ByteArray) = v := ⟨_, rfl⟩
  rw [hsv] at hq
  have HREL : Hid _ := hrel.mono (show k ≤ k + 2 by omega)
  have c0 : w1.cell? ⟨b0, 0, none⟩ = some (.pointer (some ⟨A.p, 0, none⟩)) := hb0.cell 0
  have c1 : w1.cell? ⟨b1, 0, none⟩ = some (.int .i64 9) := hb1.cell 0
  have c2 : w1.cell? ⟨b1, 2, none⟩ = some (.int .i64 ad) := hb1.cell 2
  have c3 : w1.cell? ⟨b1, 3, none⟩ = some (.string sd) := hb1.cell 3
  go_wp2_with (first
    | (go_at_call 47; refine hq.mono ?_; rintro e w2 ⟨rfl, hP2, ho2⟩; have hR2 := hR1.off ho2 (fun j hj hj2 => HD.out j hj2 hj); have hb02 := hb0.off ho2 f0; have hb12 := hb1.off ho2 f1; have d0 : w2.cell? ⟨b0, 1, none⟩ = some (.pointer (some ⟨B.r, 0, none⟩)) := hb02.cell 1; have d2 : w2.cell? ⟨b1, 2, none⟩ = some (.int .i64 ad) := hb12.cell 2; have d3 : w2.cell? ⟨b1, 3, none⟩ = some (.string sd) := hb12.cell 3; clear c0 c1 c2 c3; have hr := rimage_any' w2 base B r hR2 hrel.sizeS; rw [hsv] at hr)
    | (go_at_call 25; refine hr.mono ?_; rintro e w3 ⟨rfl, hR3, ho3⟩; clear d0 d2 d3))
  go_ret
  refine ⟨A, _, _, by simp, ⟨hP2.off ho3 ?_, hR3, HREL.out, rfl, fun j hj => .inl hj, ?_⟩⟩
  · exact fun j hj hj2 => HD.out j hj hj2
  · exact ((Off.of_below hbe).trans (ho2.mono (fun _ _ h => .inl h))).trans (ho3.mono (fun _ _ h => .inr h))

set_option maxRecDepth 100000 in
set_option maxHeartbeats 2000000 in
theorem does10_real (w : World) (base k : Nat) (A : PA) (s : PS) (B : RA) (r : RS) (hP : PD w base A s) (hR : RD w base B r) (hrel : Rel k s r) (hd : ∀ j, A.F j → ¬ B.F j) (_hk : k ≤ 1048576 * 8) (wd ad : Int) (sd : ByteArray) (ak : Option Addr) (lk ck : Nat) (r1 r2 r3 r4 : Int) :
    Calls Try.prog 26 #[.agg #[.pointer (some ⟨A.p, 0, none⟩), .pointer (some ⟨B.r, 0, none⟩)], .agg (opV 10 wd ad sd ak lk ck r1 r2 r3 r4)] w fun e w' => ∃ A' s' r', e = .returned (.bool true) ∧ Did w w' base k A B A' s' r' := by
  have hs1 := hrel.steps
  have hs2 := hrel.steps1
  have hs3 := hrel.steps2
  have hl1 := hrel.left1
  have hl2 := hrel.left2
  have hlp := hrel.leftP
  have hlA := hP.lt
  have hlB := hR.ge
  unfold opV
  go_enter Try.func26, Try.ntmps26
  go_upto_region 1 with (fail)
  have hbe : Below w.heap.size w ((w.alloc (.cells #[.pointer (some ⟨A.p, 0, none⟩), .pointer (some ⟨B.r, 0, none⟩)] 55)).alloc (.cells (opV 10 wd ad sd ak lk ck r1 r2 r3 r4) 51)) := ((Below.refl _ _).alloc (Nat.le_refl _) _).alloc (by simp) _
  have hb0 := (Blk.new w 55 #[.pointer (some ⟨A.p, 0, none⟩), .pointer (some ⟨B.r, 0, none⟩)]).alloc (.cells (opV 10 wd ad sd ak lk ck r1 r2 r3 r4) 51)
  have hb1 := Blk.new (w.alloc (.cells #[.pointer (some ⟨A.p, 0, none⟩), .pointer (some ⟨B.r, 0, none⟩)] 55)) 51 (opV 10 wd ad sd ak lk ck r1 r2 r3 r4)
  simp only [World.size_alloc] at hb1
  obtain ⟨b0, hbb0⟩ : ∃ b0, w.heap.size = b0 := ⟨_, rfl⟩
  obtain ⟨b1, hbb1⟩ : ∃ b1, b0 + 1 = b1 := ⟨_, rfl⟩
  have f0 : ¬ A.F b0 := fun h => by have := (hlA _ h).2; omega
  have f1 : ¬ A.F b1 := fun h => by have := (hlA _ h).2; omega
  have g0 : ¬ B.F b0 := fun h => by have := (hlB _ h).2; omega
  unfold opV at hbe hb0 hb1
  obtain ⟨w1, hw1⟩ : ∃ w1, (w.alloc (.cells #[.pointer (some ⟨A.p, 0, none⟩), .pointer (some ⟨B.r, 0, none⟩)] 55)).alloc (.cells #[.int .i64 10, .int .i64 wd, .int .i64 ad, .string sd, .slice ak lk ck, .int .i64 r1, .int .i64 r2, .int .i64 r3, .int .i64 r4] 51) = w1 := ⟨_, rfl⟩
  rw [hw1] at hbe hb0 hb1 ⊢
  rw [hbb0] at hb0 hb1 ⊢
  rw [hbb1] at hb1 ⊢
  have HB0 : Hid (w.heap.size = b0) := hbb0
  clear hw1 hbb0 hbb1
  have hP1 := hP.below hbe
  have hR1 := hR.below hbe
  have HD : Hid _ := hd
  clear hd
  have hq := qsteps_ok' w1 base A s hP1
  rw [hs1] at hq
  obtain ⟨sv, hsv⟩ : ∃ v, r.steps = v := ⟨_, rfl⟩
  rw [hsv] at hq
  have HREL : Hid _ := hrel.mono (show k ≤ k + 2 by omega)
  have c0 : w1.cell? ⟨b0, 0, none⟩ = some (.pointer (some ⟨A.p, 0, none⟩)) := hb0.cell 0
  have c1 : w1.cell? ⟨b1, 0, none⟩ = some (.int .i64 10) := hb1.cell 0
  have c2 : w1.cell? ⟨b1, 2, none⟩ = some (.int .i64 ad) := hb1.cell 2
  have c3 : w1.cell? ⟨b1, 3, none⟩ = some (.string sd) := hb1.cell 3
  go_wp2_with (first
    | (go_at_call 48; refine hq.mono ?_; rintro e w2 ⟨rfl, hP2, ho2⟩; have hR2 := hR1.off ho2 (fun j hj hj2 => HD.out j hj2 hj); have hb02 := hb0.off ho2 f0; have hb12 := hb1.off ho2 f1; have d0 : w2.cell? ⟨b0, 1, none⟩ = some (.pointer (some ⟨B.r, 0, none⟩)) := hb02.cell 1; have d2 : w2.cell? ⟨b1, 2, none⟩ = some (.int .i64 ad) := hb12.cell 2; have d3 : w2.cell? ⟨b1, 3, none⟩ = some (.string sd) := hb12.cell 3; clear c0 c1 c2 c3; have hr := rsteps_any' w2 base B r hR2; rw [hsv] at hr)
    | (go_at_call 49; refine hr.mono ?_; rintro e w3 ⟨rfl, hR3, ho3⟩; clear d0 d2 d3))
  go_ret
  refine ⟨A, _, _, by simp, ⟨hP2.off ho3 ?_, hR3, HREL.out, rfl, fun j hj => .inl hj, ?_⟩⟩
  · exact fun j hj hj2 => HD.out j hj hj2
  · exact ((Off.of_below hbe).trans (ho2.mono (fun _ _ h => .inl h))).trans (ho3.mono (fun _ _ h => .inr h))

set_option maxRecDepth 100000 in
set_option maxHeartbeats 2000000 in
theorem does6_real (w : World) (base k : Nat) (A : PA) (s : PS) (B : RA) (r : RS) (hP : PD w base A s) (hR : RD w base B r) (hrel : Rel k s r) (hd : ∀ j, A.F j → ¬ B.F j) (_hk : k ≤ 1048576 * 8) (wd ad : Int) (sd : ByteArray) (ak : Option Addr) (lk ck : Nat) (r1 r2 r3 r4 : Int) :
    Calls Try.prog 26 #[.agg #[.pointer (some ⟨A.p, 0, none⟩), .pointer (some ⟨B.r, 0, none⟩)], .agg (opV 6 wd ad sd ak lk ck r1 r2 r3 r4)] w fun e w' => ∃ A' s' r', e = .returned (.bool true) ∧ Did w w' base k A B A' s' r' := by
  have hs1 := hrel.steps
  have hs2 := hrel.steps1
  have hs3 := hrel.steps2
  have hl1 := hrel.left1
  have hl2 := hrel.left2
  have hlp := hrel.leftP
  have hlA := hP.lt
  have hlB := hR.ge
  unfold opV
  go_enter Try.func26, Try.ntmps26
  go_upto_region 1 with (fail)
  have hbe : Below w.heap.size w ((w.alloc (.cells #[.pointer (some ⟨A.p, 0, none⟩), .pointer (some ⟨B.r, 0, none⟩)] 55)).alloc (.cells (opV 6 wd ad sd ak lk ck r1 r2 r3 r4) 51)) := ((Below.refl _ _).alloc (Nat.le_refl _) _).alloc (by simp) _
  have hb0 := (Blk.new w 55 #[.pointer (some ⟨A.p, 0, none⟩), .pointer (some ⟨B.r, 0, none⟩)]).alloc (.cells (opV 6 wd ad sd ak lk ck r1 r2 r3 r4) 51)
  have hb1 := Blk.new (w.alloc (.cells #[.pointer (some ⟨A.p, 0, none⟩), .pointer (some ⟨B.r, 0, none⟩)] 55)) 51 (opV 6 wd ad sd ak lk ck r1 r2 r3 r4)
  simp only [World.size_alloc] at hb1
  obtain ⟨b0, hbb0⟩ : ∃ b0, w.heap.size = b0 := ⟨_, rfl⟩
  obtain ⟨b1, hbb1⟩ : ∃ b1, b0 + 1 = b1 := ⟨_, rfl⟩
  have f0 : ¬ A.F b0 := fun h => by have := (hlA _ h).2; omega
  have f1 : ¬ A.F b1 := fun h => by have := (hlA _ h).2; omega
  have g0 : ¬ B.F b0 := fun h => by have := (hlB _ h).2; omega
  unfold opV at hbe hb0 hb1
  obtain ⟨w1, hw1⟩ : ∃ w1, (w.alloc (.cells #[.pointer (some ⟨A.p, 0, none⟩), .pointer (some ⟨B.r, 0, none⟩)] 55)).alloc (.cells #[.int .i64 6, .int .i64 wd, .int .i64 ad, .string sd, .slice ak lk ck, .int .i64 r1, .int .i64 r2, .int .i64 r3, .int .i64 r4] 51) = w1 := ⟨_, rfl⟩
  rw [hw1] at hbe hb0 hb1 ⊢
  rw [hbb0] at hb0 hb1 ⊢
  rw [hbb1] at hb1 ⊢
  have HB0 : Hid (w.heap.size = b0) := hbb0
  clear hw1 hbb0 hbb1
  have hP1 := hP.below hbe
  have hR1 := hR.below hbe
  have HD : Hid _ := hd
  clear hd
  obtain ⟨e1, e3⟩ := hrel.flush
  have hq := qflush_ok w1 base A s hP1 (by omega) hlp
  rw [e1] at hq
  obtain ⟨ev, hev⟩ : ∃ v, r.flush.1 = v := ⟨_, rfl⟩
  rw [hev] at hq
  have HREL : Hid _ := e3.mono (show k + 1 ≤ k + 2 by omega)
  clear e1 e3
  have c0 : w1.cell? ⟨b0, 0, none⟩ = some (.pointer (some ⟨A.p, 0, none⟩)) := hb0.cell 0
  have c1 : w1.cell? ⟨b1, 0, none⟩ = some (.int .i64 6) := hb1.cell 0
  have c2 : w1.cell? ⟨b1, 2, none⟩ = some (.int .i64 ad) := hb1.cell 2
  have c3 : w1.cell? ⟨b1, 3, none⟩ = some (.string sd) := hb1.cell 3
  go_wp2_with (first
    | (go_at_call 52; refine hq.mono ?_; rintro e w2 ⟨A2, rfl, hP2, ho2, hp2, hF2⟩; have hR2 := hR1.off ho2 (fun j hj hj2 => HD.out j hj2 hj); have hb02 := hb0.off ho2 f0; have hb12 := hb1.off ho2 f1; have d0 : w2.cell? ⟨b0, 1, none⟩ = some (.pointer (some ⟨B.r, 0, none⟩)) := hb02.cell 1; have d2 : w2.cell? ⟨b1, 2, none⟩ = some (.int .i64 ad) := hb12.cell 2; have d3 : w2.cell? ⟨b1, 3, none⟩ = some (.string sd) := hb12.cell 3; clear c0 c1 c2 c3; have hr := rflush_any w2 base B r hR2 ⟨(by omega), hl2⟩; rw [hev] at hr)
    | (go_at_call 53; refine hr.mono ?_; rintro e w3 ⟨rfl, hR3, ho3⟩; clear d0 d2 d3))
  go_ret
  refine ⟨A2, _, _, by simp, ⟨hP2.off ho3 ?_, hR3, HREL.out, hp2, fun j hj => (hF2 j hj).imp id (fun h => Nat.le_trans hbe.size h), ?_⟩⟩
  · intro j hj hj2
    rcases hF2 j hj with h | h
    · exact HD.out j h hj2
    · have := (hlB j hj2).2
      have := hbe.size
      omega
  · exact ((Off.of_below hbe).trans (ho2.mono (fun _ _ h => .inl h))).trans (ho3.mono (fun _ _ h => .inr h))

set_option maxRecDepth 100000 in
set_option maxHeartbeats 2000000 in
theorem does8_real (w : World) (base k : Nat) (A : PA) (s : PS) (B : RA) (r : RS) (hP : PD w base A s) (hR : RD w base B r) (hrel : Rel k s r) (hd : ∀ j, A.F j → ¬ B.F j) (_hk : k ≤ 1048576 * 8) (wd ad : Int) (sd : ByteArray) (ak : Option Addr) (lk ck : Nat) (K : Nat → Int) (hK : KAt w ak lk K) (hlk : lk ≤ 1048576) (hout : ∀ a, ak = some a → 0 < lk → ¬ (A.F a.block ∨ B.F a.block)) (r1 r2 r3 r4 : Int) :
    Calls Try.prog 26 #[.agg #[.pointer (some ⟨A.p, 0, none⟩), .pointer (some ⟨B.r, 0, none⟩)], .agg (opV 8 wd ad sd ak lk ck r1 r2 r3 r4)] w fun e w' => ∃ A' s' r', e = .returned (.bool true) ∧ Did w w' base k A B A' s' r' := by
  have hs1 := hrel.steps
  have hs2 := hrel.steps1
  have hs3 := hrel.steps2
  have hl1 := hrel.left1
  have hl2 := hrel.left2
  have hlp := hrel.leftP
  have hlA := hP.lt
  have hlB := hR.ge
  unfold opV
  go_enter Try.func26, Try.ntmps26
  go_upto_region 1 with (fail)
  have hbe : Below w.heap.size w ((w.alloc (.cells #[.pointer (some ⟨A.p, 0, none⟩), .pointer (some ⟨B.r, 0, none⟩)] 55)).alloc (.cells (opV 8 wd ad sd ak lk ck r1 r2 r3 r4) 51)) := ((Below.refl _ _).alloc (Nat.le_refl _) _).alloc (by simp) _
  have hb0 := (Blk.new w 55 #[.pointer (some ⟨A.p, 0, none⟩), .pointer (some ⟨B.r, 0, none⟩)]).alloc (.cells (opV 8 wd ad sd ak lk ck r1 r2 r3 r4) 51)
  have hb1 := Blk.new (w.alloc (.cells #[.pointer (some ⟨A.p, 0, none⟩), .pointer (some ⟨B.r, 0, none⟩)] 55)) 51 (opV 8 wd ad sd ak lk ck r1 r2 r3 r4)
  simp only [World.size_alloc] at hb1
  obtain ⟨b0, hbb0⟩ : ∃ b0, w.heap.size = b0 := ⟨_, rfl⟩
  obtain ⟨b1, hbb1⟩ : ∃ b1, b0 + 1 = b1 := ⟨_, rfl⟩
  have f0 : ¬ A.F b0 := fun h => by have := (hlA _ h).2; omega
  have f1 : ¬ A.F b1 := fun h => by have := (hlA _ h).2; omega
  have g0 : ¬ B.F b0 := fun h => by have := (hlB _ h).2; omega
  unfold opV at hbe hb0 hb1
  obtain ⟨w1, hw1⟩ : ∃ w1, (w.alloc (.cells #[.pointer (some ⟨A.p, 0, none⟩), .pointer (some ⟨B.r, 0, none⟩)] 55)).alloc (.cells #[.int .i64 8, .int .i64 wd, .int .i64 ad, .string sd, .slice ak lk ck, .int .i64 r1, .int .i64 r2, .int .i64 r3, .int .i64 r4] 51) = w1 := ⟨_, rfl⟩
  rw [hw1] at hbe hb0 hb1 ⊢
  rw [hbb0] at hb0 hb1 ⊢
  rw [hbb1] at hb1 ⊢
  have HB0 : Hid (w.heap.size = b0) := hbb0
  clear hw1 hbb0 hbb1
  have hP1 := hP.below hbe
  have hR1 := hR.below hbe
  have HD : Hid _ := hd
  clear hd
  have hFl : ∀ j, (A.F j ∨ B.F j) → j < w1.heap.size := fun j hj => by
    have := hbe.size
    rcases hj with hj | hj
    · have := (hlA j hj).2; omega
    · have := (hlB j hj).2; omega
  have hK1 : KAt w1 ak lk K := hK.off (Off.of_below (F := fun _ => False) hbe) (fun _ _ _ h => h)
  have hcr := crashes_any w1 (.pointer (some ⟨A.p, 0, none⟩)) (.pointer (some ⟨B.r, 0, none⟩)) rfl rfl ak lk ck K hK1 hlk (fun j => A.F j ∨ B.F j) hFl hout
    (fun g c W => c = 0 ∧ ∃ A1 : PA, PD W base A1 (s.crash lk K) ∧ RD W base B r ∧ A1.p = A.p ∧ (∀ j, A1.F j → A.F j ∨ w1.heap.size ≤ j) ∧ ¬ A1.F g ∧ ¬ B.F g)
    (fun g W => ∃ A1 : PA, PD W base A1 (s.crash lk K) ∧ RD W base B (r.crash lk K) ∧ A1.p = A.p ∧ (∀ j, A1.F j → A.F j ∨ w1.heap.size ≤ j) ∧ ¬ A1.F g ∧ ¬ B.F g)
    (fun W g hbW hg1 hg2 hKg => by
      have gA : ¬ A.F g := fun h => by have := hFl g (.inl h); omega
      have gB : ¬ B.F g := fun h => by have := hFl g (.inr h); omega
      refine (qcrash_ok W base A s (hP1.below hbW) ⟨(by omega), (by omega)⟩ (some ⟨g, 0, none⟩) lk (lk + 8) K hKg (by omega) (fun a ha _ => by cases ha; exact gA)).mono ?_
      rintro e w' ⟨A1, rfl, p1, p2, p3, p4⟩
      refine ⟨0, rfl, ⟨rfl, A1, p1, (hR1.below hbW).off p2 (fun j hj hj2 => HD.out j hj2 hj), p3, fun j hj => (p4 j hj).imp id (fun h => Nat.le_trans hbW.size h), fun hg => ?_, gB⟩, p2.mono (fun _ _ h => .inl h)⟩
      rcases p4 g hg with h | h
      · exact gA h
      · omega)
    (fun W g c hQ hoW => by
      obtain ⟨rfl, A1, p1, p2, p3, p4, p5, p6⟩ := hQ
      refine (rcrash_any W base B r p2 ak lk ck K (hK1.off hoW hout) (by omega) (fun a ha h0 hB => hout a ha h0 (.inr hB))).mono ?_
      rintro e w' ⟨rfl, q1, q2⟩
      refine ⟨rfl, ⟨A1, p1.off q2 (fun j hj hj2 => ?_), q1, p3, p4, p5, p6⟩, q2.mono (fun _ _ h => .inr h)⟩
      rcases p4 j hj with h | h
      · exact HD.out j h hj2
      · have := hFl j (.inr hj2); omega)
    (fun W W' g hRg hoW => by
      obtain ⟨A1, p1, p2, p3, p4, p5, p6⟩ := hRg
      exact ⟨A1, p1.off hoW (fun j hj hj2 => p5 (by rw [← hj2]; exact hj)), p2.off hoW (fun j hj hj2 => p6 (by rw [← hj2]; exact hj)), p3, p4, p5, p6⟩)
  have c0 : w1.cell? ⟨b0, 0, none⟩ = some (.pointer (some ⟨A.p, 0, none⟩)) := hb0.cell 0
  have c0' : w1.cell? ⟨b0, 1, none⟩ = some (.pointer (some ⟨B.r, 0, none⟩)) := hb0.cell 1
  have c1 : w1.cell? ⟨b1, 0, none⟩ = some (.int .i64 8) := hb1.cell 0
  have c4 : w1.cell? ⟨b1, 4, none⟩ = some (.slice ak lk ck) := hb1.cell 4
  have HREL : Hid (Rel (k + 2) (s.crash lk K) (r.crash lk K)) := (hrel.crash lk K).mono (by omega)
  clear hFl hK1 hK hout
  go_wp2_with (go_at_call 50; refine hcr.mono ?_; rintro e w3 ⟨g, rfl, ⟨A1, p1, p2, p3, p4, _⟩, ho3⟩)
  go_ret
  exact ⟨A1, _, _, rfl, ⟨p1, p2, HREL.out, p3, fun j hj => (p4 j hj).imp id (fun h => Nat.le_trans hbe.size h), (Off.of_below hbe).trans ho3⟩⟩

set_option maxRecDepth 100000 in
set_option maxHeartbeats 2000000 in
theorem does4_nil (w : World) (wd ad : Int) (sd : ByteArray) (ak : Option Addr) (lk ck : Nat) (r1 r2 r3 r4 : Int) :
    Calls Try.prog 26 #[.agg #[.pointer none, .pointer none], .agg (opV 4 wd ad sd ak lk ck r1 r2 r3 r4)] w fun e w' => e = .returned (.bool true) ∧ Below w.heap.size w w' := by
  unfold opV
  go_enter Try.func26, Try.ntmps26
  go_upto_region 1 with (fail)
  have hbe : Below w.heap.size w ((w.alloc (.cells #[.pointer none, .pointer none] 55)).alloc (.cells (opV 4 wd ad sd ak lk ck r1 r2 r3 r4) 51)) := ((Below.refl _ _).alloc (Nat.le_refl _) _).alloc (by simp) _
  have hb0 := (Blk.new w 55 #[.pointer none, .pointer none]).alloc (.cells (opV 4 wd ad sd ak lk ck r1 r2 r3 r4) 51)
  have hb1 := Blk.new (w.alloc (.cells #[.pointer none, .pointer none] 55)) 51 (opV 4 wd ad sd ak lk ck r1 r2 r3 r4)
  simp only [World.size_alloc] at hb1
  obtain ⟨b0, hbb0⟩ : ∃ b0, w.heap.size = b0 := ⟨_, rfl⟩
  obtain ⟨b1, hbb1⟩ : ∃ b1, b0 + 1 = b1 := ⟨_, rfl⟩
  unfold opV at hbe hb0 hb1
  obtain ⟨w1, hw1⟩ : ∃ w1, (w.alloc (.cells #[.pointer none, .pointer none] 55)).alloc (.cells #[.int .i64 4, .int .i64 wd, .int .i64 ad, .string sd, .slice ak lk ck, .int .i64 r1, .int .i64 r2, .int .i64 r3, .int .i64 r4] 51) = w1 := ⟨_, rfl⟩
  rw [hw1] at hbe hb0 hb1 ⊢
  rw [hbb0] at hb0 hb1 ⊢
  rw [hbb1] at hb1 ⊢
  have HBE : Hid _ := hbe
  clear hw1 hbb0 hbb1 hbe
  have c0 : w1.cell? ⟨b0, 0, none⟩ = some (.pointer none) := hb0.cell 0
  have c0' : w1.cell? ⟨b0, 1, none⟩ = some (.pointer none) := hb0.cell 1
  have c1 : w1.cell? ⟨b1, 0, none⟩ = some (.int .i64 4) := hb1.cell 0
  have c2 : w1.cell? ⟨b1, 2, none⟩ = some (.int .i64 ad) := hb1.cell 2
  have c3 : w1.cell? ⟨b1, 3, none⟩ = some (.string sd) := hb1.cell 3
  have c4 : w1.cell? ⟨b1, 4, none⟩ = some (.slice ak lk ck) := hb1.cell 4
  have hq := qread_nil w1 ad
  have hr := rread_nil w1 ad
  go_wp2_with (first
    | (go_at_call 41; refine hq.mono ?_; rintro e w2 ⟨rfl, hw2⟩; subst hw2)
    | (go_at_call 46; refine hr.mono ?_; rintro e w3 ⟨rfl, hw3⟩; subst hw3))
  go_ret
  exact ⟨by simp, HBE.out⟩

set_option maxRecDepth 100000 in
set_option maxHeartbeats 2000000 in
theorem does5_nil (w : World) (wd ad : Int) (sd : ByteArray) (ak : Option Addr) (lk ck : Nat) (r1 r2 r3 r4 : Int) :
    Calls Try.prog 26 #[.agg #[.pointer none, .pointer none], .agg (opV 5 wd ad sd ak lk ck r1 r2 r3 r4)] w fun e w' => e = .returned (.bool true) ∧ Below w.heap.size w w' := by
  unfold opV
  go_enter Try.func26, Try.ntmps26
  go_upto_region 1 with (fail)
  have hbe : Below w.heap.size w ((w.alloc (.cells #[.pointer none, .pointer none] 55)).alloc (.cells (opV 5 wd ad sd ak lk ck r1 r2 r3 r4) 51)) := ((Below.refl _ _).alloc (Nat.le_refl _) _).alloc (by simp) _
  have hb0 := (Blk.new w 55 #[.pointer none, .pointer none]).alloc (.cells (opV 5 wd ad sd ak lk ck r1 r2 r3 r4) 51)
  have hb1 := Blk.new (w.alloc (.cells #[.pointer none, .pointer none] 55)) 51 (opV 5 wd ad sd ak lk ck r1 r2 r3 r4)
  simp only [World.size_alloc] at hb1
  obtain ⟨b0, hbb0⟩ : ∃ b0, w.heap.size = b0 := ⟨_, rfl⟩
  obtain ⟨b1, hbb1⟩ : ∃ b1, b0 + 1 = b1 := ⟨_, rfl⟩
  unfold opV at hbe hb0 hb1
  obtain ⟨w1, hw1⟩ : ∃ w1, (w.alloc (.cells #[.pointer none, .pointer none] 55)).alloc (.cells #[.int .i64 5, .int .i64 wd, .int .i64 ad, .string sd, .slice ak lk ck, .int .i64 r1, .int .i64 r2, .int .i64 r3, .int .i64 r4] 51) = w1 := ⟨_, rfl⟩
  rw [hw1] at hbe hb0 hb1 ⊢
  rw [hbb0] at hb0 hb1 ⊢
  rw [hbb1] at hb1 ⊢
  have HBE : Hid _ := hbe
  clear hw1 hbb0 hbb1 hbe
  have c0 : w1.cell? ⟨b0, 0, none⟩ = some (.pointer none) := hb0.cell 0
  have c0' : w1.cell? ⟨b0, 1, none⟩ = some (.pointer none) := hb0.cell 1
  have c1 : w1.cell? ⟨b1, 0, none⟩ = some (.int .i64 5) := hb1.cell 0
  have c2 : w1.cell? ⟨b1, 2, none⟩ = some (.int .i64 ad) := hb1.cell 2
  have c3 : w1.cell? ⟨b1, 3, none⟩ = some (.string sd) := hb1.cell 3
  have c4 : w1.cell? ⟨b1, 4, none⟩ = some (.slice ak lk ck) := hb1.cell 4
  have hq := qwrite_nil w1 ad sd
  have hr := rwrite_nil w1 ad sd
  go_wp2_with (first
    | (go_at_call 40; refine hq.mono ?_; rintro e w2 ⟨rfl, hw2⟩; subst hw2)
    | (go_at_call 51; refine hr.mono ?_; rintro e w3 ⟨rfl, hw3⟩; subst hw3))
  go_ret
  exact ⟨by simp, HBE.out⟩

set_option maxRecDepth 100000 in
set_option maxHeartbeats 2000000 in
theorem does6_nil (w : World) (wd ad : Int) (sd : ByteArray) (ak : Option Addr) (lk ck : Nat) (r1 r2 r3 r4 : Int) :
    Calls Try.prog 26 #[.agg #[.pointer none, .pointer none], .agg (opV 6 wd ad sd ak lk ck r1 r2 r3 r4)] w fun e w' => e = .returned (.bool true) ∧ Below w.heap.size w w' := by
  unfold opV
  go_enter Try.func26, Try.ntmps26
  go_upto_region 1 with (fail)
  have hbe : Below w.heap.size w ((w.alloc (.cells #[.pointer none, .pointer none] 55)).alloc (.cells (opV 6 wd ad sd ak lk ck r1 r2 r3 r4) 51)) := ((Below.refl _ _).alloc (Nat.le_refl _) _).alloc (by simp) _
  have hb0 := (Blk.new w 55 #[.pointer none, .pointer none]).alloc (.cells (opV 6 wd ad sd ak lk ck r1 r2 r3 r4) 51)
  have hb1 := Blk.new (w.alloc (.cells #[.pointer none, .pointer none] 55)) 51 (opV 6 wd ad sd ak lk ck r1 r2 r3 r4)
  simp only [World.size_alloc] at hb1
  obtain ⟨b0, hbb0⟩ : ∃ b0, w.heap.size = b0 := ⟨_, rfl⟩
  obtain ⟨b1, hbb1⟩ : ∃ b1, b0 + 1 = b1 := ⟨_, rfl⟩
  unfold opV at hbe hb0 hb1
  obtain ⟨w1, hw1⟩ : ∃ w1, (w.alloc (.cells #[.pointer none, .pointer none] 55)).alloc (.cells #[.int .i64 6, .int .i64 wd, .int .i64 ad, .string sd, .slice ak lk ck, .int .i64 r1, .int .i64 r2, .int .i64 r3, .int .i64 r4] 51) = w1 := ⟨_, rfl⟩
  rw [hw1] at hbe hb0 hb1 ⊢
  rw [hbb0] at hb0 hb1 ⊢
  rw [hbb1] at hb1 ⊢
  have HBE : Hid _ := hbe
  clear hw1 hbb0 hbb1 hbe
  have c0 : w1.cell? ⟨b0, 0, none⟩ = some (.pointer none) := hb0.cell 0
  have c0' : w1.cell? ⟨b0, 1, none⟩ = some (.pointer none) := hb0.cell 1
  have c1 : w1.cell? ⟨b1, 0, none⟩ = some (.int .i64 6) := hb1.cell 0
  have c2 : w1.cell? ⟨b1, 2, none⟩ = some (.int .i64 ad) := hb1.cell 2
  have c3 : w1.cell? ⟨b1, 3, none⟩ = some (.string sd) := hb1.cell 3
  have c4 : w1.cell? ⟨b1, 4, none⟩ = some (.slice ak lk ck) := hb1.cell 4
  have hq := qflush_nil w1 
  have hr := rflush_nil w1 
  go_wp2_with (first
    | (go_at_call 52; refine hq.mono ?_; rintro e w2 ⟨rfl, hw2⟩; subst hw2)
    | (go_at_call 53; refine hr.mono ?_; rintro e w3 ⟨rfl, hw3⟩; subst hw3))
  go_ret
  exact ⟨by simp, HBE.out⟩

set_option maxRecDepth 100000 in
set_option maxHeartbeats 2000000 in
theorem does7_nil (w : World) (wd ad : Int) (sd : ByteArray) (ak : Option Addr) (lk ck : Nat) (r1 r2 r3 r4 : Int) :
    Calls Try.prog 26 #[.agg #[.pointer none, .pointer none], .agg (opV 7 wd ad sd ak lk ck r1 r2 r3 r4)] w fun e w' => e = .returned (.bool true) ∧ Below w.heap.size w w' := by
  unfold opV
  go_enter Try.func26, Try.ntmps26
  go_upto_region 1 with (fail)
  have hbe : Below w.heap.size w ((w.alloc (.cells #[.pointer none, .pointer none] 55)).alloc (.cells (opV 7 wd ad sd ak lk ck r1 r2 r3 r4) 51)) := ((Below.refl _ _).alloc (Nat.le_refl _) _).alloc (by simp) _
  have hb0 := (Blk.new w 55 #[.pointer none, .pointer none]).alloc (.cells (opV 7 wd ad sd ak lk ck r1 r2 r3 r4) 51)
  have hb1 := Blk.new (w.alloc (.cells #[.pointer none, .pointer none] 55)) 51 (opV 7 wd ad sd ak lk ck r1 r2 r3 r4)
  simp only [World.size_alloc] at hb1
  obtain ⟨b0, hbb0⟩ : ∃ b0, w.heap.size = b0 := ⟨_, rfl⟩
  obtain ⟨b1, hbb1⟩ : ∃ b1, b0 + 1 = b1 := ⟨_, rfl⟩
  unfold opV at hbe hb0 hb1
  obtain ⟨w1, hw1⟩ : ∃ w1, (w.alloc (.cells #[.pointer none, .pointer none] 55)).alloc (.cells #[.int .i64 7, .int .i64 wd, .int .i64 ad, .string sd, .slice ak lk ck, .int .i64 r1, .int .i64 r2, .int .i64 r3, .int .i64 r4] 51) = w1 := ⟨_, rfl⟩
  rw [hw1] at hbe hb0 hb1 ⊢
  rw [hbb0] at hb0 hb1 ⊢
  rw [hbb1] at hb1 ⊢
  have HBE : Hid _ := hbe
  clear hw1 hbb0 hbb1 hbe
  have c0 : w1.cell? ⟨b0, 0, none⟩ = some (.pointer none) := hb0.cell 0
  have c0' : w1.cell? ⟨b0, 1, none⟩ = some (.pointer none) := hb0.cell 1
  have c1 : w1.cell? ⟨b1, 0, none⟩ = some (.int .i64 7) := hb1.cell 0
  have c2 : w1.cell? ⟨b1, 2, none⟩ = some (.int .i64 ad) := hb1.cell 2
  have c3 : w1.cell? ⟨b1, 3, none⟩ = some (.string sd) := hb1.cell 3
  have c4 : w1.cell? ⟨b1, 4, none⟩ = some (.slice ak lk ck) := hb1.cell 4
  have hq := qbreak_nil w1 ad
  have hr := rbreak_nil w1 ad
  go_wp2_with (first
    | (go_at_call 54; refine hq.mono ?_; rintro e w2 ⟨rfl, hw2⟩; subst hw2)
    | (go_at_call 55; refine hr.mono ?_; rintro e w3 ⟨rfl, hw3⟩; subst hw3))
  go_ret
  exact ⟨by simp, HBE.out⟩

set_option maxRecDepth 100000 in
set_option maxHeartbeats 2000000 in
theorem does9_nil (w : World) (wd ad : Int) (sd : ByteArray) (ak : Option Addr) (lk ck : Nat) (r1 r2 r3 r4 : Int) :
    Calls Try.prog 26 #[.agg #[.pointer none, .pointer none], .agg (opV 9 wd ad sd ak lk ck r1 r2 r3 r4)] w fun e w' => e = .returned (.bool true) ∧ Below w.heap.size w w' := by
  unfold opV
  go_enter Try.func26, Try.ntmps26
  go_upto_region 1 with (fail)
  have hbe : Below w.heap.size w ((w.alloc (.cells #[.pointer none, .pointer none] 55)).alloc (.cells (opV 9 wd ad sd ak lk ck r1 r2 r3 r4) 51)) := ((Below.refl _ _).alloc (Nat.le_refl _) _).alloc (by simp) _
  have hb0 := (Blk.new w 55 #[.pointer none, .pointer none]).alloc (.cells (opV 9 wd ad sd ak lk ck r1 r2 r3 r4) 51)
  have hb1 := Blk.new (w.alloc (.cells #[.pointer none, .pointer none] 55)) 51 (opV 9 wd ad sd ak lk ck r1 r2 r3 r4)
  simp only [World.size_alloc] at hb1
  obtain ⟨b0, hbb0⟩ : ∃ b0, w.heap.size = b0 := ⟨_, rfl⟩
  obtain ⟨b1, hbb1⟩ : ∃ b1, b0 + 1 = b1 := ⟨_, rfl⟩
  unfold opV at hbe hb0 hb1
  obtain ⟨w1, hw1⟩ : ∃ w1, (w.alloc (.cells #[.pointer none, .pointer none] 55)).alloc (.cells #[.int .i64 9, .int .i64 wd, .int .i64 ad, .string sd, .slice ak lk ck, .int .i64 r1, .int .i64 r2, .int .i64 r3, .int .i64 r4] 51) = w1 := ⟨_, rfl⟩
  rw [hw1] at hbe hb0 hb1 ⊢
  rw [hbb0] at hb0 hb1 ⊢
  rw [hbb1] at hb1 ⊢
  have HBE : Hid _ := hbe
  clear hw1 hbb0 hbb1 hbe
  have c0 : w1.cell? ⟨b0, 0, none⟩ = some (.pointer none) := hb0.cell 0
  have c0' : w1.cell? ⟨b0, 1, none⟩ = some (.pointer none) := hb0.cell 1
  have c1 : w1.cell? ⟨b1, 0, none⟩ = some (.int .i64 9) := hb1.cell 0
  have c2 : w1.cell? ⟨b1, 2, none⟩ = some (.int .i64 ad) := hb1.cell 2
  have c3 : w1.cell? ⟨b1, 3, none⟩ = some (.string sd) := hb1.cell 3
  have c4 : w1.cell? ⟨b1, 4, none⟩ = some (.slice ak lk ck) := hb1.cell 4
  have hq := qimage_nil w1 
  have hr := rimage_nil w1 
  go_wp2_with (first
    | (go_at_call 47; refine hq.mono ?_; rintro e w2 ⟨rfl, hw2⟩; subst hw2)
    | (go_at_call 25; refine hr.mono ?_; rintro e w3 ⟨rfl, hw3⟩; subst hw3))
  go_ret
  exact ⟨by simp, HBE.out⟩

set_option maxRecDepth 100000 in
set_option maxHeartbeats 2000000 in
theorem does10_nil (w : World) (wd ad : Int) (sd : ByteArray) (ak : Option Addr) (lk ck : Nat) (r1 r2 r3 r4 : Int) :
    Calls Try.prog 26 #[.agg #[.pointer none, .pointer none], .agg (opV 10 wd ad sd ak lk ck r1 r2 r3 r4)] w fun e w' => e = .returned (.bool true) ∧ Below w.heap.size w w' := by
  unfold opV
  go_enter Try.func26, Try.ntmps26
  go_upto_region 1 with (fail)
  have hbe : Below w.heap.size w ((w.alloc (.cells #[.pointer none, .pointer none] 55)).alloc (.cells (opV 10 wd ad sd ak lk ck r1 r2 r3 r4) 51)) := ((Below.refl _ _).alloc (Nat.le_refl _) _).alloc (by simp) _
  have hb0 := (Blk.new w 55 #[.pointer none, .pointer none]).alloc (.cells (opV 10 wd ad sd ak lk ck r1 r2 r3 r4) 51)
  have hb1 := Blk.new (w.alloc (.cells #[.pointer none, .pointer none] 55)) 51 (opV 10 wd ad sd ak lk ck r1 r2 r3 r4)
  simp only [World.size_alloc] at hb1
  obtain ⟨b0, hbb0⟩ : ∃ b0, w.heap.size = b0 := ⟨_, rfl⟩
  obtain ⟨b1, hbb1⟩ : ∃ b1, b0 + 1 = b1 := ⟨_, rfl⟩
  unfold opV at hbe hb0 hb1
  obtain ⟨w1, hw1⟩ : ∃ w1, (w.alloc (.cells #[.pointer none, .pointer none] 55)).alloc (.cells #[.int .i64 10, .int .i64 wd, .int .i64 ad, .string sd, .slice ak lk ck, .int .i64 r1, .int .i64 r2, .int .i64 r3, .int .i64 r4] 51) = w1 := ⟨_, rfl⟩
  rw [hw1] at hbe hb0 hb1 ⊢
  rw [hbb0] at hb0 hb1 ⊢
  rw [hbb1] at hb1 ⊢
  have HBE : Hid _ := hbe
  clear hw1 hbb0 hbb1 hbe
  have c0 : w1.cell? ⟨b0, 0, none⟩ = some (.pointer none) := hb0.cell 0
  have c0' : w1.cell? ⟨b0, 1, none⟩ = some (.pointer none) := hb0.cell 1
  have c1 : w1.cell? ⟨b1, 0, none⟩ = some (.int .i64 10) := hb1.cell 0
  have c2 : w1.cell? ⟨b1, 2, none⟩ = some (.int .i64 ad) := hb1.cell 2
  have c3 : w1.cell? ⟨b1, 3, none⟩ = some (.string sd) := hb1.cell 3
  have c4 : w1.cell? ⟨b1, 4, none⟩ = some (.slice ak lk ck) := hb1.cell 4
  have hq := qsteps_nil w1 
  have hr := rsteps_nil w1 
  go_wp2_with (first
    | (go_at_call 48; refine hq.mono ?_; rintro e w2 ⟨rfl, hw2⟩; subst hw2)
    | (go_at_call 49; refine hr.mono ?_; rintro e w3 ⟨rfl, hw3⟩; subst hw3))
  go_ret
  exact ⟨by simp, HBE.out⟩

set_option maxRecDepth 100000 in
set_option maxHeartbeats 2000000 in
theorem does8_nil (w : World) (wd ad : Int) (sd : ByteArray) (ak : Option Addr) (lk ck : Nat) (K : Nat → Int) (hK : KAt w ak lk K) (hlk : lk ≤ 1048576) (r1 r2 r3 r4 : Int) :
    Calls Try.prog 26 #[.agg #[.pointer none, .pointer none], .agg (opV 8 wd ad sd ak lk ck r1 r2 r3 r4)] w fun e w' => e = .returned (.bool true) ∧ Below w.heap.size w w' := by
  unfold opV
  go_enter Try.func26, Try.ntmps26
  go_upto_region 1 with (fail)
  have hbe : Below w.heap.size w ((w.alloc (.cells #[.pointer none, .pointer none] 55)).alloc (.cells (opV 8 wd ad sd ak lk ck r1 r2 r3 r4) 51)) := ((Below.refl _ _).alloc (Nat.le_refl _) _).alloc (by simp) _
  have hb0 := (Blk.new w 55 #[.pointer none, .pointer none]).alloc (.cells (opV 8 wd ad sd ak lk ck r1 r2 r3 r4) 51)
  have hb1 := Blk.new (w.alloc (.cells #[.pointer none, .pointer none] 55)) 51 (opV 8 wd ad sd ak lk ck r1 r2 r3 r4)
  simp only [World.size_alloc] at hb1
  obtain ⟨b0, hbb0⟩ : ∃ b0, w.heap.size = b0 := ⟨_, rfl⟩
  obtain ⟨b1, hbb1⟩ : ∃ b1, b0 + 1 = b1 := ⟨_, rfl⟩
  unfold opV at hbe hb0 hb1
  obtain ⟨w1, hw1⟩ : ∃ w1, (w.alloc (.cells #[.pointer none, .pointer none] 55)).alloc (.cells #[.int .i64 8, .int .i64 wd, .int .i64 ad, .string sd, .slice ak lk ck, .int .i64 r1, .int .i64 r2, .int .i64 r3, .int .i64 r4] 51) = w1 := ⟨_, rfl⟩
  rw [hw1] at hbe hb0 hb1 ⊢
  rw [hbb0] at hb0 hb1 ⊢
  rw [hbb1] at hb1 ⊢
  have HBE : Hid _ := hbe
  clear hw1 hbb0 hbb1 hbe
  have c0 : w1.cell? ⟨b0, 0, none⟩ = some (.pointer none) := hb0.cell 0
  have c0' : w1.cell? ⟨b0, 1, none⟩ = some (.pointer none) := hb0.cell 1
  have c1 : w1.cell? ⟨b1, 0, none⟩ = some (.int .i64 8) := hb1.cell 0
  have c2 : w1.cell? ⟨b1, 2, none⟩ = some (.int .i64 ad) := hb1.cell 2
  have c3 : w1.cell? ⟨b1, 3, none⟩ = some (.string sd) := hb1.cell 3
  have c4 : w1.cell? ⟨b1, 4, none⟩ = some (.slice ak lk ck) := hb1.cell 4
  have hK1 : KAt w1 ak lk K := hK.off (Off.of_below (F := fun _ => False) HBE.out) (fun _ _ _ h => h)
  have hcr := crashes_any w1 (.pointer none) (.pointer none) rfl rfl ak lk ck K hK1 hlk (fun _ => False) (fun _ h => h.elim) (fun _ _ _ h => h) (fun _ c _ => c = 1) (fun _ _ => True)
    (fun W g _ _ _ _ => (qcrash_nil W (some ⟨g, 0, none⟩) lk (lk + 8)).mono (by rintro e w' ⟨rfl, rfl⟩; exact ⟨1, rfl, rfl, Off.refl _ _⟩))
    (fun W g c hc _ => (rcrash_nil W ak lk ck).mono (by rintro e w' ⟨rfl, rfl⟩; exact ⟨by rw [hc], trivial, Off.refl _ _⟩))
    (fun _ _ _ _ _ => trivial)
  clear hK1 hK
  go_wp2_with (go_at_call 50; refine hcr.mono ?_; rintro e w3 ⟨g, rfl, _, ho3⟩)
  go_ret
  exact ⟨rfl, HBE.out.trans ((ho3.below (Nat.le_refl _) (fun _ h => h.elim)).mono HBE.out.size)⟩

end Go.Proofs.Ytdgbgmffpcooeaa
