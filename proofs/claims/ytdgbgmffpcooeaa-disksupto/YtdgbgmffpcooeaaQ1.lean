/- The calls of the program's package quarto on disks: what they answer, and what they leave; also where there is no disk. -/
import Derived.Test.YtdgbgmffpcooeaaPk9
namespace Go.Proofs.Ytdgbgmffpcooeaa
open Go.RowKit Go.Lib Go.Maps

theorem PI.held {W : World} {base q g m : Nat} {s : PS} (h : PI W base q g m s) (hb : base ≤ W.heap.size) : PD (W.alloc (.cells #[.pointer (some ⟨q, 0, none⟩)] 100)) base ⟨W.heap.size, q, g, m⟩ s := by
  obtain ⟨l1, l2, l3⟩ := h.le
  obtain ⟨k, D, m1, m2, m3⟩ := h.map
  have ho : Off (fun _ => False) W (W.alloc (.cells #[.pointer (some ⟨q, 0, none⟩)] 100)) := (Off.refl _ _).alloc _
  exact ⟨⟨hb, l1, l2, l3⟩, Blk.new W 100 _, h.blkQ.off ho (fun h => h), h.sec.off ho (fun h => h), ⟨k, D, map_off m1 ho (fun h => h), m2, m3⟩, h.n1, h.n2⟩

theorem qnewd_no (w : World) (a : Int) (h : a < 256 ∨ 4096 < a) :
    Calls Try.prog 20 #[.int .i64 a] w fun e w' => e = .returned (.tuple #[.pointer none, .int .i64 2]) ∧ w' = w := by
  have hcon := pnew_no w a h
  have hh : Calls Try.prog 43 #[.pointer none, .int .i64 2] w fun e w' => e = .returned (.tuple #[.pointer none, .int .i64 2]) ∧ w' = w := by
    go_enter Try.func43, Try.ntmps43
    go_wp2
    go_ret2
    exact ⟨rfl, rfl⟩
  go_enter Try.func20, Try.ntmps20
  go_wp2_with (first
    | (go_at_call 44; refine hcon.mono ?_; rintro e w1 ⟨rfl, rfl⟩)
    | (go_at_call 43; refine hh.mono ?_; rintro e w2 ⟨rfl, rfl⟩))
  go_ret2
  exact ⟨rfl, rfl⟩
theorem qhold_ok (w : World) (base q g m : Nat) (s : PS) (h : PI w base q g m s) (hb : base ≤ w.heap.size) :
    Calls Try.prog 43 #[.pointer (some ⟨q, 0, none⟩), .int .i64 0] w fun e w' => ∃ A : PA, e = .returned (.tuple #[.pointer (some ⟨A.p, 0, none⟩), .int .i64 0]) ∧ PD w' base A s ∧ Below w.heap.size w w' := by
  have hR := h.held hb
  go_enter Try.func43, Try.ntmps43
  go_wp2
  go_ret2
  exact ⟨⟨w.heap.size, q, g, m⟩, rfl, hR, (Below.refl _ _).alloc (Nat.le_refl _) _⟩
theorem qnewd_ok (w : World) (n : Nat) (h1 : 256 ≤ n) (h2 : n ≤ 4096) :
    Calls Try.prog 20 #[.int .i64 (n : Int)] w fun e w' => ∃ A : PA, e = .returned (.tuple #[.pointer (some ⟨A.p, 0, none⟩), .int .i64 0]) ∧ PD w' w.heap.size A (PS.fresh n (fun _ => zeros 256)) ∧ Below w.heap.size w w' := by
  have hcon := pnew_ok w n h1 h2
  go_enter Try.func20, Try.ntmps20
  go_wp2_with (first
    | (go_at_call 44; refine hcon.mono ?_; rintro e w1 ⟨q, g, m, rfl, hI, hb1⟩; have hcon2 := qhold_ok w1 w.heap.size q g m _ hI hb1.size)
    | (go_at_call 43; refine hcon2.mono ?_; rintro e w2 ⟨A, rfl, hR, hb2⟩))
  go_ret2
  exact ⟨A, rfl, hR, hb1.trans (hb2.mono hb1.size)⟩
theorem qload_no (w : World) (b : ByteArray) (hb : b.size ≤ 1099511627776) (h : ¬ (b.size % 256 = 0 ∧ 256 ≤ b.size / 256 ∧ b.size / 256 ≤ 4096)) :
    Calls Try.prog 22 #[.string b] w fun e w' => e = .returned (.tuple #[.pointer none, .int .i64 2]) ∧ w' = w := by
  have hcon := pload_no w b hb h
  have hh : Calls Try.prog 43 #[.pointer none, .int .i64 2] w fun e w' => e = .returned (.tuple #[.pointer none, .int .i64 2]) ∧ w' = w := by
    go_enter Try.func43, Try.ntmps43
    go_wp2
    go_ret2
    exact ⟨rfl, rfl⟩
  clear hb h
  go_enter Try.func22, Try.ntmps22
  go_wp2_with (first
    | (go_at_call 45; refine hcon.mono ?_; rintro e w1 ⟨rfl, rfl⟩)
    | (go_at_call 43; refine hh.mono ?_; rintro e w2 ⟨rfl, rfl⟩))
  go_ret2
  exact ⟨rfl, rfl⟩
theorem qload_ok (w : World) (b : ByteArray) (n : Nat) (hn : b.size = n * 256) (h1 : 256 ≤ n) (h2 : n ≤ 4096) :
    Calls Try.prog 22 #[.string b] w fun e w' => ∃ A : PA, e = .returned (.tuple #[.pointer (some ⟨A.p, 0, none⟩), .int .i64 0]) ∧ PD w' w.heap.size A (PS.fresh n (loadNow b n)) ∧ Below w.heap.size w w' := by
  have hcon := pload_ok w b n hn h1 h2
  clear hn h1 h2
  go_enter Try.func22, Try.ntmps22
  go_wp2_with (first
    | (go_at_call 45; refine hcon.mono ?_; rintro e w1 ⟨q, g, m, rfl, hI, hb1⟩; have hcon2 := qhold_ok w1 w.heap.size q g m _ hI hb1.size)
    | (go_at_call 43; refine hcon2.mono ?_; rintro e w2 ⟨A, rfl, hR, hb2⟩))
  go_ret2
  exact ⟨A, rfl, hR, hb1.trans (hb2.mono hb1.size)⟩

theorem qread_ok (w : World) (base : Nat) (A : PA) (s : PS) (h : PD w base A s) (i : Int) (hst : 0 ≤ s.steps ∧ s.steps ≤ 1073741824) :
    Calls Try.prog 41 #[.pointer (some ⟨A.p, 0, none⟩), .int .i64 i] w fun e w' => e = .returned (.tuple #[.string (s.read i).1, .int .i64 (s.read i).2.1]) ∧ PD w' base A (s.read i).2.2 ∧ Off A.F w w' := by
  have cp : w.cell? ⟨A.p, 0, none⟩ = some (.pointer (some ⟨A.q, 0, none⟩)) := h.blkP.cell 0
  have hcon := pread_any w base A s h i hst
  go_enter Try.func41, Try.ntmps41
  go_wp2_with (go_at_call 64; refine hcon.mono ?_; rintro e w1 ⟨rfl, hR, ho⟩)
  go_ret2
  exact ⟨rfl, hR, ho⟩

theorem qwrite_ok (w : World) (base : Nat) (A : PA) (s : PS) (h : PD w base A s) (i : Int) (b : ByteArray) (hst : 0 ≤ s.steps ∧ s.steps ≤ 1073741824) (hlf : -1 ≤ s.left ∧ s.left ≤ 9223372036854775807) :
    Calls Try.prog 40 #[.pointer (some ⟨A.p, 0, none⟩), .int .i64 i, .string b] w fun e w' => e = .returned (.int .i64 (s.write i b).1) ∧ PD w' base A (s.write i b).2 ∧ Off A.F w w' := by
  have cp : w.cell? ⟨A.p, 0, none⟩ = some (.pointer (some ⟨A.q, 0, none⟩)) := h.blkP.cell 0
  have hcon := pwrite_any w base A s h i b hst hlf
  go_enter Try.func40, Try.ntmps40
  go_wp2_with (go_at_call 63; refine hcon.mono ?_; rintro e w1 ⟨rfl, hR, ho⟩)
  go_ret
  exact ⟨rfl, hR, ho⟩

theorem qflush_ok (w : World) (base : Nat) (A : PA) (s : PS) (h : PD w base A s) (hst : 0 ≤ s.steps) (hlf : -1 ≤ s.left ∧ s.left ≤ 9223372036854775807) :
    Calls Try.prog 52 #[.pointer (some ⟨A.p, 0, none⟩)] w fun e w' => ∃ A' : PA, e = .returned (.int .i64 s.flush.1) ∧ PD w' base A' s.flush.2 ∧ Off A.F w w' ∧ A'.p = A.p ∧ ∀ k, A'.F k → A.F k ∨ w.heap.size ≤ k := by
  have cp : w.cell? ⟨A.p, 0, none⟩ = some (.pointer (some ⟨A.q, 0, none⟩)) := h.blkP.cell 0
  have hcon := pflush_any w base A s h hst hlf
  go_enter Try.func52, Try.ntmps52
  go_wp2_with (go_at_call 70; refine hcon.mono ?_; rintro e w1 ⟨A1, rfl, hR, ho, hp, hF⟩)
  go_ret
  exact ⟨A1, rfl, hR, ho, hp, hF⟩

theorem qbreak_ok (w : World) (base : Nat) (A : PA) (s : PS) (h : PD w base A s) (n : Int) :
    Calls Try.prog 54 #[.pointer (some ⟨A.p, 0, none⟩), .int .i64 n] w fun e w' => e = .returned (.int .i64 (s.break_ n).1) ∧ PD w' base A (s.break_ n).2 ∧ Off A.F w w' := by
  have cp : w.cell? ⟨A.p, 0, none⟩ = some (.pointer (some ⟨A.q, 0, none⟩)) := h.blkP.cell 0
  have hcon := pbreak_any w base A s h n
  go_enter Try.func54, Try.ntmps54
  go_wp2_with (go_at_call 71; refine hcon.mono ?_; rintro e w1 ⟨rfl, hR, ho⟩)
  go_ret
  exact ⟨rfl, hR, ho⟩

theorem qcrash_ok (w : World) (base : Nat) (A : PA) (s : PS) (h : PD w base A s) (hst : 0 ≤ s.steps ∧ s.steps ≤ 1073741824) (ak : Option Addr) (lk ck : Nat) (K : Nat → Int) (hK : KAt w ak lk K) (hlk : lk ≤ 1073741824) (hout : ∀ a, ak = some a → 0 < lk → ¬ A.F a.block) :
    Calls Try.prog 42 #[.pointer (some ⟨A.p, 0, none⟩), .slice ak lk ck] w fun e w' => ∃ A' : PA, e = .returned (.int .i64 0) ∧ PD w' base A' (s.crash lk K) ∧ Off A.F w w' ∧ A'.p = A.p ∧ ∀ k, A'.F k → A.F k ∨ w.heap.size ≤ k := by
  have cp : w.cell? ⟨A.p, 0, none⟩ = some (.pointer (some ⟨A.q, 0, none⟩)) := h.blkP.cell 0
  have hcon := pcrash_any w base A s h hst ak lk ck K hK hlk hout
  clear hlk hst
  go_enter Try.func42, Try.ntmps42
  go_wp2_with (go_at_call 65; refine hcon.mono ?_; rintro e w1 ⟨A1, rfl, hR, ho, hp, hF⟩)
  go_ret
  exact ⟨A1, rfl, hR, ho, hp, hF⟩

theorem qimage_ok (w : World) (base : Nat) (A : PA) (s : PS) (h : PD w base A s) :
    Calls Try.prog 47 #[.pointer (some ⟨A.p, 0, none⟩)] w fun e w' => e = .returned (.tuple #[.string ⟨(joined s.safe s.n).toArray⟩, .int .i64 0]) ∧ Below w.heap.size w w' := by
  have cp : w.cell? ⟨A.p, 0, none⟩ = some (.pointer (some ⟨A.q, 0, none⟩)) := h.blkP.cell 0
  have hcon := pimage_any w base A s h
  go_enter Try.func47, Try.ntmps47
  go_wp2_with (go_at_call 67; refine hcon.mono ?_; rintro e w1 ⟨rfl, hb⟩)
  go_ret2
  exact ⟨rfl, hb⟩

theorem qsteps_ok (w : World) (base : Nat) (A : PA) (s : PS) (h : PD w base A s) :
    Calls Try.prog 48 #[.pointer (some ⟨A.p, 0, none⟩)] w fun e w' => e = .returned (.tuple #[.int .i64 s.steps, .int .i64 0]) ∧ w' = w := by
  have cp : w.cell? ⟨A.p, 0, none⟩ = some (.pointer (some ⟨A.q, 0, none⟩)) := h.blkP.cell 0
  have hcon := psteps_any w base A s h
  go_enter Try.func48, Try.ntmps48
  go_wp2_with (go_at_call 68; refine hcon.mono ?_; rintro e w1 ⟨rfl, rfl⟩)
  go_ret2
  exact ⟨rfl, rfl⟩
theorem qread_nil (w : World) (i : Int) :
    Calls Try.prog 41 #[.pointer none, .int .i64 i] w fun e w' => e = .returned (.tuple #[.string ⟨#[]⟩, .int .i64 1]) ∧ w' = w := by
  go_enter Try.func41, Try.ntmps41
  go_wp2
  go_ret2
  exact ⟨rfl, rfl⟩
theorem rread_nil (w : World) (i : Int) :
    Calls Try.prog 46 #[.pointer none, .int .i64 i] w fun e w' => e = .returned (.tuple #[.string ⟨#[]⟩, .int .i64 1]) ∧ w' = w := by
  go_enter Try.func46, Try.ntmps46
  go_wp2
  go_ret2
  exact ⟨rfl, rfl⟩
theorem qwrite_nil (w : World) (i : Int) (b : ByteArray) :
    Calls Try.prog 40 #[.pointer none, .int .i64 i, .string b] w fun e w' => e = .returned (.int .i64 1) ∧ w' = w := by
  go_enter Try.func40, Try.ntmps40
  go_wp2
  go_ret
  exact ⟨rfl, rfl⟩
theorem rwrite_nil (w : World) (i : Int) (b : ByteArray) :
    Calls Try.prog 51 #[.pointer none, .int .i64 i, .string b] w fun e w' => e = .returned (.int .i64 1) ∧ w' = w := by
  go_enter Try.func51, Try.ntmps51
  go_wp2
  go_ret
  exact ⟨rfl, rfl⟩
theorem qflush_nil (w : World) :
    Calls Try.prog 52 #[.pointer none] w fun e w' => e = .returned (.int .i64 1) ∧ w' = w := by
  go_enter Try.func52, Try.ntmps52
  go_wp2
  go_ret
  exact ⟨rfl, rfl⟩
theorem rflush_nil (w : World) :
    Calls Try.prog 53 #[.pointer none] w fun e w' => e = .returned (.int .i64 1) ∧ w' = w := by
  go_enter Try.func53, Try.ntmps53
  go_wp2
  go_ret
  exact ⟨rfl, rfl⟩
theorem qbreak_nil (w : World) (n : Int) :
    Calls Try.prog 54 #[.pointer none, .int .i64 n] w fun e w' => e = .returned (.int .i64 1) ∧ w' = w := by
  go_enter Try.func54, Try.ntmps54
  go_wp2
  go_ret
  exact ⟨rfl, rfl⟩
theorem rbreak_nil (w : World) (n : Int) :
    Calls Try.prog 55 #[.pointer none, .int .i64 n] w fun e w' => e = .returned (.int .i64 1) ∧ w' = w := by
  go_enter Try.func55, Try.ntmps55
  go_wp2
  go_ret
  exact ⟨rfl, rfl⟩
theorem qcrash_nil (w : World) (ak : Option Addr) (lk ck : Nat) :
    Calls Try.prog 42 #[.pointer none, .slice ak lk ck] w fun e w' => e = .returned (.int .i64 1) ∧ w' = w := by
  go_enter Try.func42, Try.ntmps42
  go_wp2
  go_ret
  exact ⟨rfl, rfl⟩
theorem rcrash_nil (w : World) (ak : Option Addr) (lk ck : Nat) :
    Calls Try.prog 69 #[.pointer none, .slice ak lk ck] w fun e w' => e = .returned (.int .i64 1) ∧ w' = w := by
  go_enter Try.func69, Try.ntmps69
  go_wp2
  go_ret
  exact ⟨rfl, rfl⟩
theorem qimage_nil (w : World) :
    Calls Try.prog 47 #[.pointer none] w fun e w' => e = .returned (.tuple #[.string ⟨#[]⟩, .int .i64 1]) ∧ w' = w := by
  go_enter Try.func47, Try.ntmps47
  go_wp2
  go_ret2
  exact ⟨rfl, rfl⟩
theorem rimage_nil (w : World) :
    Calls Try.prog 25 #[.pointer none] w fun e w' => e = .returned (.tuple #[.string ⟨#[]⟩, .int .i64 1]) ∧ w' = w := by
  go_enter Try.func25, Try.ntmps25
  go_wp2
  go_ret2
  exact ⟨rfl, rfl⟩
theorem qsteps_nil (w : World) :
    Calls Try.prog 48 #[.pointer none] w fun e w' => e = .returned (.tuple #[.int .i64 0, .int .i64 1]) ∧ w' = w := by
  go_enter Try.func48, Try.ntmps48
  go_wp2
  go_ret2
  exact ⟨rfl, rfl⟩
theorem rsteps_nil (w : World) :
    Calls Try.prog 49 #[.pointer none] w fun e w' => e = .returned (.tuple #[.int .i64 0, .int .i64 1]) ∧ w' = w := by
  go_enter Try.func49, Try.ntmps49
  go_wp2
  go_ret2
  exact ⟨rfl, rfl⟩

end Go.Proofs.Ytdgbgmffpcooeaa
