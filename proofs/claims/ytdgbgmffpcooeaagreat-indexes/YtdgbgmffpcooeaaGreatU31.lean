/- Se5 -/
import Derived.Maps.OwnIn
import Derived.Test.YtdgbgmffpcooeaaGreatU30
namespace Go.Proofs.YtdgbgmffpcooeaaGreat
open Go.RowKit Go.Lib Go.Shelf
section
attribute [local go_sem] Oper.semAt_some
def SeaP (w : World) (A : PA) (r : Box) (dd : Bool) (tb : List (Int × Box)) (Sx : World → Prop) (e : Ending) (w' : World) : Prop :=
 Off A.F w w' ∧ Sx w' ∧ ((dd = true ∧ e = .returned (.tuple #[.slice none 0 0, .int .i64 4])) ∨ (dd = false ∧ ∃ v ids,e = .returned (.tuple #[v, .int .i64 0]) ∧ IsIds r tb ids ∧ w'.ownsRow w.heap.size 3 1 v ids.length (intsV ids)))
def SeaA (w : World) (A : PA) (x t : Nat) (dead : Bool) (r : Box) (dd : Bool) (es : List (Key × Box)) (tb : List (Int × Box)) (B7 B8 : Nat) (Sx : World → Prop) (a : Act) (W : World) : Prop :=
 ∃ u9 u10 u11 u12 u13 u14 u15 u16 u17 u18 u19 u20 u21 u22 u23 u24 u25 u26 u27 u28 u29 u30 u31 u32 u33 u34 u35 u36 u37 u38 u39 u40 u41 u42 u43 u44 u45 u46 u47 u48 u49 u50 u51 u52 u53 u54 u55 u56 u57 u58 u59 u60 u61 u62 rs sv acc c more,a = { tmps := #[.pointer (some ⟨x, 0,none⟩), .agg (boxC r),undef, .pointer (some ⟨w.heap.size, 0,none⟩), .pointer (some ⟨w.heap.size + 1, 0,none⟩), .pointer (some ⟨w.heap.size + 1 + 1, 0,none⟩), .pointer (some ⟨w.heap.size + 1 + 1 + 1, 0,none⟩), .pointer (some ⟨B7, 0,none⟩), .pointer (some ⟨B8, 0,none⟩),u9,u10,u11,u12,u13,u14,u15,u16,u17,u18,u19,u20,u21,u22,u23,u24,u25,u26,u27,u28,u29,u30,u31,u32,u33,u34,u35,u36,u37,u38,u39,u40,u41,u42,u43,u44,u45,u46,u47,u48,u49,u50,u51,u52,u53,u54,u55,u56,u57,u58,u59,u60,u61,u62],defers := marks rs } ∧ Sb w A x t dead r rs B7 B8 sv acc c more W ∧ Sx W ∧ dd = false ∧ Sea r tb es acc []
def SeaR (w : World) (A : PA) (dd : Bool) (Sx : World → Prop) (a : Act) (W : World) : Prop :=
 ∃ tmps rs,a = { tmps := tmps,defers := marks rs } ∧ tmps[4]? = some (.pointer (some ⟨w.heap.size + 1, 0,none⟩)) ∧ tmps[5]? = some (.pointer (some ⟨w.heap.size + 1 + 1, 0,none⟩)) ∧ Off A.F w W ∧ Sx W ∧ dd = true ∧ Blk W (w.heap.size + 1) 35 #[.slice none 0 0] ∧ Blk W (w.heap.size + 1 + 1) 26 #[.int .i64 4] ∧ rs.Nodup ∧ (∀ k ∈ rs,W.heap[k]? = some (.deferred (some [])) ∧ w.heap.size ≤ k)
def SeaL (w : World) (A : PA) (x t : Nat) (dead : Bool) (r : Box) (dd : Bool) (es : List (Key × Box)) (tb : List (Int × Box)) (B7 B8 : Nat) (St : Nat → World → Prop) (Sx : World → Prop) (n : Nat) (a : Act) (W : World) : Prop :=
 ∃ u9 u10 u11 u12 u13 u14 u15 u16 u17 u18 u19 u20 u21 u22 u23 u24 u25 u26 u27 u28 u29 u30 u31 u32 u33 u34 u35 u36 u37 u38 u39 u40 u41 u42 u43 u44 u45 u46 u47 u48 u49 u50 u51 u52 u53 u54 u55 u56 u57 u58 u59 u60 u61 u62 rs sv acc c more,a = { tmps := #[.pointer (some ⟨x, 0,none⟩), .agg (boxC r),undef, .pointer (some ⟨w.heap.size, 0,none⟩), .pointer (some ⟨w.heap.size + 1, 0,none⟩), .pointer (some ⟨w.heap.size + 1 + 1, 0,none⟩), .pointer (some ⟨w.heap.size + 1 + 1 + 1, 0,none⟩), .pointer (some ⟨B7, 0,none⟩), .pointer (some ⟨B8, 0,none⟩),u9,u10,u11,u12,u13,u14,u15,u16,u17,u18,u19,u20,u21,u22,u23,u24,u25,u26,u27,u28,u29,u30,u31,u32,u33,u34,u35,u36,u37,u38,u39,u40,u41,u42,u43,u44,u45,u46,u47,u48,u49,u50,u51,u52,u53,u54,u55,u56,u57,u58,u59,u60,u61,u62],defers := marks rs } ∧ Sb w A x t dead r rs B7 B8 sv acc c more W ∧
  ((more = true ∧ St n W ∧ CellOk c ∧ (dd = false → Sea r tb es acc (frm ((place c : Int), 0) es)) ∧ n = (frm ((place c : Int), 0) es).length + 1) ∨ (more = false ∧ dd = false ∧ Sx W ∧ Sea r tb es acc [] ∧ n = 0))
def SeaQ (w : World) (A : PA) (x t : Nat) (dead : Bool) (r : Box) (dd : Bool) (es : List (Key × Box)) (tb : List (Int × Box)) (B7 B8 : Nat) (Sx : World → Prop) : Exit → Act → World → Prop
 | .normal,a,W => SeaA w A x t dead r dd es tb B7 B8 Sx a W
 | .ret,a,W => SeaR w A dd Sx a W
 | _,_,_ => False
def SeaI (w wc : World) (A : PA) (x t : Nat) (dead : Bool) (r : Box) (dd : Bool) (es : List (Key × Box)) (tb : List (Int × Box)) (rs : List Nat) (B7 B8 : Nat) (L : List (Key × Box)) (i : Nat) (M : Nat → Prop) (W : World) : Prop :=
 ∃ sv acc c,Sb w A x t dead r rs B7 B8 sv acc c true W ∧ (dd = true → i = 0) ∧ (dd = false → i ≤ L.length ∧ Sea r tb es acc (L.drop i)) ∧ ((M (w.heap.size + 1) ∧ M (w.heap.size + 1 + 1) ∧ M (w.heap.size + 1 + 1 + 1) ∧ M B7 ∧ M B8) ∧ ∀ k,M k → w.heap.size ≤ k) ∧ (∀ k,sv.ownBlock = some k → M k ∧ k ≠ wc.heap.size + 1)
def SeaX (w wc : World) (A : PA) (x t : Nat) (dead : Bool) (r : Box) (dd : Bool) (es : List (Key × Box)) (tb : List (Int × Box)) (rs : List Nat) (B7 B8 : Nat) (L : List (Key × Box)) (c : Code) (W : World) : Prop :=
 (c = .ret ∧ dd = true ∧ Off A.F w W ∧ Blk W (w.heap.size + 1) 35 #[.slice none 0 0] ∧ Blk W (w.heap.size + 1 + 1) 26 #[.int .i64 4] ∧ rs.Nodup ∧ (∀ k ∈ rs,W.heap[k]? = some (.deferred (some [])) ∧ w.heap.size ≤ k)) ∨
 (c = .exit 0 ∧ dd = false ∧ ∃ sv acc c',Sb w A x t dead r rs B7 B8 sv acc c' true W ∧ (∀ k,sv.ownBlock = some k → k ≠ wc.heap.size + 1) ∧ Sea r tb es acc []) ∨
 (c = .exit 1 ∧ dd = false ∧ ∃ sv acc c' more,Sb w A x t dead r rs B7 B8 sv acc c' more W ∧ (∀ k,sv.ownBlock = some k → k ≠ wc.heap.size + 1) ∧ ((more = true ∧ CellOk c' ∧ Sea r tb es acc (frm ((place c' : Int), 0) es) ∧ (frm ((place c' : Int), 0) es).length < L.length) ∨ (more = false ∧ Sea r tb es acc [])))
theorem oks_get2 {l : List (Key × Box)} {i : Nat} {y : Tld} (h : (oks l)[i]? = some y) : ∃ z,l[i]? = some z ∧ y = (z, 0) := by
 unfold oks at h
 rw [List.getElem?_map] at h
 cases hz : l[i]? with
 | none => rw [hz] at h; cases h
 | some z => rw [hz] at h; cases h; exact ⟨z,rfl,rfl⟩
theorem drop_get {α : Type} {l : List α} {i : Nat} {x : α} (h : l[i]? = some x) : l.drop i = x :: l.drop (i + 1) := by
 obtain ⟨hi,e⟩ := List.getElem?_eq_some_iff.1 h
 rw [List.drop_eq_getElem_cons hi,e]
theorem cell_top {c : Nat × Nat} (hc : CellOk c) : (c.1 / 4 ^ c.2 + 1) * 4 ^ c.2 ≤ 4294967296 ∧ c.1 = c.1 / 4 ^ c.2 * 4 ^ c.2 := by
 have q := Nat.pow_pos (n := c.2) (show 0 < 4 by decide)
 refine ⟨?_,(Nat.div_mul_cancel hc.mul).symm⟩
 have ht := hc.top
 have hd : 4 ^ c.2 ∣ 4 ^ 16 := Nat.pow_dvd_pow 4 hc.size
 obtain ⟨m,hm⟩ := hd
 have hlt : c.1 / 4 ^ c.2 < m := by
  rw [Nat.div_lt_iff_lt_mul q,Nat.mul_comm]; rw [← hm]; exact ht
 have : (c.1 / 4 ^ c.2 + 1) * 4 ^ c.2 ≤ m * 4 ^ c.2 := Nat.mul_le_mul_right _ hlt
 rw [Nat.mul_comm m] at this
 rw [← hm] at this
 simpa using this
section
variable {w X Y : World} {A : PA} {x t : Nat} {dead : Bool} {r : Box} {rs : List Nat} {B7 B8 : Nat} {sv : Value} {acc : List Int} {c : Nat × Nat} {more : Bool}
def Sm0 (w : World) (B7 B8 : Nat) (sv : Value) (k : Nat) : Prop := k = w.heap.size + 1 ∨ k = w.heap.size + 1 + 1 ∨ k = w.heap.size + 1 + 1 + 1 ∨ k = B7 ∨ k = B8 ∨ sv.ownBlock = some k
theorem Sb.m0 (h : Sb w A x t dead r rs B7 B8 sv acc c more X) {k : Nat} (hk : Sm0 w B7 B8 sv k) : k < X.heap.size ∧ w.heap.size ≤ k := by
 have := h.b6.lt
 have := h.b7.lt
 have := h.b8.lt
 have := h.ge
 rcases hk with hk | hk | hk | hk | hk | hk
 ·omega
 ·omega
 ·omega
 ·omega
 ·omega
 ·obtain ⟨h1,cs,hc⟩ := own_tagged h.row hk
  exact ⟨(Array.getElem?_eq_some_iff.1 hc).1,h1⟩
theorem Sb.lts (h : Sb w A x t dead r rs B7 B8 sv acc c more X) : ∀ k ∈ rs,k < X.heap.size := fun k hm => (Array.getElem?_eq_some_iff.1 (h.mks k hm)).1
theorem Sb.mark (h : Sb w A x t dead r rs B7 B8 sv acc c more X) {k : Nat} (hk : X.heap[k]? = some (.deferred (some []))) (hg : w.heap.size ≤ k) (hn : k ∉ rs) : Sb w A x t dead r (k :: rs) B7 B8 sv acc c more X :=
 ⟨h.b3,h.b4,h.b5,h.b6,h.b7,h.b8,h.row,h.ix,h.off,List.nodup_cons.2 ⟨hn,h.nd⟩,fun j hj => (List.mem_cons.1 hj).elim (fun e => e ▸ hk) (h.mks j),h.ge,fun j hj => (List.mem_cons.1 hj).elim (fun e => e ▸ hg) (h.ger j)⟩
theorem SeaI.below {wc : World} {dd : Bool} {es : List (Key × Box)} {tb : List (Int × Box)} {L : List (Key × Box)} {i : Nat} {M : Nat → Prop} (h : SeaI w wc A x t dead r dd es tb rs B7 B8 L i M X) (hb : Below X.heap.size X Y) (hF : ∀ k,A.F k → k < w.heap.size) (hxF : ¬ A.F x) (hxl : x < w.heap.size) : SeaI w wc A x t dead r dd es tb rs B7 B8 L i (Grow M X Y) Y := by
 obtain ⟨sv,acc,c,h1,h2,h3,⟨⟨m1,m2,m3,m4,m5⟩,m6⟩,h5⟩ := h
 have := h1.off.size
 exact ⟨sv,acc,c,h1.below hb hF hxF hxl,h2,h3,⟨⟨.inl m1, .inl m2, .inl m3, .inl m4, .inl m5⟩,fun k hk => hk.elim (m6 k) (fun h => by omega)⟩,fun k hk => ⟨.inl (h5 k hk).1,(h5 k hk).2⟩⟩
end
set_option maxRecDepth 100000 in
set_option maxHeartbeats 4000000 in
theorem search_any (w : World) (A : PA) (x t : Nat) (dead : Bool) (r : Box) (hr : r.ok) (dd : Bool) (es : List (Key × Box)) (tb : List (Int × Box)) (hI : dd = false → Idx plc tb es) (hle : es.length ≤ 1000000) (St Sx : Nat → World → Prop)
  (hF : ∀ k,A.F k → k < w.heap.size) (ht : t < w.heap.size) (hxF : ¬ A.F x) (hx : IdxB w x t dead)
  (hSt : ∀ n X Y,St n X → Off (fun k => w.heap.size ≤ k) X Y → St n Y) (hSx : ∀ n X Y,Sx n X → Off (fun k => w.heap.size ≤ k) X Y → Sx n Y) (hgo : dd = false → ∀ n n' W,n ≤ es.length + 1 → n' < n → Sx n W → St n' W) (h0 : ∀ n,n ≤ es.length + 1 → St n w)
  (hseq : ∀ (n : Nat) (W : World) (tb kb : Nat) (key : Key) (M0 : Nat → Prop),n ≤ es.length + 1 → St n W → w.heap.size ≤ W.heap.size → Blk W tb 122 #[.pointer (some ⟨t, 0,none⟩)] → Blk W kb 154 #[.int .i64 key.1, .int .i64 key.2] → (∀ b,M0 b → b < W.heap.size) → (∀ b,A.F b → ¬ M0 b) → ¬ M0 t → Tells 5 Tryz.prog 120 #[.pointer (some ⟨tb, 0,none⟩), .pointer (some ⟨kb, 0,none⟩)] tldE A.F M0 (if dd then [zeroT] else oks (frm key es)) (Sx n) (fun _ => Sx n) W) :
  Calls Tryz.prog 62 #[.pointer (some ⟨x, 0,none⟩), .agg (boxC r)] w (SeaP w A r dd tb (fun W => ∃ n,n ≤ es.length + 1 ∧ Sx n W)) := by
 obtain ⟨i3,hi3,hz3a,hz3b,hz3c⟩ := info_parts info3
 have hxl := hx.lt
 refine (callsIn_wide (n := 6)).1 ?_
 refine callsIn_of_wp_marks Tryz.func62 rfl trivial ?_ rfl
 simp only [Tryz.ntmps62,List.size_toArray,List.length_cons,List.length_nil,Nat.reduceAdd,Nat.reduceSub,Array.replicate_succ,Array.replicate_zero,List.push_toArray,List.append_toArray,List.nil_append,List.cons_append]
 gi_wp2
 refine wpIn_scope_wide ?_
 gi_upto_region 2 with fail
 obtain ⟨W0,hW0⟩ : ∃ W0,(((w.alloc (.cells #[.int .i64 (r.a : Int), .int .i64 (r.b : Int), .int .i64 (r.c : Int), .int .i64 (r.d : Int)] 34)).alloc (.cells #[.slice none 0 0] 35)).alloc (.cells #[.int .i64 0] 26)).alloc (.cells #[.slice none 0 0] 35) = W0 := ⟨_,rfl⟩
 have b3 : Blk W0 w.heap.size 34 (boxC r) := by rw [← hW0]; exact (((Blk.new w 34 _).alloc _).alloc _).alloc _
 have b4 : Blk W0 (w.heap.size + 1) 35 #[.slice none 0 0] := by
  rw [← hW0]; have := ((Blk.new (w.alloc (.cells #[.int .i64 (r.a : Int), .int .i64 (r.b : Int), .int .i64 (r.c : Int), .int .i64 (r.d : Int)] 34)) 35 #[.slice none 0 0]).alloc (.cells #[.int .i64 0] 26)).alloc (.cells #[.slice none 0 0] 35); rwa [World.size_alloc] at this
 have b5 : Blk W0 (w.heap.size + 1 + 1) 26 #[.int .i64 0] := by
  rw [← hW0]; have := (Blk.new ((w.alloc (.cells #[.int .i64 (r.a : Int), .int .i64 (r.b : Int), .int .i64 (r.c : Int), .int .i64 (r.d : Int)] 34)).alloc (.cells #[.slice none 0 0] 35)) 26 #[.int .i64 0]).alloc (.cells #[.slice none 0 0] 35); simp only [World.size_alloc] at this; exact this
 have b6 : Blk W0 (w.heap.size + 1 + 1 + 1) 35 #[.slice none 0 0] := by
  rw [← hW0]; have := Blk.new (((w.alloc (.cells #[.int .i64 (r.a : Int), .int .i64 (r.b : Int), .int .i64 (r.c : Int), .int .i64 (r.d : Int)] 34)).alloc (.cells #[.slice none 0 0] 35)).alloc (.cells #[.int .i64 0] 26)) 35 #[.slice none 0 0]; simp only [World.size_alloc] at this; exact this
 have hb0 : Below w.heap.size w W0 := by rw [← hW0]; exact ((((Below.refl _ w).alloc (Nat.le_refl _) _).alloc (by simp) _).alloc (by simp; omega) _).alloc (by simp; omega) _
 have hs0 : W0.heap.size = w.heap.size + 4 := by rw [← hW0]; simp
 rw [hW0]
 have q0 : W0.cell? ⟨w.heap.size, 0,none⟩ = some (.int .i64 (r.a : Int)) := b3.cell 0
 have q1 : W0.cell? ⟨w.heap.size, 1,none⟩ = some (.int .i64 (r.b : Int)) := b3.cell 1
 have q2 : W0.cell? ⟨w.heap.size, 2,none⟩ = some (.int .i64 (r.c : Int)) := b3.cell 2
 have q3 : W0.cell? ⟨w.heap.size, 3,none⟩ = some (.int .i64 (r.d : Int)) := b3.cell 3
 have hnc := nextCell_any W0 0 (by omega) r hr
 rw [show ((0 : Nat) : Int) = 0 from rfl] at hnc
 have HS0 : Hid (W0.heap.size = w.heap.size + 4) := hs0
 clear hW0 hs0
 gi_wp2_with (refine ⟨trivial, ?_⟩; gi_at_call 86; refine (callsIn_wide.2 hnc).mono ?_; rintro e w2 ⟨c,more,rfl,hNC,hb2⟩)
 have hmore : more = true := by
  cases more with
  | true => rfl
  | false => exact absurd hNC (nextC_zero hr)
 subst hmore
 obtain ⟨W1,hW1⟩ : ∃ W1,(w2.alloc (.cells #[.int .i64 (c.1 : Int), .int .i64 (c.2 : Int)] 99)).alloc (.cells #[.bool true] 4) = W1 := ⟨_,rfl⟩
 have hb1 : Below w2.heap.size w2 W1 := by rw [← hW1]; exact ((Below.refl _ w2).alloc (Nat.le_refl _) _).alloc (by simp) _
 have b7 : Blk W1 w2.heap.size 99 #[.int .i64 (c.1 : Int), .int .i64 (c.2 : Int)] := by rw [← hW1]; exact (Blk.new w2 99 _).alloc _
 have b8 : Blk W1 (w2.heap.size + 1) 4 #[.bool true] := by
  rw [← hW1]; have := Blk.new (w2.alloc (.cells #[.int .i64 (c.1 : Int), .int .i64 (c.2 : Int)] 99)) 4 #[.bool true]; rwa [World.size_alloc] at this
 have hs2 := hb2.size
 have hS0 := HS0.out
 have hB1 : Below w.heap.size w W1 := hb0.trans ((hb2.mono (by omega)).trans (hb1.mono (by omega)))
 have k3 := (b3.below hb2 b3.lt).below hb1 (by omega)
 have k4 := (b4.below hb2 b4.lt).below hb1 (by omega)
 have k5 := (b5.below hb2 b5.lt).below hb1 (by omega)
 have k6 := (b6.below hb2 b6.lt).below hb1 (by omega)
 have HSB : Hid (Sb w A x t dead r [] w2.heap.size (w2.heap.size + 1) (.slice none 0 0) [] c true W1) := ⟨k3,k4,k5,k6,b7,b8,⟨rfl, .inl ⟨rfl,rfl⟩⟩,(hB1.block x hxl).trans hx,Off.of_below hB1,List.nodup_nil,fun k hk => (by cases hk),⟨by omega,by omega⟩,fun k hk => (by cases hk)⟩
 rw [hW1]
 have HST : Hid (∀ n,n ≤ es.length + 1 → St n W1) := fun n hn => hSt n w W1 (h0 n hn) (Off.of_below hB1)
 clear hW1 hb1 b3 b4 b5 b6 b7 b8 k3 k4 k5 k6 q0 q1 q2 q3 hnc hb2 hb0 hB1
 obtain ⟨B7,hB7⟩ : ∃ B7,w2.heap.size = B7 := ⟨_,rfl⟩
 obtain ⟨B8,hB8⟩ : ∃ B8,w2.heap.size + 1 = B8 := ⟨_,rfl⟩
 rw [hB8,hB7] at HSB
 rw [hB8,hB7]
 have HB78 : Hid (w.heap.size + 4 ≤ B7 ∧ w.heap.size + 4 < B8) := by show _ ∧ _; omega
 clear hB7 hB8 hs2 hS0 HS0
 have HC : Hid (CellOk c) := (nextC_ok hNC).1
 have HSEA : Hid (dd = false → Sea r tb es [] (frm ((place c : Int), 0) es)) := fun h => Sea.start (hI h) hNC
 clear hNC
 refine wpIn_label ?_
 rename_i K hK
 refine hK _ _ ?_
 clear hK K
 refine wpIn_seq ?_
 refine wpIn_mono (Q := SeaQ w A x t dead r dd es tb B7 B8 (fun W => ∃ n,n ≤ es.length + 1 ∧ Sx n W)) ?loop ?after
 case loop =>
  refine wpIn_block ?_
  refine wpIn_loop_ghost_k (SeaL w A x t dead r dd es tb B7 B8 St (fun W => ∃ n,n ≤ es.length + 1 ∧ Sx n W)) ((frm ((place c : Int), 0) es).length + 1) ⟨_,_,_,_,_,_,_,_,_,_,_,_,_,_,_,_,_,_,_,_,_,_,_,_,_,_,_,_,_,_,_,_,_,_,_,_,_,_,_,_,_,_,_,_,_,_,_,_,_,_,_,_,_,_,_,_,_,_,_,rfl,HSB.out, .inl ⟨rfl,HST.out _ (Nat.succ_le_succ (frm_len ..)),HC.out,HSEA.out,rfl⟩⟩ ?_
  clear HSB HST HC HSEA c W1 w2 W0 h0
  rintro n a W ⟨u9,u10,u11,u12,u13,u14,u15,u16,u17,u18,u19,u20,u21,u22,u23,u24,u25,u26,u27,u28,u29,u30,u31,u32,u33,u34,u35,u36,u37,u38,u39,u40,u41,u42,u43,u44,u45,u46,u47,u48,u49,u50,u51,u52,u53,u54,u55,u56,u57,u58,u59,u60,u61,u62,rs,sv,acc,c,more,rfl,hSb,hmo⟩ J K hJ hK
  have HJ : Hid (∀ k a' w',SeaL w A x t dead r dd es tb B7 B8 St (fun W => ∃ n,n ≤ es.length + 1 ∧ Sx n W) k a' w' → J k a' w') := hJ
  have HKK : Hid (∀ a' w',Handed J n a' w' → K a' w') := hK
  have HSb : Hid (Sb w A x t dead r rs B7 B8 sv acc c more W) := hSb
  have c8 : W.cell? ⟨B8, 0,none⟩ = some (.bool more) := hSb.b8.cell 0
  clear hJ hK
  rcases hmo with ⟨rfl,hStW,hco,hse,hn⟩ | ⟨rfl,hdd,hsx,hse,hn⟩
  ·have cx : W.cell? ⟨x, 0,none⟩ = some (.pointer (some ⟨t, 0,none⟩)) := hSb.ix.cell 0
   have c70 : W.cell? ⟨B7, 0,none⟩ = some (.int .i64 (c.1 : Int)) := hSb.b7.cell 0
   have c71 : W.cell? ⟨B7, 1,none⟩ = some (.int .i64 (c.2 : Int)) := hSb.b7.cell 1
   have hxW : x < W.heap.size := hSb.ix.lt
   have HN : Hid (n = (frm ((place c : Int), 0) es).length + 1) := hn
   have HSE : Hid (dd = false → Sea r tb es acc (frm ((place c : Int), 0) es)) := hse
   have hck := ckey_any W.drew c hco 0
   clear hn hse hSb
   gi_upto_region 4 with fail
   gi_cut [23] from 63 (fun s23 wx => ∃ tB kB,s23 = .func (.func 120) #[] #[.pointer (some ⟨tB, 0,none⟩), .pointer (some ⟨kB, 0,none⟩)] ∧ Blk wx tB 122 #[.pointer (some ⟨t, 0,none⟩)] ∧ Blk wx kB 154 #[.int .i64 (place c : Int), .int .i64 0] ∧ Below W.heap.size W wx)
   case first =>
    have hmx : Tryz.prog.follows .mixedOrders = true := by kernel_rfl
    refine wpIn_calm ?_
    gi_region_with_o (first
     | (refine ⟨trivial, ?_⟩; gi_at_call 88; refine (callsIn_wide.2 hck).mono ?_; rintro e w1 ⟨rfl,hb1⟩; have cx1 : w1.cell? ⟨x, 0,none⟩ = some (.pointer (some ⟨t, 0,none⟩)) := (hb1.cell (p := ⟨x, 0,none⟩) hxW).trans cx)
     | (refine ⟨trivial, ?_⟩; gi_at_call 87; refine (callsIn_wide.2 (from_any _ t ((place c : Int), 0))).mono ?_; rintro e w2 ⟨rfl,rfl⟩))
    all_goals gi_wp2
    all_goals gi_meet
    all_goals
     have hb1' : Below W.heap.size W w1 := ((Below.refl _ W).drew).trans hb1
     have hs1 := hb1'.size
     exact ⟨w1.heap.size,w1.heap.size + 1,rfl,(Blk.new w1 122 _).alloc _,by have := Blk.new (w1.alloc (.cells #[.pointer (some ⟨t, 0,none⟩)] 122)) 154 #[.int .i64 (place c : Int), .int .i64 0]; rwa [World.size_alloc] at this,(hb1'.alloc hs1 _).alloc (by simp; omega) _⟩
   case rest =>
    obtain ⟨Wc,rfl⟩ : ∃ Wc,Wc = wc := ⟨_,rfl⟩
    obtain ⟨tB,kB,rfl,btb,bkb,hbx⟩ := hcut
    have hsx := hbx.size
    have hSc := HSb.out.below hbx hF hxF hxl
    have hStc := hSt n W Wc hStW (Off.of_below hbx)
    have hnl : n ≤ es.length + 1 := by have := frm_len ((place c : Int), 0) es; have := HN.out; omega
    have l7 := hSc.b7.lt
    have l8 := hSc.b8.lt
    have l6 := hSc.b6.lt
    have lrs := hSc.lts
    have hwc := hSc.off.size
    have hM0 : ∀ k,Sm0 w B7 B8 sv k → k < Wc.heap.size ∧ w.heap.size ≤ k := fun k hk => hSc.m0 hk
    have htells := hseq n Wc tB kB ((place c : Int), 0) (Sm0 w B7 B8 sv) hnl hStc hwc btb bkb (fun b hb => (hM0 b hb).1) (fun b hb h => by have := hF b hb; have := (hM0 b h).2; omega) (fun h => by have := (hM0 t h).2; omega)
    obtain ⟨L,hL⟩ : ∃ L,frm ((place c : Int), 0) es = L := ⟨_,rfl⟩
    simp only [hL] at htells
    have HSE2 : Hid (dd = false → Sea r tb es acc L) := fun h => hL ▸ HSE.out h
    have HN2 : Hid (n = L.length + 1) := by show _ = _; rw [← hL]; exact HN.out
    have HL : Hid (frm ((place c : Int), 0) es = L) := hL
    have HT : Hid _ := htells
    have hnk : ∀ sv' : Value,(∀ k,sv'.ownBlock = some k → k ≠ Wc.heap.size + 1) → ¬ Sk w rs B7 B8 sv' (Wc.heap.size + 1) := fun sv' h1 h2 => by
     rcases h2 with h | h | h | h | h | h | h | h
     ·omega
     ·omega
     ·omega
     ·omega
     ·omega
     ·omega
     ·exact h1 _ h rfl
     ·have := lrs _ h; omega
    have hG1 : ∀ sv' : Value,(∀ k,sv'.ownBlock = some k → k ≠ Wc.heap.size + 1) → ∀ k,(A.F k ∨ k = Wc.heap.size + 1) → A.F k ∨ (w.heap.size ≤ k ∧ ¬ Sk w rs B7 B8 sv' k) := fun sv' h1 k hk => hk.imp id (fun e => by subst e; exact ⟨by omega,hnk sv' h1⟩)
    have HNK : Hid (∀ sv' : Value,(∀ k,sv'.ownBlock = some k → k ≠ Wc.heap.size + 1) → ∀ k,(A.F k ∨ k = Wc.heap.size + 1) → A.F k ∨ (w.heap.size ≤ k ∧ ¬ Sk w rs B7 B8 sv' k)) := hG1
    have HSc : Hid (Sb w A x t dead r rs B7 B8 sv acc c true Wc) := hSc
    have HSEQ : Hid _ := hseq
    clear htells hL hnk hG1 hSc HSE HN hck cx c70 c71 c8 HSb hbx btb bkb hseq
    gi_wp2
    refine wpIn_tells (by omega) (gf := 120) (lb := #[.pointer (some ⟨tB, 0,none⟩), .pointer (some ⟨kB, 0,none⟩)]) rfl (enters_of Tryz.func120 (by kernel_rfl) rfl) HT.out (fun _ => rfl) (fun k hk => by have := hF k hk; omega) (fun k hk => (hM0 k hk).1)
     (SeaI w Wc A x t dead r dd es tb rs B7 B8 L) (fun c _ W => SeaX w Wc A x t dead r dd es tb rs B7 B8 L c W)
     ?hI ?hIx (fun X Y h _ ho => hSx n X Y h (ho.mono fun k _ e => by omega)) (fun i X Y h _ ho => hSx n X Y h (ho.mono fun k _ e => by omega))
     ⟨sv,acc,c,HSc.out,fun _ => rfl,fun h => ⟨Nat.zero_le _,HSE2.out h⟩,⟨⟨.inl rfl, .inr (.inl rfl), .inr (.inr (.inl rfl)), .inr (.inr (.inr (.inl rfl))), .inr (.inr (.inr (.inr (.inl rfl))))⟩,fun k hk => (hM0 k hk).2⟩,fun k hk => ⟨.inr (.inr (.inr (.inr (.inr hk)))),by have := (hM0 k (.inr (.inr (.inr (.inr (.inr hk)))))).1; omega⟩⟩
     (fun y a' W => ∃ Bx,Wc.heap.size + 1 < Bx ∧ Blk W Bx 156 #[.int .i64 y.1.1.1, .int .i64 y.1.1.2, .int .i64 (y.1.2.a : Int), .int .i64 (y.1.2.b : Int), .int .i64 (y.1.2.c : Int), .int .i64 (y.1.2.d : Int)] ∧ a' = { tmps := #[.pointer (some ⟨x, 0,none⟩), .agg (boxC r),undef, .pointer (some ⟨w.heap.size, 0,none⟩), .pointer (some ⟨w.heap.size + 1, 0,none⟩), .pointer (some ⟨w.heap.size + 1 + 1, 0,none⟩), .pointer (some ⟨w.heap.size + 1 + 1 + 1, 0,none⟩), .pointer (some ⟨B7, 0,none⟩), .pointer (some ⟨B8, 0,none⟩), .pointer (some ⟨Bx, 0,none⟩), .int .i64 y.2,u11,u12,u13,u14,u15, .bool true,u17,u18,u19,u20,u21,u22, .func (.func 120) #[] #[.pointer (some ⟨tB, 0,none⟩), .pointer (some ⟨kB, 0,none⟩)],entV y.1, .int .i64 y.2,u26,u27,u28,u29,u30,u31,u32,u33,u34,u35,u36,u37,u38,u39,u40,u41,u42,u43,u44,u45,u46,u47,u48,u49,u50,u51,u52,u53,u54,u55,u56,u57,u58,u59,u60,u61,u62],defers := [] })
     ?hAx ?assign ?body ?done ?stop
    case hI =>
     rintro i M X Y ⟨sv',acc',c',h1,h2,h3,h4,h5⟩ ho
     exact ⟨sv',acc',c',h1.offs ho hF hxF hxl (HNK.out sv' (fun k hk => (h5 k hk).2)),h2,h3,h4,h5⟩
    case hIx =>
     rintro c1 i X Y (⟨rfl,h1,h2,h3,h4,h5,h6⟩ | ⟨rfl,h1,sv',acc',c',h2,h3,h4⟩ | ⟨rfl,h1,sv',acc',c',more',h2,h3,h4⟩) ho
     ·have nk : ∀ k,w.heap.size ≤ k → k < Wc.heap.size → ¬ (A.F k ∨ k = Wc.heap.size + 1) := fun k k1 k2 h => h.elim (fun h => by have := hF k h; omega) (fun h => by omega)
      refine .inl ⟨rfl,h1,h2.step ho (fun k hk h => h.elim id (fun h => by omega)),h3.off ho (nk _ (by omega) (by omega)),h4.off ho (nk _ (by omega) (by omega)),h5,fun k hk => ⟨(ho.block k (Array.getElem?_eq_some_iff.1 (h6 k hk).1).1 (nk _ (h6 k hk).2 (lrs k hk))).trans (h6 k hk).1,(h6 k hk).2⟩⟩
     ·exact .inr (.inl ⟨rfl,h1,sv',acc',c',h2.offs ho hF hxF hxl (HNK.out sv' h3),h3,h4⟩)
     ·exact .inr (.inr ⟨rfl,h1,sv',acc',c',more',h2.offs ho hF hxF hxl (HNK.out sv' h3),h3,h4⟩)
    case hAx =>
     rintro y a' X Y ⟨Bx,h1,h2,h3⟩ ho
     exact ⟨Bx,h1,(ho.block _ h2.lt (by omega)).trans h2,h3⟩
    case assign =>
     rintro l i y M W1 K1 hy hi hM hW hK1
     simp only [tldE]
     have HI1 : Hid (SeaI w Wc A x t dead r dd es tb rs B7 B8 L i M W1) := hi
     have HK1 : Hid _ := hK1
     clear hi hK1 hy
     gi_wp2
     have hb : Below W1.heap.size W1 (W1.alloc (entO y.1)) := (Below.refl _ W1).alloc (Nat.le_refl _) _
     exact HK1.out _ _ (Off.of_below hb) (HI1.out.below hb hF hxF hxl) ⟨W1.heap.size,hW,Blk.new W1 156 _,rfl⟩
    case body =>
     rintro l i y M a' W1 hy ⟨sv',acc',c',h1,h2,h3,⟨⟨m1,m2,m3,m4,m5⟩,m6⟩,h5⟩ ⟨Bx,hBx1,bX,rfl⟩ hM hW
     have HS1 : Hid (Sb w A x t dead r rs B7 B8 sv' acc' c' true W1) := h1
     have hw1 := h1.off.size
     cases dd with
     | true =>
      have hi0 := h2 rfl
      subst hi0
      have hyz : y = zeroT := by simpa using hy.symm
      subst hyz
      have c4 : W1.cell? ⟨w.heap.size + 1, 0,none⟩ = some (.slice none 0 0) := h1.b4.cell 0
      have c5 : W1.cell? ⟨w.heap.size + 1 + 1, 0,none⟩ = some (.int .i64 0) := h1.b5.cell 0
      have f4 : W1.frozen? ⟨w.heap.size + 1, 0,none⟩ = false := h1.b4.frozen 0
      have f5 : W1.frozen? ⟨w.heap.size + 1 + 1, 0,none⟩ = false := h1.b5.frozen 0
      simp only [zeroT]
      clear h1 hy
      gi_wp2
      obtain ⟨W5,hW5⟩ : ∃ W5,(W1.setCell ⟨w.heap.size + 1, 0,none⟩ (.slice none 0 0)).setCell ⟨w.heap.size + 1 + 1, 0,none⟩ (.int .i64 4) = W5 := ⟨_,rfl⟩
      have z4 : Blk W5 (w.heap.size + 1) 35 #[.slice none 0 0] := by rw [← hW5]; exact (HS1.out.b4.set 0 _).other (by omega) 0 _
      have z5 : Blk W5 (w.heap.size + 1 + 1) 26 #[.int .i64 4] := by rw [← hW5]; exact (HS1.out.b5.other (by omega) 0 _).set 0 _
      have o5 : Off (fun k => k = w.heap.size + 1 ∨ k = w.heap.size + 1 + 1) W1 W5 := by rw [← hW5]; exact ((Off.refl _ W1).setCell _ (.inl (.inl rfl))).setCell _ (.inl (.inr rfl))
      rw [hW5]
      refine ⟨o5.mono (fun k _ hk => hk.elim (fun e => e ▸ m1) (fun e => e ▸ m2)), .inl ⟨rfl,rfl,HS1.out.off.step o5 (fun k hk hg => by omega),z4,z5,HS1.out.nd,fun k hm => ⟨?_,HS1.out.ger k hm⟩⟩⟩
      have hm' := HS1.out.mks k hm
      refine (o5.block k (Array.getElem?_eq_some_iff.1 hm').1 (fun hg => ?_)).trans hm'
      rcases hg with hg | hg
      ·subst hg; exact mk_ne HS1.out HS1.out.b4 hm
      ·subst hg; exact mk_ne HS1.out HS1.out.b5 hm
     | false =>
      obtain ⟨hil,hsea⟩ := h3 rfl
      rw [if_neg (by simp)] at hy
      obtain ⟨z,hz,rfl⟩ := oks_get2 hy
      have hidx := hI rfl
      have hdr := drop_get hz
      rw [hdr] at hsea
      have hLr : Rising L := by rw [← HL.out]; exact rising_frm hidx.ris
      have hzr : Rising (z :: L.drop (i + 1)) := by rw [← hdr]; exact hLr.sub (List.drop_sublist ..)
      have hze : z ∈ es := by have := List.mem_of_getElem? hz; rw [← HL.out] at this; exact (mem_frm.1 this).1
      have hpre : frm ((place c : Int), 0) es = L.take i ++ z :: L.drop (i + 1) := by rw [HL.out, ← hdr,List.take_append_drop]
      have hil2 : i + 1 ≤ L.length := (List.getElem?_eq_some_iff.1 hz).1
      obtain ⟨⟨⟨k1,k2⟩,bx⟩,hzz⟩ : ∃ q : Key × Box,q = z := ⟨z,rfl⟩
      subst hzz
      obtain ⟨hid,hkind⟩ := ent_kind hidx hze
      simp only at hid hkind bX
      clear hy hdr hz h3 h2
      have x0 : W1.cell? ⟨Bx, 0,none⟩ = some (.int .i64 k1) := bX.cell 0
      have HSEA1 : Hid (Sea r tb es acc' (((k1,k2),bx) :: L.drop (i + 1))) := hsea
      have hown5 : ∀ k,sv'.ownBlock = some k → k ≠ Wc.heap.size + 1 := fun k hk => (h5 k hk).2
      rcases hkind with hk1 | ⟨d,hd,hk1⟩
      ·subst hk1
       have HSN : Hid (Sea r tb es acc' []) := hsea.num hzr rfl
       clear hsea h1
       gi_wp2
       exact ⟨Off.refl _ _, .inr (.inl ⟨rfl,rfl,sv',acc',c',HS1.out,hown5,HSN.out⟩)⟩
      ·subst hk1
       have hpl : place d < 73014444032 := by have := place_lt hd; simpa using this
       have hne : ¬ (place d : Int) = 73014444032 := by omega
       have hat := cellAt_any W1 (place d) hpl
       rw [cellAt_place hd.size] at hat
       have b7l := h1.b7.lt
       have bXl := bX.lt
       have HZR : Hid (Rising ((((place d : Int),k2),bx) :: L.drop (i + 1))) := hzr
       have HPRE : Hid (frm ((place c : Int), 0) es = L.take i ++ (((place d : Int),k2),bx) :: L.drop (i + 1)) := hpre
       have HZE : Hid ((((place d : Int),k2),bx) ∈ es) := hze
       have HBX : Hid (Blk W1 Bx 156 #[.int .i64 (place d : Int), .int .i64 k2, .int .i64 (bx.a : Int), .int .i64 (bx.b : Int), .int .i64 (bx.c : Int), .int .i64 (bx.d : Int)]) := bX
       have HLR : Hid (Rising L) := hLr
       have HIX : Hid (Idx plc tb es) := hidx
       clear hzr hpre hze bX hLr hsea h1 hidx hI
       gi_upto_region 11 with (refine ⟨trivial, ?_⟩; gi_at_call 89; refine (CallsIn.inRound l (callsIn_wide.2 hat)).mono ?_; rintro e1 w1 ⟨rfl,hb1⟩; have k7 := HS1.out.b7.below hb1 b7l; have e70 : w1.cell? ⟨B7, 0,none⟩ = some (.int .i64 (c'.1 : Int)) := k7.cell 0; have e71 : w1.cell? ⟨B7, 1,none⟩ = some (.int .i64 (c'.2 : Int)) := k7.cell 1; have g70 : w1.frozen? ⟨B7, 0,none⟩ = false := k7.frozen 0; have g71 : w1.frozen? ⟨B7, 1,none⟩ = false := k7.frozen 1)
       obtain ⟨W2,hW2⟩ : ∃ W2,(w1.setCell ⟨B7, 0,none⟩ (.int .i64 (d.1 : Int))).setCell ⟨B7, 1,none⟩ (.int .i64 (d.2 : Int)) = W2 := ⟨_,rfl⟩
       have hSb1 := HS1.out.below hb1 hF hxF hxl
       have o2 : Off (fun k => k = B7) w1 W2 := by rw [← hW2]; exact ((Off.refl (fun k => k = B7) w1).setCell _ (.inl rfl)).setCell _ (.inl rfl)
       have z7 : Blk W2 B7 99 #[.int .i64 (d.1 : Int), .int .i64 (d.2 : Int)] := by rw [← hW2]; exact (k7.set 0 _).set 1 _
       have hSb2 : Sb w A x t dead r rs B7 B8 sv' acc' d true W2 := hSb1.put78 d true hxl (o2.mono (fun k _ e => .inl e)) z7 (hSb1.b8.off o2 (fun e => blk_ne hSb1.b8 hSb1.b7 (by decide) e))
       have oM2 : Off M W1 W2 := (Off.of_below hb1).trans (o2.mono (fun k _ e => e ▸ m4))
       have bX1 := HBX.out.below hb1 bXl
       have bX2 := bX1.off o2 (fun e => blk_ne bX1 hSb1.b7 (by decide) e)
       rw [hW2]
       obtain ⟨hq4,hqm⟩ := cell_top hd
       have hsq := square_any (d.1 / 4 ^ d.2) d.2 W2.drew hd.size hq4 d.1 hqm
       obtain ⟨sq,hsqe⟩ : ∃ sq,sqr (d.1 / 4 ^ d.2) d.2 = sq := ⟨_,rfl⟩
       rw [hsqe] at hsq
       have hms := meet_square hd hr
       rw [hsqe] at hms
       have HMS : Hid ((both sq r).ok ↔ Meets (inWin r) d) := hms
       have a0 : W2.cell? ⟨B7, 0,none⟩ = some (.int .i64 (d.1 : Int)) := hSb2.b7.cell 0
       have a1 : W2.cell? ⟨B7, 1,none⟩ = some (.int .i64 (d.2 : Int)) := hSb2.b7.cell 1
       have r0 : W2.cell? ⟨w.heap.size, 0,none⟩ = some (.int .i64 (r.a : Int)) := hSb2.b3.cell 0
       have r1 : W2.cell? ⟨w.heap.size, 1,none⟩ = some (.int .i64 (r.b : Int)) := hSb2.b3.cell 1
       have r2 : W2.cell? ⟨w.heap.size, 2,none⟩ = some (.int .i64 (r.c : Int)) := hSb2.b3.cell 2
       have r3 : W2.cell? ⟨w.heap.size, 3,none⟩ = some (.int .i64 (r.d : Int)) := hSb2.b3.cell 3
       have b3l := hSb2.b3.lt
       have HS2 : Hid (Sb w A x t dead r rs B7 B8 sv' acc' d true W2) := hSb2
       have HB2 : Hid (Blk W2 Bx 156 #[.int .i64 (place d : Int), .int .i64 k2, .int .i64 (bx.a : Int), .int .i64 (bx.b : Int), .int .i64 (bx.c : Int), .int .i64 (bx.d : Int)]) := bX2
       have HM2 : Hid (Off M W1 W2) := oM2
       clear hW2 hsqe hms hqm hq4 hSb1 hSb2 o2 z7 oM2 bX1 bX2 k7 e70 e71 g70 g71 hb1 hat hne HBX x0
       gi_cut [41] from 63 (fun s41 wx => ∃ f : Bool,s41 = .bool (!f) ∧ (f = true ↔ (both sq r).ok) ∧ Below W2.heap.size W2 wx)
       case first =>
        have hmx : Tryz.prog.follows .mixedOrders = true := by kernel_rfl
        refine wpIn_calm ?_
        gi_region_with_o (first
         | (refine ⟨trivial, ?_⟩; gi_at_call 91; refine (CallsIn.inRound l (callsIn_wide.2 hsq)).mono ?_; rintro e2 w3 ⟨rfl,hb3⟩; have hb3' : Below W2.heap.size W2 w3 := ((Below.refl _ W2).drew).trans hb3; have y0 : w3.cell? ⟨w.heap.size, 0,none⟩ = some (.int .i64 (r.a : Int)) := (hb3'.cell (p := ⟨w.heap.size, 0,none⟩) b3l).trans r0; have y1 : w3.cell? ⟨w.heap.size, 1,none⟩ = some (.int .i64 (r.b : Int)) := (hb3'.cell (p := ⟨w.heap.size, 1,none⟩) b3l).trans r1; have y2 : w3.cell? ⟨w.heap.size, 2,none⟩ = some (.int .i64 (r.c : Int)) := (hb3'.cell (p := ⟨w.heap.size, 2,none⟩) b3l).trans r2; have y3 : w3.cell? ⟨w.heap.size, 3,none⟩ = some (.int .i64 (r.d : Int)) := (hb3'.cell (p := ⟨w.heap.size, 3,none⟩) b3l).trans r3)
         | (refine ⟨trivial, ?_⟩; gi_at_call 90; refine (CallsIn.inRound l (callsIn_wide.2 (gmeet_any _ sq r))).mono ?_; rintro e3 w4 ⟨f,rfl,hf,hb4⟩))
        all_goals gi_wp2
        all_goals gi_meet
        all_goals exact ⟨f,rfl,hf,hb3'.trans (hb4.mono hb3'.size)⟩
       case rest =>
        obtain ⟨W3,rfl⟩ : ∃ W3,W3 = wc := ⟨_,rfl⟩
        obtain ⟨f,rfl,hf,hb5⟩ := hcut
        have hSb3 := HS2.out.below hb5 hF hxF hxl
        have bX3 := HB2.out.below hb5 HB2.out.lt
        have oM3 : Off M W1 W3 := HM2.out.trans (Off.of_below hb5)
        have hs3 := oM3.size
        have r0 : W3.cell? ⟨w.heap.size, 0,none⟩ = some (.int .i64 (r.a : Int)) := hSb3.b3.cell 0
        have r1 : W3.cell? ⟨w.heap.size, 1,none⟩ = some (.int .i64 (r.b : Int)) := hSb3.b3.cell 1
        have r2 : W3.cell? ⟨w.heap.size, 2,none⟩ = some (.int .i64 (r.c : Int)) := hSb3.b3.cell 2
        have r3 : W3.cell? ⟨w.heap.size, 3,none⟩ = some (.int .i64 (r.d : Int)) := hSb3.b3.cell 3
        have HS3 : Hid (Sb w A x t dead r rs B7 B8 sv' acc' d true W3) := hSb3
        have HB3 : Hid (Blk W3 Bx 156 #[.int .i64 (place d : Int), .int .i64 k2, .int .i64 (bx.a : Int), .int .i64 (bx.b : Int), .int .i64 (bx.c : Int), .int .i64 (bx.d : Int)]) := bX3
        have HM3 : Hid (Off M W1 W3) := oM3
        have b3l3 := hSb3.b3.lt
        clear a0 a1 hsq hSb3 bX3 oM3 hb5 HS2 HB2 HM2 HS1
        by_cases hme : (both sq r).ok
        ·have hft : f = true := hf.2 hme
         subst hft
         clear hf
         have hgm := gmeet_any W3 bx r
         have x2 : W3.cell? ⟨Bx, 2,none⟩ = some (.int .i64 (bx.a : Int)) := HB3.out.cell 2
         have x3 : W3.cell? ⟨Bx, 3,none⟩ = some (.int .i64 (bx.b : Int)) := HB3.out.cell 3
         have x4 : W3.cell? ⟨Bx, 4,none⟩ = some (.int .i64 (bx.c : Int)) := HB3.out.cell 4
         have x5 : W3.cell? ⟨Bx, 5,none⟩ = some (.int .i64 (bx.d : Int)) := HB3.out.cell 5
         by_cases hmm : (both bx r).ok
         ·obtain ⟨sa,sc,hsv,_,_,_⟩ := own_shape HS3.out.row
          subst hsv
          have hal : acc'.length ≤ 1000000 := by have := HSEA1.out.len; simp at this; omega
          have b6l := HS3.out.b6.lt
          gi_upto_region 14 with (refine ⟨trivial, ?_⟩; gi_at_call 90; refine (CallsIn.inRound l (callsIn_wide.2 hgm)).mono ?_; rintro e3 w6 ⟨f2,rfl,hf2,hb6⟩; have hf2' : f2 = true := hf2.2 hmm; subst hf2')
          have hSb6 := HS3.out.below hb6 hF hxF hxl
          have bX6 := HB3.out.below hb6 HB3.out.lt
          have c6 : w6.cell? ⟨w.heap.size + 1 + 1 + 1, 0,none⟩ = some (.slice sa acc'.length sc) := hSb6.b6.cell 0
          have x1 : w6.cell? ⟨Bx, 1,none⟩ = some (.int .i64 k2) := bX6.cell 1
          have HS6 : Hid (Sb w A x t dead r rs B7 B8 (.slice sa acc'.length sc) acc' d true w6) := hSb6
          have oM6 : Off M W1 w6 := HM3.out.trans (Off.of_below hb6)
          have hs6 := oM6.size
          have HM6 : Hid (Off M W1 w6) := oM6
          clear hSb6 bX6 oM6 hgm hf2
          gi_wp2_with (gi_at_builtin; refine wpListIn_append_own_at _ rfl (.tmp 53) (.tmp 57) 35 rfl w.heap.size 3 i3 _ 1 8 Tryz.underlying35 hi3 hz3a hz3b hz3c rfl (by omega) (.slice sa acc'.length sc) acc'.length _ rfl (HS6.out.row.alloc _) ⟨w6.heap.size, 0,none⟩ 1 1 [.int .i64 k2] rfl rfl (World.news_of_block (cs := #[.int .i64 k2]) (t := 3) (fr := (0, 0)) (heap_alloc_new w6 _)) (by simp [Value.oneCell']) (by unfold maxLen; omega) (by omega) (by simp; omega) ?_; intro v8 w8 hown8 hgrow8 _ hat8; obtain ⟨b8,c8,rfl,_,_,_⟩ := own_shape hown8; have t6 : Blk w8 (w.heap.size + 1 + 1 + 1) 35 #[.slice sa acc'.length sc] := (HS6.out.b6.alloc _).grown hgrow8 (fun j hj => own_ne HS6.out.row HS6.out.b6 (by decide) j hj); have d6 : w8.cell? ⟨w.heap.size + 1 + 1 + 1, 0,none⟩ = some (.slice sa acc'.length sc) := t6.cell 0; have f6 : w8.frozen? ⟨w.heap.size + 1 + 1 + 1, 0,none⟩ = false := t6.frozen 0)
          have hbA : Below w6.heap.size w6 (w6.alloc (.cells #[.int .i64 k2] 3)) := (Below.refl _ w6).alloc (Nat.le_refl _) _
          obtain ⟨hSz,oZ⟩ := (HS6.out.below hbA hF hxF hxl).grow hxl hgrow8 hown8 rfl
          have oMA : Off M W1 (w6.alloc (.cells #[.int .i64 k2] 3)) := HM6.out.trans (Off.of_below hbA)
          have oMZ := oMA.trans (oZ.mono (fun k _ hk => hk.elim (fun e => e ▸ m3) (fun e => (h5 k e).1)))
          have hszA : (w6.alloc (.cells #[.int .i64 k2] 3)).heap.size = w6.heap.size + 1 := by simp
          have hszZ := oZ.size
          refine ⟨oMZ,⟨_,_,d,hSz,fun h => (by cases h),fun _ => ⟨hil2,HSEA1.out.yes HIX.out HZE.out hmm⟩,⟨⟨.inl m1, .inl m2, .inl m3, .inl m4, .inl m5⟩,fun k hk => hk.elim (m6 k) (fun h => by omega)⟩,fun k hk => ?_⟩⟩
          rcases hat8 with e8 | e8
          ·rw [e8] at hk
           exact ⟨.inl (h5 k hk).1,(h5 k hk).2⟩
          ·have hkl := own_tagged hSz.row hk
           obtain ⟨_,cs,hc⟩ := hkl
           have hkz := (Array.getElem?_eq_some_iff.1 hc).1
           rw [e8] at hk
           simp only [Option.some.injEq] at hk
           exact ⟨.inr ⟨by omega,hkz⟩,by omega⟩
         ·gi_wp2_with (refine ⟨trivial, ?_⟩; gi_at_call 90; refine (CallsIn.inRound l (callsIn_wide.2 hgm)).mono ?_; rintro e3 w6 ⟨f2,rfl,hf2,hb6⟩; have hf2' : f2 = false := (by cases f2 with | false => rfl | true => exact absurd (hf2.1 rfl) hmm); subst hf2')
          have oM6 : Off M W1 w6 := HM3.out.trans (Off.of_below hb6)
          exact ⟨oM6,⟨sv',acc',d,HS3.out.below hb6 hF hxF hxl,fun h => (by cases h),fun _ => ⟨hil2,HSEA1.out.no hmm⟩,⟨⟨.inl m1, .inl m2, .inl m3, .inl m4, .inl m5⟩,fun k hk => hk.elim (m6 k) (fun h => by omega)⟩,fun k hk => ⟨.inl (h5 k hk).1,(h5 k hk).2⟩⟩⟩
        ·have hft : f = false := by
          cases f with
          | false => rfl
          | true => exact absurd (hf.1 rfl) hme
         subst hft
         have HNM : Hid (¬ Meets (inWin r) d) := fun h => hme (HMS.out.2 h)
         have a0 : W3.cell? ⟨B7, 0,none⟩ = some (.int .i64 (d.1 : Int)) := HS3.out.b7.cell 0
         have a1 : W3.cell? ⟨B7, 1,none⟩ = some (.int .i64 (d.2 : Int)) := HS3.out.b7.cell 1
         have hend := end_any W3.drew d hd
         have hcl : cend d ≤ 4294967296 := by have := cell_top hd; unfold cend; have h9 := this.2; have h8 := this.1; rw [Nat.add_mul,Nat.one_mul, ← h9] at h8; exact h8
         obtain ⟨ce,hce⟩ : ∃ ce,cend d = ce := ⟨_,rfl⟩
         rw [hce] at hend hcl
         have b7l3 := HS3.out.b7.lt
         have b8l3 := HS3.out.b8.lt
         clear hf hme HMS
         gi_upto_region 12 with fail
         gi_cut [] from 63 (fun wx => ∃ c2 more2,NextC r ce c2 more2 ∧ Sb w A x t dead r rs B7 B8 sv' acc' c2 more2 wx ∧ Off M W1 wx)
         case first =>
          have hmx : Tryz.prog.follows .mixedOrders = true := by kernel_rfl
          refine wpIn_calm ?_
          gi_region_with_o (first
           | (refine ⟨trivial, ?_⟩; gi_at_call 92; refine (CallsIn.inRound l (callsIn_wide.2 hend)).mono ?_; rintro e2 w4 ⟨rfl,hb4⟩; have hb4' : Below W3.heap.size W3 w4 := ((Below.refl _ W3).drew).trans hb4; have y0 : w4.cell? ⟨w.heap.size, 0,none⟩ = some (.int .i64 (r.a : Int)) := (hb4'.cell (p := ⟨w.heap.size, 0,none⟩) b3l3).trans r0; have y1 : w4.cell? ⟨w.heap.size, 1,none⟩ = some (.int .i64 (r.b : Int)) := (hb4'.cell (p := ⟨w.heap.size, 1,none⟩) b3l3).trans r1; have y2 : w4.cell? ⟨w.heap.size, 2,none⟩ = some (.int .i64 (r.c : Int)) := (hb4'.cell (p := ⟨w.heap.size, 2,none⟩) b3l3).trans r2; have y3 : w4.cell? ⟨w.heap.size, 3,none⟩ = some (.int .i64 (r.d : Int)) := (hb4'.cell (p := ⟨w.heap.size, 3,none⟩) b3l3).trans r3)
           | (refine ⟨trivial, ?_⟩; gi_at_call 86; refine (CallsIn.inRound l (callsIn_wide.2 (nextCell_any _ ce hcl r hr))).mono ?_; rintro e3 w5 ⟨c2,more2,rfl,hNC2,hb5⟩; have hSb5 := (HS3.out.below hb4' hF hxF hxl).below hb5 hF hxF hxl; have z70 : w5.cell? ⟨B7, 0,none⟩ = some (.int .i64 (d.1 : Int)) := hSb5.b7.cell 0; have z71 : w5.cell? ⟨B7, 1,none⟩ = some (.int .i64 (d.2 : Int)) := hSb5.b7.cell 1; have z80 : w5.cell? ⟨B8, 0,none⟩ = some (.bool true) := hSb5.b8.cell 0; have g70 : w5.frozen? ⟨B7, 0,none⟩ = false := hSb5.b7.frozen 0; have g71 : w5.frozen? ⟨B7, 1,none⟩ = false := hSb5.b7.frozen 1; have g80 : w5.frozen? ⟨B8, 0,none⟩ = false := hSb5.b8.frozen 0; have n87 : B8 ≠ B7 := blk_ne hSb5.b8 hSb5.b7 (by decide); have HS5 : Hid (Sb w A x t dead r rs B7 B8 sv' acc' d true w5) := hSb5; clear hSb5))
          all_goals gi_wp2
          all_goals gi_meet
          all_goals
           have o7 : Off (fun k => k = B7 ∨ k = B8) w5 (((w5.setCell ⟨B7, 0,none⟩ (.int .i64 (c2.1 : Int))).setCell ⟨B7, 1,none⟩ (.int .i64 (c2.2 : Int))).setCell ⟨B8, 0,none⟩ (.bool more2)) := (((Off.refl _ w5).setCell _ (.inl (.inl rfl))).setCell _ (.inl (.inl rfl))).setCell _ (.inl (.inr rfl))
           refine ⟨c2,more2,hNC2,HS5.out.put78 c2 more2 hxl o7 (((HS5.out.b7.set 0 _).set 1 _).other (Ne.symm n87) 0 _) (((HS5.out.b8.other n87 0 _).other n87 1 _).set 0 _), ?_⟩
           have oo : Off M W1 w5 := (HM3.out.trans (Off.of_below hb4')).trans (Off.of_below hb5)
           exact oo.trans (o7.mono (fun k _ hk => hk.elim (fun e => e ▸ m4) (fun e => e ▸ m5)))
         case rest =>
          obtain ⟨c2,more2,hNC2,hSb9,oM9⟩ := hcut
          have HS9 : Hid (Sb w A x t dead r rs B7 B8 sv' acc' c2 more2 wc) := hSb9
          have HNC : Hid (NextC r ce c2 more2) := hNC2
          have HM9 : Hid (Off M W1 wc) := oM9
          clear hSb9 hNC2 oM9 hend
          gi_wp2
          refine ⟨HM9.out, .inr (.inr ⟨rfl,rfl,sv',acc',c2,more2,HS9.out,hown5, ?_⟩)⟩
          have hnc := HNC.out
          rw [← hce] at hnc
          cases more2 with
          | true =>
           obtain ⟨q1,q2⟩ := Sea.leap HIX.out HPRE.out HSEA1.out hd rfl HNM.out hnc
           rw [HL.out] at q2
           exact .inl ⟨rfl,(nextC_ok hnc).1,q1,q2⟩
          | false => exact .inr ⟨rfl,Sea.none HSEA1.out HZR.out hd rfl HNM.out hnc⟩
    case done =>
     rintro M W1 ⟨sv',acc',c',h1,h2,h3,h4,h5⟩ hE hD
     have hdd : dd = false := by
      cases dd with
      | false => rfl
      | true => have := h2 rfl; simp at this
     subst hdd
     have hln : (if false = true then [zeroT] else oks L).length = L.length := by simp [oks]
     rw [hln] at h3
     have HM : Hid (Sb w A x t dead r (Wc.heap.size :: rs) B7 B8 sv' acc' c' true W1) := h1.mark hD hwc (fun h => by have := lrs _ h; omega)
     have HS3 : Hid (Sea r tb es acc' []) := by have := (h3 rfl).2; rw [List.drop_length] at this; exact this
     have HE : Hid (Sx n W1) := hE
     clear h1 h2 h3 h4 h5 hln hE hD
     gi_wp2
     exact ⟨_,_,_,_,_,_,_,_,_,_,_,_,_,_,_,_,_,_,_,_,_,_,_,_,_,_,_,_,_,_,_,_,_,_,_,_,_,_,_,_,_,_,_,_,_,_,_,_,_,_,_,_,_,_,_,_,_,_,_,rfl,HM.out,⟨n,hnl,HE.out⟩,rfl,HS3.out⟩
    case stop =>
     rintro c1 i W1 hi (⟨rfl,h1,h2,h3,h4,h5,h6⟩ | ⟨rfl,h1,sv',acc',c',h2,h3,h4⟩ | ⟨rfl,h1,sv',acc',c',more',h2,h3,h4⟩) hE hD
     ·have HE : Hid (Sx n W1) := hE
      have HR : Hid (Off A.F w W1 ∧ Blk W1 (w.heap.size + 1) 35 #[.slice none 0 0] ∧ Blk W1 (w.heap.size + 1 + 1) 26 #[.int .i64 4] ∧ (Wc.heap.size :: rs).Nodup ∧ (∀ k ∈ Wc.heap.size :: rs,W1.heap[k]? = some (.deferred (some [])) ∧ w.heap.size ≤ k)) := ⟨h2,h3,h4,List.nodup_cons.2 ⟨fun h => by have := lrs _ h; omega,h5⟩,fun j hj => (List.mem_cons.1 hj).elim (fun e => e ▸ ⟨hD,hwc⟩) (h6 j)⟩
      clear h2 h3 h4 h5 h6 hE hD
      gi_wp2
      exact ⟨_,_,rfl,rfl,rfl,HR.out.1,⟨n,hnl,HE.out⟩,h1,HR.out.2⟩
     ·have HM : Hid (Sb w A x t dead r (Wc.heap.size :: rs) B7 B8 sv' acc' c' true W1) := h2.mark hD hwc (fun h => by have := lrs _ h; omega)
      have HS3 : Hid (Sea r tb es acc' []) := h4
      have HE : Hid (Sx n W1) := hE
      clear h2 h3 h4 hE hD
      gi_wp2
      exact ⟨_,_,_,_,_,_,_,_,_,_,_,_,_,_,_,_,_,_,_,_,_,_,_,_,_,_,_,_,_,_,_,_,_,_,_,_,_,_,_,_,_,_,_,_,_,_,_,_,_,_,_,_,_,_,_,_,_,_,_,rfl,HM.out,⟨n,hnl,HE.out⟩,h1,HS3.out⟩
     ·have HM : Hid (Sb w A x t dead r (Wc.heap.size :: rs) B7 B8 sv' acc' c' more' W1) := h2.mark hD hwc (fun h => by have := lrs _ h; omega)
      have HS3 : Hid ((more' = true ∧ CellOk c' ∧ Sea r tb es acc' (frm ((place c' : Int), 0) es) ∧ (frm ((place c' : Int), 0) es).length < L.length) ∨ (more' = false ∧ Sea r tb es acc' [])) := h4
      have HE : Hid (Sx n W1) := hE
      have hln := HN2.out
      clear h2 h3 h4 hE hD
      gi_wp2
      refine HKK.out _ _ ?_
      rcases HS3.out with ⟨e1,e2,e3,e4⟩ | ⟨e1,e2⟩
      ·exact ⟨(frm ((place c' : Int), 0) es).length + 1,by omega,HJ.out _ _ _ ⟨_,_,_,_,_,_,_,_,_,_,_,_,_,_,_,_,_,_,_,_,_,_,_,_,_,_,_,_,_,_,_,_,_,_,_,_,_,_,_,_,_,_,_,_,_,_,_,_,_,_,_,_,_,_,_,_,_,_,_,rfl,HM.out, .inl ⟨e1,hgo h1 n _ _ hnl (by omega) HE.out,e2,fun _ => e3,rfl⟩⟩⟩
      ·exact ⟨0,by omega,HJ.out _ _ _ ⟨_,_,_,_,_,_,_,_,_,_,_,_,_,_,_,_,_,_,_,_,_,_,_,_,_,_,_,_,_,_,_,_,_,_,_,_,_,_,_,_,_,_,_,_,_,_,_,_,_,_,_,_,_,_,_,_,_,_,_,rfl,HM.out, .inr ⟨e1,h1,⟨n,hnl,HE.out⟩,e2,rfl⟩⟩⟩
  ·clear hn
   have HSE : Hid (Sea r tb es acc []) := hse
   clear hse hSb
   gi_wp2
   exact ⟨_,_,_,_,_,_,_,_,_,_,_,_,_,_,_,_,_,_,_,_,_,_,_,_,_,_,_,_,_,_,_,_,_,_,_,_,_,_,_,_,_,_,_,_,_,_,_,_,_,_,_,_,_,_,_,_,_,_,_,rfl,HSb.out,hsx,hdd,HSE.out⟩
 case after =>
  intro e a W h
  cases e with
  | normal =>
   obtain ⟨u9,u10,u11,u12,u13,u14,u15,u16,u17,u18,u19,u20,u21,u22,u23,u24,u25,u26,u27,u28,u29,u30,u31,u32,u33,u34,u35,u36,u37,u38,u39,u40,u41,u42,u43,u44,u45,u46,u47,u48,u49,u50,u51,u52,u53,u54,u55,u56,u57,u58,u59,u60,u61,u62,rs,sv,acc,c,more,rfl,hSb,hsx,hdd,hse⟩ := h
   refine (show Code.wpIn _ _ _ _ _ _ _ from ?_)
   subst hdd
   have c6 : W.cell? ⟨w.heap.size + 1 + 1 + 1, 0,none⟩ = some sv := hSb.b6.cell 0
   have hlen : acc.length ≤ 1000000 := by have := hse.len; simp at this; omega
   have hso := sortI_any W w.heap.size sv acc hSb.row (by omega)
   have HSb : Hid (Sb w A x t dead r rs B7 B8 sv acc c more W) := hSb
   have HSE : Hid (Sea r tb es acc []) := hse
   have n4 : sv.ownBlock ≠ some (w.heap.size + 1) := fun h => own_ne hSb.row hSb.b4 (by decide) _ h rfl
   have n5 : sv.ownBlock ≠ some (w.heap.size + 1 + 1) := fun h => own_ne hSb.row hSb.b5 (by decide) _ h rfl
   have n6 : sv.ownBlock ≠ some (w.heap.size + 1 + 1 + 1) := fun h => own_ne hSb.row hSb.b6 (by decide) _ h rfl
   clear hSb hse HSEA HSB HC HST
   gi_upto_region 16 with (refine ⟨trivial, ?_⟩; gi_at_call 93; refine (callsIn_wide.2 hso).mono ?_; rintro e w3 ⟨rfl,hrow3,o3⟩)
   have hrow3' : w3.ownsRow w.heap.size 3 1 sv (acc.mergeSort fun x y => decide (x ≤ y)).length (intsV (acc.mergeSort fun x y => decide (x ≤ y))) := by rw [List.length_mergeSort]; exact hrow3
   have hcm := compact_any w3 w.heap.size sv _ hrow3' (by rw [List.length_mergeSort]; omega)
   obtain ⟨ids,hids⟩ : ∃ ids,Lib.compact (acc.mergeSort fun x y => decide (x ≤ y)) = ids := ⟨_,rfl⟩
   rw [hids] at hcm
   have HIDS : Hid (Lib.compact (acc.mergeSort fun x y => decide (x ≤ y)) = ids) := hids
   clear hids
   have k6 := HSb.out.b6.off o3 n6
   have d6 : w3.cell? ⟨w.heap.size + 1 + 1 + 1, 0,none⟩ = some sv := k6.cell 0
   have HO3 : Hid (Off (fun k => sv.ownBlock = some k) W w3) := o3
   have k4 := HSb.out.b4.off o3 n4
   have k5 := HSb.out.b5.off o3 n5
   clear hso hrow3 hrow3' o3 k6 c6
   gi_wp2_with (refine ⟨trivial, ?_⟩; gi_at_call 94; refine (callsIn_wide.2 hcm).mono ?_; rintro e w4 ⟨v',rfl,hrow4,hown4,o4⟩; obtain ⟨va,vc,rfl,_,_,_⟩ := own_shape hrow4; have q4 := k4.off o4 n4; have q5 := k5.off o4 n5; have e4 : w4.cell? ⟨w.heap.size + 1, 0,none⟩ = some (.slice none 0 0) := q4.cell 0; have e5 : w4.cell? ⟨w.heap.size + 1 + 1, 0,none⟩ = some (.int .i64 0) := q5.cell 0; have f4 : w4.frozen? ⟨w.heap.size + 1, 0,none⟩ = false := q4.frozen 0; have f5 : w4.frozen? ⟨w.heap.size + 1 + 1, 0,none⟩ = false := q5.frozen 0)
   obtain ⟨W5,hW5⟩ : ∃ W5,(w4.setCell ⟨w.heap.size + 1, 0,none⟩ (.slice va ids.length vc)).setCell ⟨w.heap.size + 1 + 1, 0,none⟩ (.int .i64 0) = W5 := ⟨_,rfl⟩
   have z4 : Blk W5 (w.heap.size + 1) 35 #[(.slice va ids.length vc)] := by rw [← hW5]; exact (q4.set 0 (.slice va ids.length vc)).other (by omega) 0 _
   have z5 : Blk W5 (w.heap.size + 1 + 1) 26 #[.int .i64 0] := by rw [← hW5]; exact (q5.other (by omega) 0 (.slice va ids.length vc)).set 0 _
   have o5 : Off (fun k => k = w.heap.size + 1 ∨ k = w.heap.size + 1 + 1) w4 W5 := by rw [← hW5]; exact ((Off.refl _ w4).setCell (.slice va ids.length vc) (.inl (.inl rfl))).setCell _ (.inl (.inr rfl))
   rw [hW5]
   have oW4 : Off (fun k => sv.ownBlock = some k) W w4 := HO3.out.trans o4
   have hmk : ∀ k ∈ rs,W5.heap[k]? = some (.deferred (some [])) := fun k hm => by
    have hm' := HSb.out.mks k hm
    have hl := (Array.getElem?_eq_some_iff.1 hm').1
    have h4 : w4.heap[k]? = some (.deferred (some [])) := (oW4.block k hl (fun hg => by obtain ⟨_,cs,hc⟩ := own_tagged HSb.out.row hg; exact mk_ne HSb.out hc hm)).trans hm'
    refine (o5.block k (Array.getElem?_eq_some_iff.1 h4).1 (fun hg => ?_)).trans h4
    rcases hg with hg | hg
    ·subst hg; exact mk_ne HSb.out HSb.out.b4 hm
    ·subst hg; exact mk_ne HSb.out HSb.out.b5 hm
   have hr5 := own_offv hrow4 o5 (fun g hg hf => hf.elim (fun e => n4 (e ▸ hown4 g hg)) (fun e => n5 (e ▸ hown4 g hg)))
   refine leaves_marks rs W5 HSb.out.nd hmk (fun W' ho => ?_)
   have y4 : Blk W' (w.heap.size + 1) 35 #[(.slice va ids.length vc)] := z4.off ho (fun hm => mk_ne HSb.out HSb.out.b4 hm)
   have y5 : Blk W' (w.heap.size + 1 + 1) 26 #[.int .i64 0] := z5.off ho (fun hm => mk_ne HSb.out HSb.out.b5 hm)
   have d4 : W'.cell? ⟨w.heap.size + 1, 0,none⟩ = some (.slice va ids.length vc) := y4.cell 0
   have d5 : W'.cell? ⟨w.heap.size + 1 + 1, 0,none⟩ = some (.int .i64 0) := y5.cell 0
   have hr' := own_offv hr5 ho (fun g hg hm => by have e1 := hmk g hm; obtain ⟨_,cs,hc⟩ := own_tagged hr5 hg; rw [e1] at hc; cases hc)
   have ow := HSb.out.off.step oW4 (fun k hk hg => by have := (own_tagged HSb.out.row hg).1; omega)
   have ow5 := ow.step o5 (fun k hk hg => by omega)
   have ow6 := ow5.step ho (fun k hk hg => by have := HSb.out.ger k hg; omega)
   have os : Off (fun k => w.heap.size ≤ k) W W' := ((oW4.mono (fun k _ hg => (own_tagged HSb.out.row hg).1)).trans (o5.mono (fun k _ hg => by omega))).trans (ho.mono (fun k _ hg => HSb.out.ger k hg))
   obtain ⟨i1,i2⟩ := idsOf acc
   rw [HIDS.out] at i1 i2
   refine ⟨.tuple #[(.slice va ids.length vc), .int .i64 0],by simp [results,Tryz.results62,go_sem,d4,d5],ow6,⟨hsx.choose,hsx.choose_spec.1,hSx _ W W' hsx.choose_spec.2 os⟩, .inr ⟨rfl,(.slice va ids.length vc),_,rfl,⟨fun x => (i1 x).trans (HSE.out.done (hI (by simp)) hr x),i2⟩,hr'⟩⟩
  | ret =>
   obtain ⟨tmps,rs,rfl,t4,t5,h1,h2,h3,h4,h5,h6,h7⟩ := h
   refine leaves_marks rs W h6 (fun k hk => (h7 k hk).1) (fun W' ho => ?_)
   have b4 : Blk W' (w.heap.size + 1) 35 #[.slice none 0 0] := h4.off ho (fun hm => by have e1 := (h7 _ hm).1; have e2 : W.heap[w.heap.size + 1]? = _ := h4; rw [e1] at e2; cases e2)
   have b5 : Blk W' (w.heap.size + 1 + 1) 26 #[.int .i64 4] := h5.off ho (fun hm => by have e1 := (h7 _ hm).1; have e2 : W.heap[w.heap.size + 1 + 1]? = _ := h5; rw [e1] at e2; cases e2)
   have d4 : W'.cell? ⟨w.heap.size + 1, 0,none⟩ = some (.slice none 0 0) := b4.cell 0
   have d5 : W'.cell? ⟨w.heap.size + 1 + 1, 0,none⟩ = some (.int .i64 4) := b5.cell 0
   refine ⟨.tuple #[.slice none 0 0, .int .i64 4],by simp [results,Tryz.results62,go_sem,t4,t5,d4,d5], ?_⟩
   exact ⟨h1.step ho (fun k hk hm => by have := (h7 k hm).2; omega),⟨h2.choose,h2.choose_spec.1,hSx _ W W' h2.choose_spec.2 (ho.mono (fun k _ hm => (h7 k hm).2))⟩, .inl ⟨h3,rfl⟩⟩
  | _ => exact h.elim
end
end Go.Proofs.YtdgbgmffpcooeaaGreat
