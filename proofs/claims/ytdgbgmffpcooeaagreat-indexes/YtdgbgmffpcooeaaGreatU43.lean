/- Xa1 Xr1 Xr2 Xr3 Xb1 -/
import Derived.Test.YtdgbgmffpcooeaaGreatU42
namespace Go.Proofs.YtdgbgmffpcooeaaGreat
open Go.RowKit Go.Lib
section
theorem wpList_append_src {P : Program} (w : World) {ops : Array Oper} {rest : List Oper} {o : Oper} {a : Act} {Q : Exit → Act → World → Prop} (hgd : o.guard = none) (s x : Operand) (t : TypeId)
  (ho : o.op = .call { callee := .builtin .append,args := #[s,x],argTypes := #[t,t] })
  (base : Nat) (e : TypeId) (i : TypeInfo) (z : Value) (size bytes : Nat) (ht : P.underlying t = some (.slice e)) (hi : P.info? e = some i) (hz : i.zero = some z)
  (hsize : i.size = size) (hby : i.bytes = bytes) (hzs : z.cells.size = size) (hsz : 0 < size)
  (v : Value) (n : Nat) (xs : List Value) (hs : a.eval s = v) (hown : w.ownsRow base e size v n xs)
  (u : Value) (m : Nat) (news : List Value) (hx : a.eval x = u) (hsrc : Src w size u m news)
  (h63 : n + m ≤ maxLen) (hbytes : (n + m) * bytes ≤ 140737488355328) (hbase : base ≤ w.heap.size)
  (h : ∀ va vc w',w'.ownsRow base e size (.slice va (n + m) vc) (n + m) (xs ++ news) → w.grownBy w' v.ownBlock → wpList P ops Q rest (a.put o.dst (.slice va (n + m) vc)) w') : wpList P ops Q (o :: rest) a w := by
 obtain ⟨hlen,hone,hat⟩ := hsrc
 rcases hat with ⟨rfl,rfl⟩ | ⟨ad,c,rfl,hcs⟩
 ·have h0 : news = [] := List.eq_nil_of_length_eq_zero (by simpa using hlen)
  subst h0
  obtain ⟨va,vc,rfl,_,_,_⟩ := own_shape hown
  exact wpList_append_own_none hgd s x t ho base e i size ht hi _ n xs hs hown hx (h va vc w (by simpa using hown) (World.grownBy.refl _ _))
 ·refine wpList_append_own w hgd s x t ho base e i z size bytes ht hi hz hsize hby hzs hsz v n xs hs hown ad m c news hx hlen (fun j u hu => (hcs j u hu).2) hone h63 hbytes hbase fun v' w' h2 h3 _ => ?_
  obtain ⟨va,vc,rfl,_,_,_⟩ := own_shape h2
  exact h va vc w' h2 h3
theorem Src.of_own {W : World} {base : Nat} {e : TypeId} {size : Nat} {v : Value} {n : Nat} {xs : List Value} (h : W.ownsRow base e size v n xs) (ho : ∀ u ∈ xs,u.oneCell' = true) : Src W size v n xs := by
 refine ⟨h.1,ho, ?_⟩
 obtain ⟨_,⟨h1,h2⟩ | ⟨g,cap,cur,h1,_,h3,h4,h5,h6,h7⟩⟩ := h
 ·exact .inl ⟨h1,h2⟩
 ·refine .inr ⟨⟨g, 0,none⟩,cap,h1,fun j u hu => ⟨(Array.getElem?_eq_some_iff.1 h3).1, ?_⟩⟩
  have hj := (List.getElem?_eq_some_iff.1 hu).1
  rw [Addr.add_mid]
  simp only [World.cell?,h3,Nat.zero_add]
  rw [← Array.getElem?_toList]
  rw [← h7] at hu
  rw [List.getElem?_take] at hu
  split at hu
  ·exact hu
  ·cases hu
section
variable {id : Int} {tb : List (Int × Box)} {i : Nat} {v v0 : Box}
structure AtP (id : Int) (tb : List (Int × Box)) (i : Nat) : Prop where
 le : i ≤ tb.length
 low : ∀ t ∈ tb.take i,t.1 < id
 ge : ∀ x,tb[i]? = some x → id ≤ x.1
theorem AtP.high (h : AtP id tb i) (hu : Ups tb) (hno : ∀ x,tb[i]? = some x → x.1 ≠ id) : ∀ t ∈ tb.drop i,id < t.1 := by
 intro t ht
 by_cases hi : i < tb.length
 ·rw [List.drop_eq_getElem_cons hi] at ht
  have h0 := h.ge _ (List.getElem?_eq_getElem hi)
  have h1 := hno _ (List.getElem?_eq_getElem hi)
  rcases List.mem_cons.1 ht with rfl | ht
  ·omega
  ·have hu2 : (tb.drop i).Pairwise fun a b => a.1 < b.1 := hu.sublist (List.drop_sublist i tb)
   rw [List.drop_eq_getElem_cons hi] at hu2
   have := (List.pairwise_cons.1 hu2).1 t ht
   omega
 ·rw [List.drop_eq_nil_of_le (by omega)] at ht; cases ht
theorem AtP.none (h : AtP id tb i) (hu : Ups tb) (hno : ∀ x,tb[i]? = some x → x.1 ≠ id) : tget id tb = none := by
 refine tget_none.2 fun t ht => ?_
 rw [← List.take_append_drop i tb] at ht
 rcases List.mem_append.1 ht with g | g
 ·have := h.low t g; omega
 ·have := h.high hu hno t g; omega
theorem AtP.new (h : AtP id tb i) (hu : Ups tb) (hno : ∀ x,tb[i]? = some x → x.1 ≠ id) : tput id v tb = tb.take i ++ (id,v) :: tb.drop i := by
 have hh := h.high hu hno
 unfold tput
 conv => lhs; rw [← List.take_append_drop i tb]
 rw [List.filter_append,List.filter_append,f_all (tb.take i) (fun t ht => decide_eq_true (h.low t ht)),f_no (tb.drop i) (fun t ht => by have := hh t ht; simp; omega),f_no (tb.take i) (fun t ht => by have := h.low t ht; simp; omega),f_all (tb.drop i) (fun t ht => decide_eq_true (hh t ht))]
 simp
theorem at_split (hx : tb[i]? = some (id,v0)) : tb = tb.take i ++ (id,v0) :: tb.drop (i + 1) := by
 have hi := (List.getElem?_eq_some_iff.1 hx).1
 have he : tb[i] = (id,v0) := (List.getElem?_eq_some_iff.1 hx).2
 conv => lhs; rw [← List.take_append_drop i tb,List.drop_eq_getElem_cons hi,he]
theorem AtP.some (hu : Ups tb) (hx : tb[i]? = some (id,v0)) : tget id tb = some v0 := (tget_some hu).2 (List.mem_of_getElem? hx)
theorem at_low (hu : Ups tb) (hx : tb[i]? = some (id,v0)) : (∀ t ∈ tb.take i,t.1 < id) ∧ ∀ t ∈ tb.drop (i + 1),id < t.1 := by
 have hu2 := hu
 rw [at_split hx] at hu2
 obtain ⟨_,h2,h3⟩ := List.pairwise_append.1 hu2
 exact ⟨fun t ht => h3 t ht _ List.mem_cons_self,(List.pairwise_cons.1 h2).1⟩
theorem at_old (hu : Ups tb) (hx : tb[i]? = some (id,v0)) : tput id v tb = tb.take i ++ (id,v) :: tb.drop (i + 1) := by
 obtain ⟨h1,h2⟩ := at_low hu hx
 unfold tput
 conv => lhs; rw [at_split hx]
 rw [List.filter_append,List.filter_append,List.filter_cons,List.filter_cons,if_neg (by simp),if_neg (by simp),f_all (tb.take i) (fun t ht => decide_eq_true (h1 t ht)),f_no (tb.drop (i + 1)) (fun t ht => by have := h2 t ht; simp; omega),f_no (tb.take i) (fun t ht => by have := h1 t ht; simp; omega),f_all (tb.drop (i + 1)) (fun t ht => decide_eq_true (h2 t ht))]
 simp
theorem at_del (hu : Ups tb) (hx : tb[i]? = some (id,v0)) : tdel id tb = tb.take i ++ tb.drop (i + 1) := by
 obtain ⟨h1,h2⟩ := at_low hu hx
 unfold tdel
 conv => lhs; rw [at_split hx]
 rw [List.filter_append,List.filter_cons,if_neg (by simp),f_all (tb.take i) (fun t ht => by have := h1 t ht; simp; omega),f_all (tb.drop (i + 1)) (fun t ht => by have := h2 t ht; simp; omega)]
theorem rowM_set (a r : List (Int × Box)) (id : Int) (x y : Box) : ((((rowM (a ++ (id,x) :: r)).set (a.length * 5 + 1) (.int .i64 (y.a : Int))).set (a.length * 5 + 2) (.int .i64 (y.b : Int))).set (a.length * 5 + 3) (.int .i64 (y.c : Int))).set (a.length * 5 + 4) (.int .i64 (y.d : Int)) = rowM (a ++ (id,y) :: r) := by
 have hl := rowM_len a
 rw [rowM_append,rowM_append]
 show (((((rowM a ++ (entM (id,x) ++ rowM r)).set _ _).set _ _).set _ _).set _ _) = rowM a ++ (entM (id,y) ++ rowM r)
 rw [List.set_append_right _ _ (by omega),List.set_append_right _ _ (by omega),List.set_append_right _ _ (by omega),List.set_append_right _ _ (by omega),hl,show a.length * 5 + 1 - a.length * 5 = 1 by omega,show a.length * 5 + 2 - a.length * 5 = 2 by omega,show a.length * 5 + 3 - a.length * 5 = 3 by omega,show a.length * 5 + 4 - a.length * 5 = 4 by omega]
 rfl
theorem rowM_one (tb : List (Int × Box)) : ∀ u ∈ rowM tb,u.oneCell' = true := fun u hu => by
 obtain ⟨x,_,hx⟩ := List.mem_flatMap.1 hu
 simp only [entM,List.mem_cons,List.not_mem_nil,or_false] at hx
 rcases hx with rfl | rfl | rfl | rfl | rfl <;> rfl
theorem intsV_one (l : List Int) : ∀ u ∈ l.map (Value.int .i64),u.oneCell' = true := fun u hu => by
 obtain ⟨x,_,rfl⟩ := List.mem_map.1 hu; rfl
theorem rowM_drop (tb : List (Int × Box)) (i : Nat) : (rowM tb).drop (i * 5) = rowM (tb.drop i) := by
 induction i generalizing tb with
 | zero => simp
 | succ i ih =>
  cases tb with
  | nil => simp [rowM]
  | cons x r =>
   show (entM x ++ rowM r).drop ((i + 1) * 5) = rowM (r.drop i)
   rw [← ih r,show (i + 1) * 5 = (entM x).length + i * 5 by simp [entM]; omega,List.drop_append]
   simp
theorem rowM_take (tb : List (Int × Box)) (i : Nat) : (rowM tb).take (i * 5) = rowM (tb.take i) := by
 induction i generalizing tb with
 | zero => simp [rowM]
 | succ i ih =>
  cases tb with
  | nil => simp [rowM]
  | cons x r =>
   show (entM x ++ rowM r).take ((i + 1) * 5) = entM x ++ rowM (r.take i)
   rw [← ih r,show (i + 1) * 5 = (entM x).length + i * 5 by simp [entM]; omega,List.take_append,List.take_of_length_le (by omega),Nat.add_sub_cancel_left]
end
end
section
set_option maxRecDepth 100000 in
set_option maxHeartbeats 1000000 in
theorem rright_any (a b c d : Int) (w : World) :
  Calls Tryz.prog 64 #[.agg #[.int .i64 a, .int .i64 b, .int .i64 c, .int .i64 d]] w fun e w' => e = .returned (.bool (rightB a b c d)) ∧ Below w.heap.size w w' := by
 have hs : (¬ 0 ≤ a) ∨ (0 ≤ a ∧ ¬ a ≤ c) ∨ (0 ≤ a ∧ a ≤ c ∧ ¬ c < 65536) ∨ (0 ≤ a ∧ a ≤ c ∧ c < 65536 ∧ ¬ 0 ≤ b) ∨ (0 ≤ a ∧ a ≤ c ∧ c < 65536 ∧ 0 ≤ b ∧ ¬ b ≤ d) ∨ (0 ≤ a ∧ a ≤ c ∧ c < 65536 ∧ 0 ≤ b ∧ b ≤ d ∧ ¬ d < 65536) ∨ (0 ≤ a ∧ a ≤ c ∧ c < 65536 ∧ 0 ≤ b ∧ b ≤ d ∧ d < 65536) := by omega
 rcases hs with h1 | ⟨h1,h2⟩ | ⟨h1,h2,h3⟩ | ⟨h1,h2,h3,h4⟩ | ⟨h1,h2,h3,h4,h5⟩ | ⟨h1,h2,h3,h4,h5,h6⟩ | ⟨h1,h2,h3,h4,h5,h6⟩
 all_goals
  go_enter Tryz.func64,Tryz.ntmps64
  go_wp2
  go_ret
  refine ⟨ret_bool ?_,(Below.refl _ _).alloc (Nat.le_refl _) _⟩
  unfold rightB
  simp only [Bool.true_eq,Bool.false_eq,decide_eq_true_eq,decide_eq_false_iff_not]
  omega
def MeetP (a1 b1 c1 d1 a2 b2 c2 d2 : Int) (e : Ending) : Prop := ∃ f : Bool,e = .returned (.bool f) ∧ (f = true ↔ (max a1 a2 ≤ min c1 c2 ∧ max b1 b2 ≤ min d1 d2))
set_option maxRecDepth 100000 in
set_option maxHeartbeats 1000000 in
theorem rmeet_raw (a1 b1 c1 d1 a2 b2 c2 d2 : Int) (w : World) :
  Calls Tryz.prog 68 #[.agg #[.int .i64 a1, .int .i64 b1, .int .i64 c1, .int .i64 d1], .agg #[.int .i64 a2, .int .i64 b2, .int .i64 c2, .int .i64 d2]] w fun e w' => MeetP a1 b1 c1 d1 a2 b2 c2 d2 e ∧ Below w.heap.size w w' := by
 have HB : Hid (Below w.heap.size w ((w.alloc (.cells #[.int .i64 a1, .int .i64 b1, .int .i64 c1, .int .i64 d1] 34)).alloc (.cells #[.int .i64 a2, .int .i64 b2, .int .i64 c2, .int .i64 d2] 34))) := ((Below.refl _ w).alloc (Nat.le_refl _) _).alloc (by simp) _
 obtain ⟨m1,hm1⟩ : ∃ m,max a1 a2 = m := ⟨_,rfl⟩
 obtain ⟨m2,hm2⟩ : ∃ m,max b1 b2 = m := ⟨_,rfl⟩
 obtain ⟨m3,hm3⟩ : ∃ m,min c1 c2 = m := ⟨_,rfl⟩
 obtain ⟨m4,hm4⟩ : ∃ m,min d1 d2 = m := ⟨_,rfl⟩
 have HM : Hid (∀ f : Bool,(f = true ↔ (m1 ≤ m3 ∧ m2 ≤ m4)) → MeetP a1 b1 c1 d1 a2 b2 c2 d2 (.returned (.bool f))) := fun f hf => ⟨f,rfl,by rw [hm1,hm2,hm3,hm4]; exact hf⟩
 by_cases h1 : m1 ≤ m3
 ·by_cases h2 : m2 ≤ m4
  ·go_enter Tryz.func68,Tryz.ntmps68
   go_wp2
   go_ret
   exact ⟨HM.out true (by simp [h1,h2]),HB.out⟩
  ·go_enter Tryz.func68,Tryz.ntmps68
   go_wp2
   go_ret
   exact ⟨HM.out false (by simp [h2]),HB.out⟩
 ·go_enter Tryz.func68,Tryz.ntmps68
  go_wp2
  go_ret
  exact ⟨HM.out false (by simp; omega),HB.out⟩
theorem rmeet_any (w : World) (s r : Box) (hs : s.ok) :
  Calls Tryz.prog 68 #[.agg (boxC s), .agg (boxC r)] w fun e w' => e = .returned (.bool (decide ((both s r).ok))) ∧ Below w.heap.size w w' := by
 refine (rmeet_raw s.a s.b s.c s.d r.a r.b r.c r.d w).mono ?_
 rintro e w' ⟨⟨f,rfl,hf⟩,hb⟩
 refine ⟨ret_bool ?_,hb⟩
 obtain ⟨q1,q2,q3,q4⟩ := hs
 have key : (both s r).ok ↔ (max (s.a : Int) (r.a : Int) ≤ min (s.c : Int) (r.c : Int) ∧ max (s.b : Int) (r.b : Int) ≤ min (s.d : Int) (r.d : Int)) := by
  unfold Box.ok both
  simp only
  omega
 rw [Bool.eq_iff_iff,hf,decide_eq_true_iff]
 exact key.symm
structure RefX (W : World) (base R : Nat) (sv : Value) (tb : List (Int × Box)) : Prop where
 blk : Blk W R 88 #[sv]
 row : W.ownsRow base 128 5 sv tb.length (rowM tb)
theorem RefX.off {F : Nat → Prop} {W W' : World} {base R : Nat} {sv : Value} {tb : List (Int × Box)} (h : RefX W base R sv tb) (ho : Off F W W') (hR : ¬ F R) (hs : ∀ j,sv.ownBlock = some j → ¬ F j) : RefX W' base R sv tb := ⟨h.blk.off ho hR,own_offv h.row ho hs⟩
theorem RefX.below {W W' : World} {base R : Nat} {sv : Value} {tb : List (Int × Box)} (h : RefX W base R sv tb) (hb : Below W.heap.size W W') : RefX W' base R sv tb := h.off (F := fun _ => False) (Off.of_below hb) (fun h => h) (fun _ _ h => h)
theorem own_cellR {W : World} {base : Nat} {g cap : Nat} {tb : List (Int × Box)} (h : W.ownsRow base 128 5 (.slice (some ⟨g, 0,none⟩) tb.length cap) tb.length (rowM tb)) {i : Nat} {x : Int × Box} (hx : tb[i]? = some x) : ∀ j v,(entM x)[j]? = some v → W.cell? ⟨g,i * 5 + j,none⟩ = some v ∧ W.frozen? ⟨g,i * 5 + j,none⟩ = false := fun j v hv => by
 have hj : j < 5 := by have := (List.getElem?_eq_some_iff.1 hv).1; simpa [entM] using this
 have hi : i < tb.length := (List.getElem?_eq_some_iff.1 hx).1
 have := own_cell h (i * 5 + j) (by omega)
 rw [rowM_get hx j hj,hv] at this
 exact this
def thereB (id : Int) (tb : List (Int × Box)) (i : Nat) : Bool := decide (tb[i]?.map (·.1) = some id)
theorem there_yes {id : Int} {tb : List (Int × Box)} {i : Nat} (h : thereB id tb i = true) : ∃ v,tb[i]? = some (id,v) := by
 unfold thereB at h
 have h := of_decide_eq_true h
 cases hx : tb[i]? with
 | none => rw [hx] at h; cases h
 | some x => rw [hx] at h; cases h; exact ⟨x.2,rfl⟩
theorem there_no {id : Int} {tb : List (Int × Box)} {i : Nat} (h : thereB id tb i = false) : ∀ x,tb[i]? = some x → x.1 ≠ id := fun x hx e => by
 unfold thereB at h
 rw [hx] at h
 simp [e] at h
set_option maxRecDepth 100000 in
set_option maxHeartbeats 2000000 in
theorem place_ref (w : World) (base R : Nat) (sv : Value) (tb : List (Int × Box)) (h : RefX w base R sv tb) (hl : tb.length ≤ 1000000) (id : Int) :
  Calls Tryz.prog 63 #[.pointer (some ⟨R, 0,none⟩), .int .i64 id] w fun e w' => ∃ i : Nat,e = .returned (.tuple #[.int .i64 (i : Int), .bool (thereB id tb i)]) ∧ AtP id tb i ∧ Below w.heap.size w w' := by
 obtain ⟨sa,sc,rfl,_,_,_⟩ := own_shape h.row
 have c0 : w.cell? ⟨R, 0,none⟩ = some (.slice sa tb.length sc) := h.blk.cell 0
 have hRl := h.blk.lt
 have HH : Hid (w.ownsRow base 128 5 (.slice sa tb.length sc) tb.length (rowM tb)) := h.row
 clear h
 go_enter Tryz.func63,Tryz.ntmps63
 go_wp2
 go_loopw [6] (fun x wr => ∃ i : Nat,x = .int .i64 (i : Int) ∧ i ≤ tb.length ∧ (∀ t ∈ tb.take i,t.1 < id) ∧ wr = w) (fun x _ => tb.length - (intOf x).toNat)
 case atStart => exact ⟨0,rfl,Nat.zero_le _,fun t ht => by simp at ht,rfl⟩
 case round =>
  obtain ⟨i,rfl,hi,hlo,rfl⟩ := hrel
  by_cases hlt : i < tb.length
  ·have hlt' : (i : Int) < (tb.length : Int) := by omega
   obtain ⟨x,hx⟩ : ∃ x,tb[i]? = some x := ⟨_,List.getElem?_eq_getElem hlt⟩
   have hsa : ∃ g,sa = some ⟨g, 0,none⟩ := by
    obtain ⟨_,⟨e,hn⟩ | ⟨g,cap,cur,e,_⟩⟩ := HH.out
    ·omega
    ·cases e; exact ⟨g,rfl⟩
   obtain ⟨g,rfl⟩ := hsa
   have y0 : wr.cell? ⟨g,i * 5,none⟩ = some (.int .i64 x.1) := (own_cellR HH.out hx 0 _ rfl).1
   have hgl := (own_lt HH.out).2
   have HX : Hid (tb[i]? = some x) := hx
   have HLO : Hid (∀ t ∈ tb.take i,t.1 < id) := hlo
   have hth : thereB id tb i = decide (x.1 = id) := by unfold thereB; rw [hx]; simp
   have HTH : Hid (thereB id tb i = decide (x.1 = id)) := hth
   clear hx hlo hth
   by_cases he : x.1 < id
   ·go_wp2
    refine ⟨⟨i + 1,by go_num,by omega,fun t ht => ?_,trivial⟩,by simp [intOf]; omega⟩
    rw [take_get HX.out] at ht
    rcases List.mem_append.1 ht with g1 | g1
    ·exact HLO.out t g1
    ·rw [List.mem_singleton.1 g1]; exact he
   ·have he' : decide (x.1 < id) = false := decide_eq_false he
    have HA : Hid (AtP id tb i) := ⟨by omega,HLO.out,fun y hy => by have := HX.out; rw [hy] at this; cases this; omega⟩
    by_cases heq : x.1 = id
    ·have hq : (x.1 == id) = true := by simp [heq]
     go_wp2
     all_goals
      (try go_quiet (fail))
      (try go_wp2)
      go_ret2
      exact ⟨i,by rw [HTH.out,decide_eq_true heq]; rfl,HA.out,by first | exact Below.refl _ _ | exact below_drewN (Below.refl _ _) _⟩
    ·have hq : (x.1 == id) = false := by simp [heq]
     go_wp2
     all_goals
      (try go_quiet (fail))
      (try go_wp2)
      go_ret2
      exact ⟨i,by rw [HTH.out,decide_eq_false heq]; rfl,HA.out,by first | exact Below.refl _ _ | exact below_drewN (Below.refl _ _) _⟩
  ·have hlt' : decide ((i : Int) < (tb.length : Int)) = false := by simp; omega
   have hlt2 : decide (i < tb.length) = false := by simp; omega
   have hx : tb[i]? = none := List.getElem?_eq_none (by omega)
   have HA : Hid (AtP id tb i) := ⟨hi,hlo,fun y hy => by rw [hx] at hy; cases hy⟩
   have HTH : Hid (thereB id tb i = false) := by show _ = _; unfold thereB; rw [hx]; simp
   clear hx hlo
   go_wp2
   all_goals
    (try go_quiet (fail))
    (try go_wp2)
    go_ret2
    exact ⟨i,by rw [HTH.out]; rfl,HA.out,by first | exact Below.refl _ _ | exact below_drewN (Below.refl _ _) _⟩
theorem rcount_ref (w : World) (base R : Nat) (sv : Value) (tb : List (Int × Box)) (h : RefX w base R sv tb) :
  Calls Tryz.prog 32 #[.pointer (some ⟨R, 0,none⟩)] w fun e w' => e = .returned (.tuple #[.int .i64 (tb.length : Int), .int .i64 0]) ∧ w' = w := by
 obtain ⟨sa,sc,rfl,_,_,_⟩ := own_shape h.row
 have c0 : w.cell? ⟨R, 0,none⟩ = some (.slice sa tb.length sc) := h.blk.cell 0
 have hRl := h.blk.lt
 clear h
 go_enter Tryz.func32,Tryz.ntmps32
 go_wp2
 go_ret2
 exact ⟨rfl,rfl⟩
theorem rcount_nil (w : World) :
  Calls Tryz.prog 32 #[.pointer none] w fun e w' => e = .returned (.tuple #[.int .i64 0, .int .i64 1]) ∧ w' = w := by
 go_enter Tryz.func32,Tryz.ntmps32
 go_wp2
 go_ret2
 exact ⟨rfl,rfl⟩
end
section
def getR (id : Int) (tb : List (Int × Box)) : Box × Int := if idB id = true then foundR (tget id tb) else (zeroBox, 8)
theorem idB_false {id : Int} (h : idB id = false) : id < 0 ∨ 4611686018427387904 < id := by
 unfold idB at h
 simp at h
 omega
theorem idB_true {id : Int} (h : idB id = true) : 0 ≤ id ∧ id ≤ 4611686018427387904 := by unfold idB at h; simpa using h
theorem put4c {W : World} {B4 : Nat} {z0 z1 z2 z3 : Value} (h4 : Blk W B4 34 #[z0,z1,z2,z3]) (v0 v1 v2 v3 : Value) :
  Blk ((((W.setCell ⟨B4, 0,none⟩ v0).setCell ⟨B4, 1,none⟩ v1).setCell ⟨B4, 2,none⟩ v2).setCell ⟨B4, 3,none⟩ v3) B4 34 #[v0,v1,v2,v3] ∧ Off (fun k => k = B4) W ((((W.setCell ⟨B4, 0,none⟩ v0).setCell ⟨B4, 1,none⟩ v1).setCell ⟨B4, 2,none⟩ v2).setCell ⟨B4, 3,none⟩ v3) :=
 ⟨(((h4.set 0 v0).set 1 v1).set 2 v2).set 3 v3,((((Off.refl (fun k => k = B4) W).setCell v0 (.inl rfl)).setCell v1 (.inl rfl)).setCell v2 (.inl rfl)).setCell v3 (.inl rfl)⟩
set_option maxRecDepth 100000 in
set_option maxHeartbeats 2000000 in
theorem rget_ref (w : World) (base R : Nat) (sv : Value) (tb : List (Int × Box)) (h : RefX w base R sv tb) (hu : Ups tb) (hl : tb.length ≤ 1000000) (id : Int) :
  Calls Tryz.prog 33 #[.pointer (some ⟨R, 0,none⟩), .int .i64 id] w fun e w' => e = .returned (.tuple #[.agg (boxC (getR id tb).1), .int .i64 (getR id tb).2]) ∧ Below w.heap.size w w' := by
 obtain ⟨W1,hW1⟩ : ∃ W1,w.alloc (.cells #[.int .i64 0, .int .i64 0, .int .i64 0, .int .i64 0] 34) = W1 := ⟨_,rfl⟩
 have hb1 : Below w.heap.size w W1 := by rw [← hW1]; exact (Below.refl _ w).alloc (Nat.le_refl _) _
 have b1 : Blk W1 w.heap.size 34 #[.int .i64 0, .int .i64 0, .int .i64 0, .int .i64 0] := by rw [← hW1]; exact Blk.new w 34 _
 have h1 := h.below hb1
 have HW1 : Hid (w.alloc (.cells #[.int .i64 0, .int .i64 0, .int .i64 0, .int .i64 0] 34) = W1) := hW1
 have HBE : Hid (Below w.heap.size w W1) := hb1
 have hpl := place_ref W1 base R sv tb h1 hl id
 have HH1 : Hid (RefX W1 base R sv tb) := h1
 have HU : Hid (Ups tb) := hu
 clear hW1 h hu h1
 cases hid : idB id with
 | false =>
  have HG : Hid (getR id tb = (zeroBox, 8)) := by show _ = _; unfold getR; rw [hid]; simp
  have d0 : W1.cell? ⟨w.heap.size, 0,none⟩ = some (.int .i64 0) := b1.cell 0
  have d1 : W1.cell? ⟨w.heap.size, 1,none⟩ = some (.int .i64 0) := b1.cell 1
  have d2 : W1.cell? ⟨w.heap.size, 2,none⟩ = some (.int .i64 0) := b1.cell 2
  have d3 : W1.cell? ⟨w.heap.size, 3,none⟩ = some (.int .i64 0) := b1.cell 3
  have f0 : W1.frozen? ⟨w.heap.size, 0,none⟩ = false := b1.frozen 0
  have f1 : W1.frozen? ⟨w.heap.size, 1,none⟩ = false := b1.frozen 1
  have f2 : W1.frozen? ⟨w.heap.size, 2,none⟩ = false := b1.frozen 2
  have f3 : W1.frozen? ⟨w.heap.size, 3,none⟩ = false := b1.frozen 3
  have HB1 : Hid (Blk W1 w.heap.size 34 #[.int .i64 0, .int .i64 0, .int .i64 0, .int .i64 0]) := b1
  have hb := HBE.out.size
  clear hpl b1 hb1
  rcases idB_false hid with hlt | hgt
  ·clear hid
   go_enter Tryz.func33,Tryz.ntmps33
   go_upto_region 1 with fail
   rw [HW1.out]
   go_wp2
   obtain ⟨k4,ko⟩ := put4c HB1.out (.int .i64 0) (.int .i64 0) (.int .i64 0) (.int .i64 0)
   have e0 := k4.cell 0
   have e1 := k4.cell 1
   have e2 := k4.cell 2
   have e3 := k4.cell 3
   simp only [List.getElem?_toArray,List.getElem?_cons_zero,List.getElem?_cons_succ] at e0 e1 e2 e3
   refine bodyPost_ret (v := .tuple #[.agg #[.int .i64 0, .int .i64 0, .int .i64 0, .int .i64 0], .int .i64 8]) (by simp [results,Tryz.results33,go_sem,e0,e1,e2,e3]) rfl ?_
   exact ⟨by rw [HG.out]; rfl,HBE.out.trans (ko.below (by omega) (fun k h => by omega))⟩
  ·have hn : ¬ id < 0 := by omega
   clear hid
   go_enter Tryz.func33,Tryz.ntmps33
   go_upto_region 1 with fail
   rw [HW1.out]
   go_wp2
   obtain ⟨k4,ko⟩ := put4c HB1.out (.int .i64 0) (.int .i64 0) (.int .i64 0) (.int .i64 0)
   have e0 := k4.cell 0
   have e1 := k4.cell 1
   have e2 := k4.cell 2
   have e3 := k4.cell 3
   simp only [List.getElem?_toArray,List.getElem?_cons_zero,List.getElem?_cons_succ] at e0 e1 e2 e3
   refine bodyPost_ret (v := .tuple #[.agg #[.int .i64 0, .int .i64 0, .int .i64 0, .int .i64 0], .int .i64 8]) (by simp [results,Tryz.results33,go_sem,e0,e1,e2,e3]) rfl ?_
   exact ⟨by rw [HG.out]; rfl,HBE.out.trans (ko.below (by omega) (fun k h => by omega))⟩
 | true =>
  obtain ⟨hi1,hi2⟩ := idB_true hid
  have hn1 : ¬ id < 0 := by omega
  have hn2 : ¬ 4611686018427387904 < id := by omega
  have HG : Hid (getR id tb = foundR (tget id tb)) := by show _ = _; unfold getR; rw [hid]; simp
  have HB1 : Hid (Blk W1 w.heap.size 34 #[.int .i64 0, .int .i64 0, .int .i64 0, .int .i64 0]) := b1
  have hb := HBE.out.size
  clear b1 hb1 hid hi1 hi2
  go_enter Tryz.func33,Tryz.ntmps33
  go_upto_region 1 with fail
  rw [HW1.out]
  go_upto_region 6 with (go_at_call 63; refine hpl.mono ?_; rintro e w2 ⟨i,rfl,hat,hB2⟩)
  have HAT : Hid (AtP id tb i) := hat
  have b2 := HB1.out.below hB2 HB1.out.lt
  have d0 : w2.cell? ⟨w.heap.size, 0,none⟩ = some (.int .i64 0) := b2.cell 0
  have d1 : w2.cell? ⟨w.heap.size, 1,none⟩ = some (.int .i64 0) := b2.cell 1
  have d2 : w2.cell? ⟨w.heap.size, 2,none⟩ = some (.int .i64 0) := b2.cell 2
  have d3 : w2.cell? ⟨w.heap.size, 3,none⟩ = some (.int .i64 0) := b2.cell 3
  have f0 : w2.frozen? ⟨w.heap.size, 0,none⟩ = false := b2.frozen 0
  have f1 : w2.frozen? ⟨w.heap.size, 1,none⟩ = false := b2.frozen 1
  have f2 : w2.frozen? ⟨w.heap.size, 2,none⟩ = false := b2.frozen 2
  have f3 : w2.frozen? ⟨w.heap.size, 3,none⟩ = false := b2.frozen 3
  have hB02 : Below w.heap.size w w2 := HBE.out.trans (hB2.mono HBE.out.size)
  have HB02 : Hid (Below w.heap.size w w2) := hB02
  have HB2 : Hid (Blk w2 w.heap.size 34 #[.int .i64 0, .int .i64 0, .int .i64 0, .int .i64 0]) := b2
  have h2 := HH1.out.below hB2
  have hs2 := hB02.size
  clear hpl hat hB2 b2 hB02
  cases hth : thereB id tb i with
  | false =>
   have HF : Hid (tget id tb = none) := HAT.out.none HU.out (there_no hth)
   clear hth h2
   go_wp2
   obtain ⟨k4,ko⟩ := put4c HB2.out (.int .i64 0) (.int .i64 0) (.int .i64 0) (.int .i64 0)
   have e0 := k4.cell 0
   have e1 := k4.cell 1
   have e2 := k4.cell 2
   have e3 := k4.cell 3
   simp only [List.getElem?_toArray,List.getElem?_cons_zero,List.getElem?_cons_succ] at e0 e1 e2 e3
   refine bodyPost_ret (v := .tuple #[.agg #[.int .i64 0, .int .i64 0, .int .i64 0, .int .i64 0], .int .i64 9]) (by simp [results,Tryz.results33,go_sem,e0,e1,e2,e3]) rfl ?_
   exact ⟨by rw [HG.out,HF.out]; rfl,HB02.out.trans (ko.below (by omega) (fun k h => by omega))⟩
  | true =>
   obtain ⟨v0,hx⟩ := there_yes hth
   have HF : Hid (tget id tb = some v0) := AtP.some HU.out hx
   have hil := (List.getElem?_eq_some_iff.1 hx).1
   have hil' : (i : Int) < (tb.length : Int) := by omega
   obtain ⟨g,sc,rfl,_,hg⟩ := h2.row.form (by omega)
   have c0 : w2.cell? ⟨R, 0,none⟩ = some (.slice (some ⟨g, 0,none⟩) tb.length sc) := h2.blk.cell 0
   have hRl := h2.blk.lt
   have y1 : w2.cell? ⟨g,i * 5 + 1,none⟩ = some (.int .i64 (v0.a : Int)) := (own_cellR h2.row hx 1 _ rfl).1
   have y2 : w2.cell? ⟨g,i * 5 + 2,none⟩ = some (.int .i64 (v0.b : Int)) := (own_cellR h2.row hx 2 _ rfl).1
   have y3 : w2.cell? ⟨g,i * 5 + 3,none⟩ = some (.int .i64 (v0.c : Int)) := (own_cellR h2.row hx 3 _ rfl).1
   have y4 : w2.cell? ⟨g,i * 5 + 4,none⟩ = some (.int .i64 (v0.d : Int)) := (own_cellR h2.row hx 4 _ rfl).1
   clear hth h2 hx
   go_wp2
   obtain ⟨k4,ko⟩ := put4c HB2.out (.int .i64 (v0.a : Int)) (.int .i64 (v0.b : Int)) (.int .i64 (v0.c : Int)) (.int .i64 (v0.d : Int))
   have e0 := k4.cell 0
   have e1 := k4.cell 1
   have e2 := k4.cell 2
   have e3 := k4.cell 3
   simp only [List.getElem?_toArray,List.getElem?_cons_zero,List.getElem?_cons_succ] at e0 e1 e2 e3
   refine bodyPost_ret (v := .tuple #[.agg (boxC v0), .int .i64 0]) (by simp [results,Tryz.results33,go_sem,e0,e1,e2,e3]) rfl ?_
   exact ⟨by rw [HG.out,HF.out]; rfl,HB02.out.trans (ko.below (by omega) (fun k h => by omega))⟩
end
section
theorem info128 : (Tryz.prog.info? 128).map (fun i => (i.zero,i.size,i.bytes)) = some (some (.agg #[.int .i64 0, .int .i64 0, .int .i64 0, .int .i64 0, .int .i64 0]), 5, 40) := by kernel_rfl
theorem src_take {W : World} {base g sc : Nat} {tb : List (Int × Box)} (h : W.ownsRow base 128 5 (.slice (some ⟨g, 0,none⟩) tb.length sc) tb.length (rowM tb)) {i : Nat} (hi : i ≤ tb.length) : Src W 5 (.slice (some ⟨g, 0,none⟩) i sc) i (rowM (tb.take i)) := by
 refine ⟨by rw [rowM_len,List.length_take]; omega,rowM_one _, .inr ⟨⟨g, 0,none⟩,sc,rfl,fun j u hu => ⟨(own_lt h).2, ?_⟩⟩⟩
 have hj : j < (rowM (tb.take i)).length := (List.getElem?_eq_some_iff.1 hu).1
 rw [rowM_len,List.length_take] at hj
 have := (own_cell h j (by omega)).1
 rw [Addr.add_mid,Nat.zero_add]
 rw [this]
 rw [← rowM_take,List.getElem?_take_of_lt (by omega)] at hu
 exact hu
theorem src_drop {W : World} {base g sc : Nat} {tb : List (Int × Box)} (h : W.ownsRow base 128 5 (.slice (some ⟨g, 0,none⟩) tb.length sc) tb.length (rowM tb)) {i : Nat} (hi : i ≤ tb.length) (c : Nat) : Src W 5 (.slice (some ⟨g,i * 5,none⟩) (tb.length - i) c) (tb.length - i) (rowM (tb.drop i)) := by
 refine ⟨by rw [rowM_len,List.length_drop],rowM_one _, .inr ⟨⟨g,i * 5,none⟩,c,rfl,fun j u hu => ⟨(own_lt h).2, ?_⟩⟩⟩
 have hj : j < (rowM (tb.drop i)).length := (List.getElem?_eq_some_iff.1 hu).1
 rw [rowM_len,List.length_drop] at hj
 have := (own_cell h (i * 5 + j) (by omega)).1
 rw [Addr.add_mid]
 rw [this]
 rw [← rowM_drop,List.getElem?_drop] at hu
 exact hu
theorem src_none {W : World} {g c : Nat} : Src W 5 (.slice (some ⟨g, 0,none⟩) 0 c) 0 [] := ⟨rfl,fun u hu => (by cases hu), .inr ⟨⟨g, 0,none⟩,c,rfl,fun j u hu => (by cases hu)⟩⟩
theorem src_ent {W : World} {B : Nat} {id : Int} {v : Box} (h : Blk W B 128 #[.int .i64 id, .int .i64 (v.a : Int), .int .i64 (v.b : Int), .int .i64 (v.c : Int), .int .i64 (v.d : Int)]) : Src W 5 (.slice (some ⟨B, 0,none⟩) 1 1) 1 (entM (id,v)) := by
 refine ⟨rfl,fun u hu => ?_, .inr ⟨⟨B, 0,none⟩, 1,rfl,fun j u hu => ⟨h.lt, ?_⟩⟩⟩
 ·simp only [entM,List.mem_cons,List.not_mem_nil,or_false] at hu
  rcases hu with rfl | rfl | rfl | rfl | rfl <;> rfl
 ·rw [Addr.add_mid,Nat.zero_add]
  exact (h.cell j).trans (by rw [← hu, ← List.getElem?_toArray]; rfl)
structure RefP (w w' : World) (base R : Nat) (sv : Value) (tb' : List (Int × Box)) : Prop where
 ex : ∃ sv',RefX w' base R sv' tb' ∧ ∀ j,sv'.ownBlock = some j → sv.ownBlock = some j ∨ w.heap.size ≤ j
 off : Off (fun k => k = R ∨ sv.ownBlock = some k) w w'
theorem RefX.idle {w w' : World} {base R : Nat} {sv : Value} {tb : List (Int × Box)} (h : RefX w base R sv tb) (hb : Below w.heap.size w w') : RefP w w' base R sv tb := ⟨⟨sv,h.below hb,fun _ hj => .inl hj⟩,Off.of_below hb⟩
theorem RefP.drew {w w' : World} {base R : Nat} {sv : Value} {tb : List (Int × Box)} (h : RefP w w' base R sv tb) : RefP w w'.drew base R sv tb := by
 obtain ⟨⟨sv',h1,h2⟩,h3⟩ := h
 exact ⟨⟨sv',h1.below ((Below.refl _ w').drew),h2⟩,h3.drew⟩
set_option maxRecDepth 100000 in
set_option maxHeartbeats 2000000 in
theorem rput_no (w : World) (R : Nat) (id a b c d : Int) (hno : putE id a b c d ≠ 0) :
  Calls Tryz.prog 34 #[.pointer (some ⟨R, 0,none⟩), .int .i64 id, .agg #[.int .i64 a, .int .i64 b, .int .i64 c, .int .i64 d]] w fun e w' => e = .returned (.int .i64 (putE id a b c d)) ∧ Below w.heap.size w w' := by
 obtain ⟨W1,hW1⟩ : ∃ W1,w.alloc (.cells #[.int .i64 a, .int .i64 b, .int .i64 c, .int .i64 d] 34) = W1 := ⟨_,rfl⟩
 have hb1 : Below w.heap.size w W1 := by rw [← hW1]; exact (Below.refl _ w).alloc (Nat.le_refl _) _
 have b1 : Blk W1 w.heap.size 34 #[.int .i64 a, .int .i64 b, .int .i64 c, .int .i64 d] := by rw [← hW1]; exact Blk.new w 34 _
 have HW1 : Hid (w.alloc (.cells #[.int .i64 a, .int .i64 b, .int .i64 c, .int .i64 d] 34) = W1) := hW1
 have HBE : Hid (Below w.heap.size w W1) := hb1
 have d0 : W1.cell? ⟨w.heap.size, 0,none⟩ = some (.int .i64 a) := b1.cell 0
 have d1 : W1.cell? ⟨w.heap.size, 1,none⟩ = some (.int .i64 b) := b1.cell 1
 have d2 : W1.cell? ⟨w.heap.size, 2,none⟩ = some (.int .i64 c) := b1.cell 2
 have d3 : W1.cell? ⟨w.heap.size, 3,none⟩ = some (.int .i64 d) := b1.cell 3
 have hr := rright_any a b c d W1
 clear hW1 hb1 b1
 cases hid : idB id with
 | false =>
  have HE : Hid (putE id a b c d = 8) := by show _ = _; unfold putE; rw [hid]; simp
  rcases idB_false hid with hlt | hgt
  ·clear hid hno
   go_enter Tryz.func34,Tryz.ntmps34
   go_upto_region 1 with fail
   rw [HW1.out]
   go_wp2_with (go_at_call 64; refine hr.mono ?_; rintro e w2 ⟨rfl,hb2⟩)
   go_ret
   exact ⟨by rw [HE.out]; rfl,HBE.out.trans (hb2.mono HBE.out.size)⟩
  ·have hn : ¬ id < 0 := by omega
   clear hid hno
   go_enter Tryz.func34,Tryz.ntmps34
   go_upto_region 1 with fail
   rw [HW1.out]
   go_wp2_with (go_at_call 64; refine hr.mono ?_; rintro e w2 ⟨rfl,hb2⟩)
   go_ret
   exact ⟨by rw [HE.out]; rfl,HBE.out.trans (hb2.mono HBE.out.size)⟩
 | true =>
  obtain ⟨hi1,hi2⟩ := idB_true hid
  have hn1 : ¬ id < 0 := by omega
  have hn2 : ¬ 4611686018427387904 < id := by omega
  have hrt : rightB a b c d = false := by
   unfold putE at hno
   rw [hid] at hno
   cases h : rightB a b c d with
   | false => rfl
   | true => rw [h] at hno; simp at hno
  have HE : Hid (putE id a b c d = 6) := by show _ = _; unfold putE; rw [hid,hrt]; simp
  rw [hrt] at hr
  clear hid hno hi1 hi2 hrt
  go_enter Tryz.func34,Tryz.ntmps34
  go_upto_region 1 with fail
  rw [HW1.out]
  go_wp2_with (go_at_call 64; refine hr.mono ?_; rintro e w2 ⟨rfl,hb2⟩)
  go_ret
  exact ⟨by rw [HE.out]; rfl,HBE.out.trans (hb2.mono HBE.out.size)⟩
end
end Go.Proofs.YtdgbgmffpcooeaaGreat
namespace Go.Proofs.YtdgbgmffpcooeaaGreat
open Go.RowKit
section
theorem info35 : (Tryz.prog.info? 35).map (fun i => (i.zero,i.size,i.bytes)) = some (some (.slice none 0 0), 1, 24) := by kernel_rfl
def MarkI (xs : List Value) (n : Nat) (μ : Int) : Prop := ∀ j,j < n → xs[j]? = some (.int .i64 μ)
section
variable {xs ys : List Value} {n m : Nat} {μ : Int}
theorem MarkI.snoc (h : MarkI xs n μ) (hl : xs.length = n) : MarkI (xs ++ [.int .i64 μ]) (n + 1) μ := by
 intro j hj
 rcases Nat.lt_or_ge j n with g | g
 ·rw [List.getElem?_append_left (by omega)]; exact h j g
 ·have : j = n := by omega
  subst this
  rw [List.getElem?_append_right (by omega),hl,Nat.sub_self]; rfl
theorem MarkI.of_take (h : MarkI xs n μ) (he : ys.take m = xs) (hn : n ≤ m) : MarkI ys n μ := by
 intro j hj
 have := h j hj
 rw [← he,List.getElem?_take_of_lt (by omega)] at this
 exact this
theorem MarkI.mono (h : MarkI xs n μ) (hm : m ≤ n) : MarkI xs m μ := fun j hj => h j (by omega)
theorem MarkI.step (h : MarkI xs n μ) (hl : n < xs.length) : MarkI (xs.set n (.int .i64 μ)) (n + 1) μ := by
 intro j hj
 rcases Nat.lt_or_ge j n with g | g
 ·rw [List.getElem?_set_ne (by omega)]; exact h j g
 ·have : j = n := by omega
  subst this
  rw [List.getElem?_set_self hl]
end
def EntI (W : World) (N : Nat) (e : Value × Int) : Prop := e.1 = .slice none 0 0 ∨ ∃ g n cap cur,e.1 = .slice (some ⟨g, 0,none⟩) n cap ∧ W.heap[g]? = some (.cells cur 3 (0, 0)) ∧ n ≤ N ∧ MarkI cur.toList n e.2
theorem EntI.keep {W W' : World} {N M : Nat} {e : Value × Int} (h : EntI W N e) (hN : N ≤ M) (hk : ∀ g cur,e.1.ownBlock = some g → W.heap[g]? = some (.cells cur 3 (0, 0)) → W'.heap[g]? = some (.cells cur 3 (0, 0))) : EntI W' M e := by
 rcases h with h | ⟨g,n,cap,cur,e1,e2,e3,e4⟩
 ·exact .inl h
 ·exact .inr ⟨g,n,cap,cur,e1,hk g cur (by rw [e1]; rfl) e2,by omega,e4⟩
theorem EntI.lt {W : World} {N : Nat} {e : Value × Int} (h : EntI W N e) : ∀ j,e.1.ownBlock = some j → j < W.heap.size ∧ ∃ cur,W.heap[j]? = some (.cells cur 3 (0, 0)) := fun j hj => by
 rcases h with h | ⟨g,n,cap,cur,e1,e2,e3,e4⟩
 ·rw [h] at hj; cases hj
 ·rw [e1] at hj
  simp only [Value.ownBlock,Option.some.injEq] at hj
  subst hj
  exact ⟨(Array.getElem?_eq_some_iff.1 e2).1,cur,e2⟩
theorem EntI.off {F : Nat → Prop} {W W' : World} {N : Nat} {e : Value × Int} (h : EntI W N e) (ho : Off F W W') (hF : ∀ j,e.1.ownBlock = some j → ¬ F j) : EntI W' N e :=
 h.keep (Nat.le_refl _) fun g _ hg h2 => (ho.block g (Array.getElem?_eq_some_iff.1 h2).1 (hF g hg)).trans h2
theorem entI_self {W : World} {base n : Nat} {u : Value} {ys : List Value} {μ : Int} (h : W.ownsRow base 3 1 u n ys) (hm : MarkI ys n μ) : EntI W n (u, μ) := by
 obtain ⟨_,⟨rfl,rfl⟩ | ⟨g,cap,cur,rfl,_,h2,_,_,_,h6⟩⟩ := h
 ·exact .inl rfl
 ·exact .inr ⟨g,n,cap,cur,rfl,h2,Nat.le_refl _,hm.of_take (m := n) (by simpa using h6) (Nat.le_refl _)⟩
theorem entI_append {W w' : World} {n N : Nat} {u : Value} {ys : List Value} {μ : Int} {e : Value × Int} (he : EntI W N e) (hμ : e.2 = μ) (hN : N ≤ n) (hm : MarkI ys n μ) (hg : W.grownBy w' u.ownBlock) (hold : ∀ j,u.ownBlock = some j → ∃ cur,w'.heap[j]? = some (.cells cur 3 (0, 0)) ∧ cur.toList.take (n * 1) = ys) : EntI w' (n + 1) e := by
 rcases he with h | ⟨g,n',cap,cur,e1,e2,e3,e4⟩
 ·exact .inl h
 ·by_cases hu : u.ownBlock = some g
  ·obtain ⟨cur',h1,h2⟩ := hold g hu
   refine .inr ⟨g,n',cap,cur',e1,h1,by omega, ?_⟩
   rw [hμ]
   exact (hm.mono (show n' ≤ n by omega)).of_take (m := n) (by simpa using h2) (by omega)
  ·exact .inr ⟨g,n',cap,cur,e1,(hg.block g (Array.getElem?_eq_some_iff.1 e2).1 (fun e => hu e.symm)).trans e2,by omega,e4⟩
def bkI (n came : Int) (ki yi iv inn : Value) : Array Value := #[.int .i64 n, .int .i64 came, .bool false, .slice none 0 0, .slice none 0 0,ki,yi, .slice none 0 0, .slice none 0 0,iv,inn]
structure BkI (W : World) (base B n came : Nat) (ki yi iv inn : Value) (E : List (Value × Int)) : Prop where
 le : base ≤ B
 blk : Blk W B 44 (bkI n came ki yi iv inn)
 rowI : W.ownsRow base 35 1 iv E.length (E.map (·.1))
 rowN : W.ownsRow base 3 1 inn E.length (E.map fun e => .int .i64 e.2)
 ent : ∀ e ∈ E,EntI W 2000 e
 far : ∀ e ∈ E, ∀ j,e.1.ownBlock = some j → inn.ownBlock ≠ some j
theorem BkI.off {F : Nat → Prop} {W W' : World} {base B n came : Nat} {ki yi iv inn : Value} {E : List (Value × Int)} (h : BkI W base B n came ki yi iv inn E) (ho : Off F W W') (hB : ¬ F B) (hi : ∀ j,iv.ownBlock = some j → ¬ F j) (hn : ∀ j,inn.ownBlock = some j → ¬ F j) (he : ∀ e ∈ E, ∀ j,e.1.ownBlock = some j → ¬ F j) : BkI W' base B n came ki yi iv inn E :=
 ⟨h.le,h.blk.off ho hB,own_offv h.rowI ho hi,own_offv h.rowN ho hn,fun e hE => (h.ent e hE).off ho (he e hE),h.far⟩
theorem BkI.below {W W' : World} {base B n came : Nat} {ki yi iv inn : Value} {E : List (Value × Int)} (h : BkI W base B n came ki yi iv inn E) (hb : Below W.heap.size W W') : BkI W' base B n came ki yi iv inn E :=
 h.off (F := fun _ => False) (Off.of_below hb) (fun h => h) (fun _ _ h => h) (fun _ _ h => h) (fun _ _ _ _ h => h)
set_option maxRecDepth 100000 in
set_option maxHeartbeats 1000000 in
theorem sameI_any (l : List Int) (v u : Value) (base base' : Nat) (w : World) (hv : w.ownsRow base 3 1 v l.length (intsV l)) (hu : w.ownsRow base' 3 1 u l.length (intsV l)) :
  Calls Tryz.prog 42 #[v,u] w fun e w' => e = .returned (.bool true) ∧ Below w.heap.size w w' := by
 obtain ⟨a,cap,rfl,_,hmax,_⟩ := own_shape hv
 obtain ⟨b,cap',rfl,_,_,_⟩ := own_shape hu
 unfold maxLen at hmax
 have HV : Hid (w.ownsRow base 3 1 (.slice a l.length cap) l.length (intsV l)) := hv
 have HU : Hid (w.ownsRow base' 3 1 (.slice b l.length cap') l.length (intsV l)) := hu
 obtain ⟨L,hL⟩ : ∃ L,l.length = L := ⟨_,rfl⟩
 have HL : Hid (l.length = L) := hL
 rw [hL] at hmax ⊢
 clear hv hu hL
 go_enter Tryz.func42,Tryz.ntmps42
 go_wp2
 go_loopw [5] (fun x wr => ∃ i : Nat,x = .int .i64 (i : Int) ∧ i ≤ L ∧ Below w.heap.size w wr) (fun x _ => L - (intOf x).toNat)
 case atStart => exact ⟨0,rfl,by omega,Below.refl _ _⟩
 case round =>
  obtain ⟨i,rfl,hi,hB⟩ := hrel
  by_cases hlt : i < L
  ·have hlt' : (i : Int) < (L : Int) := by omega
   have hl2 : i < l.length := by rw [HL.out]; exact hlt
   obtain ⟨g,c1,e1,_,hg⟩ := HV.out.form (by omega)
   obtain ⟨g',c2,e2,_,hg'⟩ := HU.out.form (by omega)
   cases e1
   cases e2
   obtain ⟨x,hx⟩ : ∃ x,l[i]? = some x := ⟨_,List.getElem?_eq_getElem hl2⟩
   have a0 := (own_cell (own_below HV.out hB) i (by omega)).1
   have b0 := (own_cell (own_below HU.out hB) i (by omega)).1
   rw [List.getElem?_map,hx] at a0 b0
   have a1 : wr.cell? ⟨g,i,none⟩ = some (.int .i64 x) := a0
   have b1 : wr.cell? ⟨g',i,none⟩ = some (.int .i64 x) := b0
   have hs := hB.size
   have hgW : g < wr.heap.size := by omega
   have hgW' : g' < wr.heap.size := by omega
   clear hx a0 b0 hl2
   go_wp2
   go_quiet (fail)
   go_wp2
   go_roundw
   case rel => exact ⟨i + 1,by go_num,by omega,below_drewN hB _⟩
   case measure => simp [intOf]; omega
  ·have hlt' : decide ((i : Int) < (L : Int)) = false := by simp; omega
   have hlt2 : decide (i < L) = false := by simp; omega
   go_wp2
   go_ret
   exact ⟨rfl,hB⟩
set_option maxHeartbeats 400000 in
theorem sameC_nil (w : World) :
  Calls Tryz.prog 41 #[.slice none 0 0, .slice none 0 0] w fun e w' => e = .returned (.bool true) ∧ Below w.heap.size w w' := by
 go_enter Tryz.func41,Tryz.ntmps41
 go_wp2
 go_loopw [5] (fun x wr => x = .int .i64 0 ∧ wr = w) (fun _ _ => 0)
 case atStart => exact ⟨rfl,rfl⟩
 case round =>
  obtain ⟨rfl,rfl⟩ := hrel
  go_wp2
  go_ret
  exact ⟨rfl,Below.refl _ _⟩
theorem neg_wrapI (n : Nat) (hn : n ≤ 1073741824) : IntKind.i64.wrap (-((n : Int) + 1)) = -((n : Int) + 1) ∧ wrap64 (-((n : Int) + 1)) = -((n : Int) + 1) := by
 constructor
 ·rw [IntKind.wrap_i64]; omega
 ·unfold wrap64; omega
structure LI (w W : World) (base B came m : Nat) (n1 μ : Int) (ki yi v iv0 in0 : Value) (E E1 : List (Value × Int)) (k : Nat) (u iv inn : Value) (ys : List Value) : Prop where
 len : E1.length = k
 row : W.ownsRow base 3 1 u (m + k) ys
 marks : MarkI ys (m + k) μ
 far : ∀ j,u.ownBlock = some j → v.ownBlock = some j ∨ w.heap.size ≤ j
 farI : ∀ j,iv.ownBlock = some j → iv0.ownBlock = some j ∨ w.heap.size ≤ j
 farN : ∀ j,inn.ownBlock = some j → in0.ownBlock = some j ∨ w.heap.size ≤ j
 sep : ∀ j,inn.ownBlock = some j → u.ownBlock ≠ some j
 sepE : ∀ e ∈ E1, ∀ j,e.1.ownBlock = some j → inn.ownBlock ≠ some j
 book : Blk W B 44 (bkI n1 came ki yi iv inn)
 rowI : W.ownsRow base 35 1 iv (E.length + k) ((E ++ E1).map (·.1))
 rowN : W.ownsRow base 3 1 inn (E.length + k) ((E ++ E1).map fun e => .int .i64 e.2)
 ent : ∀ e ∈ E1,e.2 = μ ∧ EntI W (m + k) e ∧ ∀ j,e.1.ownBlock = some j → v.ownBlock = some j ∨ w.heap.size ≤ j
 off : Off (fun j => j = B ∨ v.ownBlock = some j ∨ iv0.ownBlock = some j ∨ in0.ownBlock = some j) w W
end
end Go.Proofs.YtdgbgmffpcooeaaGreat
