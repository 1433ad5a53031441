/- B4S -/
import Derived.Test.YtdgbgmffpcooeaaGreatU12
namespace Go.Proofs.YtdgbgmffpcooeaaGreat
open Go.RowKit Go.Lib
section
set_option maxRecDepth 100000 in
set_option maxHeartbeats 4000000 in
theorem pairsS_any (w : World) (B : Nat) (b : ByteArray) (n : Nat) (hB : Blk w B 246 #[.string b]) (hsb : n * 18 ≤ b.size) (hbb : b.size ≤ 256) :
  Calls Tryz.prog 198 #[.pointer (some ⟨B, 0,none⟩), .int .i64 (n : Int), .func (.func 199) #[] #[]] w fun e w' => ∃ v,e = .returned v ∧ w'.ownsRow w.heap.size 234 3 v n (flat pkS (pairsR secC n b.data.toList)) ∧ Off (fun k => k = B) w w' := by
 obtain ⟨i0,hi0,hz0,hz1,hz2⟩ := info_parts infoS
 have hBl := hB.lt
 have hn : n ≤ 14 := by omega
 go_enter Tryz.func198,Tryz.ntmps198
 go_wp2
 go_loopw [7, 10] (fun s x wr => ∃ i : Nat,x = .int .i64 (i : Int) ∧ i ≤ n ∧ wr.ownsRow w.heap.size 234 3 s i (flat pkS (pairsR secC i b.data.toList)) ∧ Blk wr B 246 #[.string (restB b (i * 18))] ∧ Off (fun k => k = B) w wr) (fun _ x _ => n - (intOf x).toNat)
 case atStart => exact ⟨0,rfl,Nat.zero_le _,World.ownsRow_nil ..,by rw [Nat.zero_mul,rest_zero]; exact hB,Off.refl _ _⟩
 case round =>
  clear hB
  obtain ⟨i,rfl,hi,hown,hT,ho⟩ := hrel
  by_cases hlt : i < n
  ·have hlt' : (i : Int) < (n : Int) := by omega
   have hmul := Nat.mul_le_mul_right 18 (show i + 1 ≤ n from hlt)
   have hsz := ho.size
   have hk := tkey_any wr B (restB b (i * 18)) hT (by rw [size_rest]; omega) (by rw [size_rest]; omega)
   have hc : ∀ w1,Blk w1 B 246 #[.string (restB b (i * 18 + 16))] → _ := fun w1 h1 => clS_any w1 B (restB b (i * 18 + 16)) h1 (by rw [size_rest]; omega) (by rw [size_rest]; omega)
   have hsn := pairsR_snoc secC i b.data.toList
   rw [data_rest,rest_rest] at hk
   rw [data_rest,rest_rest,show i * 18 + 16 + 2 = (i + 1) * 18 by omega] at hc
   have hl24 : 16 + secC.len = 18 := rfl
   rw [hl24] at hsn
   generalize keyR (b.data.toList.drop (i * 18)) = kx at hk hsn
   generalize secC.R (b.data.toList.drop (i * 18 + 16)) = vx at hc hsn
   generalize pairsR secC i b.data.toList = P at hown hsn
   have HS : Hid (pairsR secC (i + 1) b.data.toList = P ++ [(kx,vx)]) := hsn
   have HC : Hid _ := hc
   obtain ⟨sa,sc,rfl,_,_,_⟩ := own_shape hown
   have HNE : Hid (∀ g,(Value.slice sa i sc).ownBlock = some g → ¬ g = B) := own_ne hown hT (by decide)
   clear hmul hc hsn hl24 hT
   go_upto_region 5 with (go_at_call 217; refine hk.mono ?_; rintro e w1 ⟨rfl,hT1,o1⟩)
   have hK1 := Blk.new w1 154 #[.int .i64 kx.1, .int .i64 kx.2]
   have hT2 := (hT1.alloc (.cells #[.int .i64 kx.1, .int .i64 kx.2] 154)).drew
   have o2 : Off (fun k => k = B) wr (w1.alloc (.cells #[.int .i64 kx.1, .int .i64 kx.2] 154)) := o1.alloc _
   have hBl1 : B < wr.heap.size := by omega
   have hsz1 := o1.size
   obtain ⟨KB,hKB⟩ : ∃ KB,w1.heap.size = KB := ⟨_,rfl⟩
   obtain ⟨W1,hW1⟩ : ∃ W1,w1.alloc (.cells #[.int .i64 kx.1, .int .i64 kx.2] 154) = W1 := ⟨_,rfl⟩
   rw [hKB] at hK1 hsz1 ⊢
   rw [hW1] at hK1 hT2 o2 ⊢
   have hown1 : W1.ownsRow w.heap.size 234 3 (.slice sa i sc) i (flat pkS P) := own_offv hown o2 HNE.out
   clear hW1 hKB hT1 o1 hown hk
   have k0 : W1.cell? ⟨KB, 0,none⟩ = some (.int .i64 kx.1) := hK1.cell 0
   have k1 : W1.cell? ⟨KB, 1,none⟩ = some (.int .i64 kx.2) := hK1.cell 1
   have hcl := HC.out _ hT2
   have hKl := hK1.lt
   have keepS : ∀ W',Off (fun k => k = B) W1.drew W' → W'.cell? ⟨KB, 0,none⟩ = some (.int .i64 kx.1) ∧ W'.cell? ⟨KB, 1,none⟩ = some (.int .i64 kx.2) := fun W' h => by
    have := hK1.drew.off h (by omega)
    exact ⟨this.cell 0,this.cell 1⟩
   have hsW : w.heap.size ≤ W1.heap.size := by have := o2.size; omega
   have HNE1 : Hid (∀ g,(Value.slice sa i sc).ownBlock = some g → ¬ g = B) := HNE.out
   go_region_held3 (fun W' => W'.cell? ⟨KB, 0,none⟩ = some (.int .i64 kx.1) ∧ W'.cell? ⟨KB, 1,none⟩ = some (.int .i64 kx.2))
    (first
     | exact ⟨k0,k1⟩
     | exact keepS _ o3
     | exact keepS _ (o3.alloc _)
     | exact ⟨hK2.cell 0,hK2.cell 1⟩
     | go_keep)
    (first
     | (go_at_call 199; refine hcl.mono ?_; rintro e w3 ⟨rfl,hT3,o3⟩; have hown3 := own_offv hown1.drew o3 HNE1.out; have hs3 : W1.heap.size ≤ w3.heap.size := o3.size; have hK3 := hK1.drew.off o3 (by omega))
     | (go_at_fn 199; refine hcl.mono ?_; rintro e w3 ⟨rfl,hT3,o3⟩; have hown3 := own_offv hown1.drew o3 HNE1.out; have hs3 : W1.heap.size ≤ w3.heap.size := o3.size; have hK3 := hK1.drew.off o3 (by omega))
     | (refine step_append_lies _ (by rfl) _ _ _ (by rfl) w.heap.size 234 i0 _ 3 24 Tryz.underlying212 hi0 hz0 hz1 hz2 rfl (by omega) (.slice sa i sc) i _ (by rfl) (hown3.alloc _) ⟨w3.heap.size, 0,none⟩ 1 1 [.int .i64 kx.1, .int .i64 kx.2, .int .i64 (vx : Int)] (by rfl) (by rfl) (World.news_of_block (cs := #[.int .i64 kx.1, .int .i64 kx.2, .int .i64 (vx : Int)]) (t := 234) (fr := (0, 0)) (heap_alloc_new w3 _)) (by simp [Value.oneCell']) (by omega) (by unfold maxLen; omega) (by omega) (by simp; omega) (w3.heap.size + 1) (by simp) ?_; intro gg cap w2 hown2 hgrow hat hlt3; have hK2 := (hK3.alloc (.cells #[.int .i64 kx.1, .int .i64 kx.2, .int .i64 (vx : Int)] 234)).grown hgrow (fun j hj => own_ne (hown3.alloc (.cells #[.int .i64 kx.1, .int .i64 kx.2, .int .i64 (vx : Int)] 234)) (hK3.alloc (.cells #[.int .i64 kx.1, .int .i64 kx.2, .int .i64 (vx : Int)] 234)) (by decide) j hj)))
   have hT5 : Blk w2 B 246 #[.string (restB b ((i + 1) * 18))] := (hT3.alloc (.cells #[.int .i64 kx.1, .int .i64 kx.2, .int .i64 (vx : Int)] 234)).grown hgrow (fun j hj => HNE1.out j hj)
   have o5 : Off (fun k => k = B) w w2 := by
    refine (ho.trans (o2.drew.trans (o3.alloc (.cells #[.int .i64 kx.1, .int .i64 kx.2, .int .i64 (vx : Int)] 234)))).grown hgrow fun j hj => .inr ?_
    exact (own_tagged hown3 hj).1
   go_wp2
   refine ⟨⟨i + 1,by go_num,by omega, ?_,hT5,o5⟩,by simp [intOf]; omega⟩
   rw [HS.out,flat_append]
   exact hown2
  ·have hlt' : decide ((i : Int) < (n : Int)) = false := decide_eq_false (by omega)
   have hlt2 : decide (i < n) = false := decide_eq_false (by omega)
   have hin : i = n := by omega
   subst hin
   obtain ⟨sa,sc,rfl,_,_,_⟩ := own_shape hown
   go_wp2
   go_ret
   exact ⟨_,rfl,hown,ho⟩
end
end Go.Proofs.YtdgbgmffpcooeaaGreat
