/-
  PROVED: CurveNegs answers true for every input: the negative of a point has its bytes but for the sign, and a multiple of it is the negative of the multiple. No condition but the row's own: the table lies as the program's text lays it (the card ties it): the statement '..CardSaid' itself.
-/
import Derived.Test.YtgmiaaapaiccdaaDoorMl
namespace Go.Proofs.YtgmiaaapaiccdaaDoor
open Go.RowKit Go.IntWalk Nums
open Go.ChangeShapes Go.WideShapes Go.ChangeAt

set_option maxRecDepth 100000 in
set_option maxHeartbeats 8000000 in
theorem curveNegs_walk {a : List UInt8} (la : a.length = 32) {n : List UInt8} (ln : n.length = 32) (w : World) (hT : Tw w) :
    Calls Tryd.prog 8 #[.agg (By a).toArray, .agg (By n).toArray] w fun e w' => e = .returned (.bool true) ∧ Below w.heap.size w w' := by
  refine calls_F (vs := [.agg (By a).toArray, .agg (By n).toArray]) 72 Tryd.func8 rfl (by rw [Tryd.ntmps8]; rfl) ?_
  have hoP := Ed.on_mul good on_base (le a)
  have hoN := Ed.on_neg hoP
  have hw0 := hT.lt
  refine c_seq fun K hK => ?_
  refine c_lit ?_
  refine l_boxA ((By a).toArray) rfl rfl rfl rfl rfl fun W1 g1 hw1 hg1 b1 => ?_
  have q1 : w.heap.size ≤ g1 := by rw [hg1]; exact Nat.le_refl _
  clear hg1
  replace hT := hT.below hw1
  have hU : Up w _ := hw1
  refine l_boxA ((By n).toArray) rfl rfl rfl rfl rfl fun W2 g2 hw2 hg2 b2 => ?_
  have q2 : w.heap.size ≤ g2 := by rw [hg2]; exact hU.size
  have n1_2 : g1 ≠ g2 := by have := b1.lt; omega
  clear hg2
  replace b1 := b1.later hw2
  replace hT := hT.below hw2
  replace hU := hU.step hw2
  refine l_assign (.bool false) rfl rfl rfl rfl rfl ?_
  refine l_nil ?_
  refine hK _ _ ?_
  clear hK K
  refine c_seq fun K0 hK0 => ?_
  refine c_seq fun K hK => ?_
  refine c_qF ?_
  refine f_call #[] (.bool true) rfl rfl rfl own_lfirst (fun w1 h1 => lfirst_f w1 (hT.below h1)) rfl rfl ?_
  refine f_not true false rfl rfl rfl rfl rfl rfl ?_
  refine f_end fun w3 hw3 => ?_
  replace b1 := b1.later hw3
  replace b2 := b2.later hw3
  replace hT := hT.below hw3
  replace hU := hU.step hw3
  refine hK _ _ ?_
  clear hK K
  refine c_cond false rfl ?_
  rw [if_neg (by decide)]
  refine c_skip ?_
  refine hK0 _ _ ?_
  clear hK0 K0
  refine c_seq fun K hK => ?_
  refine c_new 3 [nvP 5] (by decide) (by decide) ⟨⟨rfl, rfl, rfl, rfl, by kernel_rfl⟩, trivial⟩ (by kernel_rfl) (tail_ok (by kernel_rfl)) (by kernel_rfl) (fun _ _ d _ _ h => by cases d <;> exact h) ?_
  refine f_us #[] (QB · base) rfl rfl rfl own_cbase (fun w1 h1 => cbase_f w1) rfl rfl fun r12 v12 => ?_
  refine f_by g1 0 la rfl rfl rfl rfl rfl (fun _ h1 => (h1.blk b1).range) ?_
  refine f_us #[.agg (Us r12).toArray, .agg (By a).toArray] (PB · (Ed.mul dd (le a) base)) rfl rfl rfl own_cmul (fun w1 h1 => cmul_f (.inr v12) la w1 (hT.below h1)) rfl rfl fun r14 v14 => ?_
  refine f_new [.tmp 14] [(Us r14).toArray] ⟨rfl, trivial⟩ (by decide) ⟨⟨rfl, rfl, rfl⟩, rfl⟩ ⟨⟨rfl, us_size pz_len |>.trans (us_size v14.len).symm, size_P v14.len, Us_oneA _⟩, trivial⟩ fun f4 W4 hg4 hd4 hw4 hb4 => ?_
  have b400 : Blk W4 (f4 0) 29 ((Us r14).toArray) := hb4.1
  clear hb4
  have q400 : w.heap.size ≤ f4 0 := Nat.le_trans hU.size (hg4 0 (by decide))
  have n1_400 : g1 ≠ f4 0 := by have := b1.lt; have := hg4 0 (by decide); omega
  have n2_400 : g2 ≠ f4 0 := by have := b2.lt; have := hg4 0 (by decide); omega
  replace b1 := b1.later hw4
  replace b2 := b2.later hw4
  replace hT := hT.below hw4
  replace hU := hU.step hw4
  clear hg4 hd4 hw4
  generalize hf400 : f4 0 = g400 at *
  simp only [ptrs, hf400]
  clear hf400 f4
  refine l_nil ?_
  refine k_sub (E' := [(2, .pointer (some ⟨g1, 0, none⟩)), (3, .pointer (some ⟨g2, 0, none⟩)), (4, .bool false), (5, .pointer (some ⟨g400, 0, none⟩))]) ⟨rfl, rfl, rfl, rfl, trivial⟩ ?_
  refine hK _ _ ?_
  clear hK K
  refine c_seq fun K hK => ?_
  refine c_new 5 [nvH 6, nvH 7] (by decide) (by decide) ⟨⟨rfl, rfl, rfl, rfl, by kernel_rfl⟩, ⟨rfl, rfl, rfl, rfl, by kernel_rfl⟩, trivial⟩ (by kernel_rfl) (tail_ok (by kernel_rfl)) (by kernel_rfl) (fun _ _ d _ _ h => by cases d <;> exact h) ?_
  refine f_pt g400 0 v14.len rfl rfl rfl rfl rfl (fun _ h1 => (h1.blk b400).range) ?_
  refine f_call #[.agg (Us r14).toArray] (.agg (By (encP (Ed.mul dd (le a) base))).toArray) rfl rfl rfl own_chash (fun w1 h1 => chash_f v14 w1 (hT.below h1)) rfl rfl ?_
  refine f_pt g400 0 v14.len rfl rfl rfl rfl rfl (fun _ h1 => (h1.blk b400).range) ?_
  refine f_us #[.agg (Us r14).toArray] (QB · (Ed.neg (Ed.mul dd (le a) base))) rfl rfl rfl own_cneg (fun w1 h1 => cneg_f v14 w1 (hT.below h1)) rfl rfl fun r18 v18 => ?_
  refine f_call #[.agg (Us r18).toArray] (.agg (By (encP (Ed.neg (Ed.mul dd (le a) base)))).toArray) rfl rfl rfl own_chash (fun w1 h1 => chash_f (.inr v18) w1 (hT.below h1)) rfl rfl ?_
  refine f_new [.tmp 16, .tmp 19] [(By ((encP (Ed.mul dd (le a) base)))).toArray, (By ((encP (Ed.neg (Ed.mul dd (le a) base))))).toArray] ⟨rfl, rfl, trivial⟩ (by decide) ⟨⟨rfl, rfl, rfl⟩, ⟨rfl, rfl, rfl⟩, rfl⟩ ⟨⟨rfl, (len_by (l := List.replicate 32 0) rfl).trans (len_by ((encP_len _))).symm, size_H ((encP_len _)), By_oneA _⟩, ⟨rfl, (len_by (l := List.replicate 32 0) rfl).trans (len_by ((encP_len _))).symm, size_H ((encP_len _)), By_oneA _⟩, trivial⟩ fun f5 W5 hg5 hd5 hw5 hb5 => ?_
  have b500 : Blk W5 (f5 0) 22 ((By ((encP (Ed.mul dd (le a) base)))).toArray) := hb5.1
  have b501 : Blk W5 (f5 1) 22 ((By ((encP (Ed.neg (Ed.mul dd (le a) base))))).toArray) := hb5.2.1
  clear hb5
  have q500 : w.heap.size ≤ f5 0 := Nat.le_trans hU.size (hg5 0 (by decide))
  have n1_500 : g1 ≠ f5 0 := by have := b1.lt; have := hg5 0 (by decide); omega
  have n2_500 : g2 ≠ f5 0 := by have := b2.lt; have := hg5 0 (by decide); omega
  have n400_500 : g400 ≠ f5 0 := by have := b400.lt; have := hg5 0 (by decide); omega
  have q501 : w.heap.size ≤ f5 1 := Nat.le_trans hU.size (hg5 1 (by decide))
  have n1_501 : g1 ≠ f5 1 := by have := b1.lt; have := hg5 1 (by decide); omega
  have n2_501 : g2 ≠ f5 1 := by have := b2.lt; have := hg5 1 (by decide); omega
  have n400_501 : g400 ≠ f5 1 := by have := b400.lt; have := hg5 1 (by decide); omega
  have n500_501 : f5 0 ≠ f5 1 := hd5 0 1 (by decide) (by decide) (by decide)
  replace b1 := b1.later hw5
  replace b2 := b2.later hw5
  replace b400 := b400.later hw5
  replace hT := hT.below hw5
  replace hU := hU.step hw5
  clear hg5 hd5 hw5
  generalize hf500 : f5 0 = g500 at *
  generalize hf501 : f5 1 = g501 at *
  simp only [ptrs, Nat.reduceAdd, hf500, hf501]
  clear hf500 hf501 f5
  refine l_nil ?_
  refine k_sub (E' := [(2, .pointer (some ⟨g1, 0, none⟩)), (3, .pointer (some ⟨g2, 0, none⟩)), (4, .bool false), (5, .pointer (some ⟨g400, 0, none⟩)), (6, .pointer (some ⟨g500, 0, none⟩)), (7, .pointer (some ⟨g501, 0, none⟩))]) ⟨rfl, rfl, rfl, rfl, rfl, rfl, trivial⟩ ?_
  refine hK _ _ ?_
  clear hK K
  refine c_seq fun K hK => ?_
  have c31 := (b500.cell 31).trans (By_get (l := (encP (Ed.mul dd (le a) base))) (j := 31) (by rw [encP_len]; decide))
  have hcut := By_cut (encP (Ed.mul dd (le a) base)) (encP_len _)
  have hlt := ((encP (Ed.mul dd (le a) base))[31]!).toNat_lt
  generalize ((encP (Ed.mul dd (le a) base))[31]!).toNat = hi at c31 hcut hlt
  refine c_tF 4 ?_
  refine f_ix _ 31 ⟨g500, 31, none⟩ rfl rfl rfl rfl rfl rfl (ixH _ 31 (by decide)) ?_
  refine f_load ⟨g500, 31, none⟩ (.int .u8 (hi : Int)) (by decide) rfl rfl rfl rfl rfl (fun _ h1 => (h1.cell b500.lt).trans c31) ?_
  refine f_andB _ 127 ((hi % 128 : Nat) : Int) rfl rfl rfl rfl rfl rfl (low7 _ (by omega)) ?_
  refine f_ix _ 31 ⟨g500, 31, none⟩ rfl rfl rfl rfl rfl rfl (ixH _ 31 (by decide)) ?_
  refine f_store ⟨g500, 31, none⟩ ((hi % 128 : Nat) : Int) _ (.inr ⟨rfl, rfl⟩) rfl rfl rfl rfl rfl c31 (b500.free 31) b500.lt fun w6 hw6 => ?_
  replace b1 := b1.later hw6
  replace b2 := b2.later hw6
  replace b400 := b400.later hw6
  replace b500 := b500.later hw6
  replace b501 := b501.later hw6
  replace hT := hT.below hw6
  replace hU := hU.step hw6
  replace b1 := b1.far (p := ⟨g500, 31, none⟩) n1_500 (.int .u8 ((hi % 128 : Nat) : Int))
  replace b2 := b2.far (p := ⟨g500, 31, none⟩) n2_500 (.int .u8 ((hi % 128 : Nat) : Int))
  replace b400 := b400.far (p := ⟨g500, 31, none⟩) n400_500 (.int .u8 ((hi % 128 : Nat) : Int))
  replace b501 := b501.far (p := ⟨g500, 31, none⟩) (Ne.symm n500_501) (.int .u8 ((hi % 128 : Nat) : Int))
  replace b500 := b500.set 31 (.int .u8 ((hi % 128 : Nat) : Int))
  rw [hcut] at b500
  replace hU : Up w _ := hU.setCell (p := ⟨g500, 31, none⟩) q500 (.int .u8 ((hi % 128 : Nat) : Int))
  replace hT := hT.only ((OnlyG.refl w6 g500).set 31 (.int .u8 ((hi % 128 : Nat) : Int))) (by omega)
  generalize w6.setCell ⟨g500, 31, none⟩ (.int .u8 ((hi % 128 : Nat) : Int)) = W6 at *
  clear c31 hcut hlt
  refine hK _ _ ?_
  clear hK K
  refine c_seq fun K hK => ?_
  have c31 := (b501.cell 31).trans (By_get (l := (encP (Ed.neg (Ed.mul dd (le a) base)))) (j := 31) (by rw [encP_len]; decide))
  have hcut := By_cut (encP (Ed.neg (Ed.mul dd (le a) base))) (encP_len _)
  have hlt := ((encP (Ed.neg (Ed.mul dd (le a) base)))[31]!).toNat_lt
  generalize ((encP (Ed.neg (Ed.mul dd (le a) base)))[31]!).toNat = hi at c31 hcut hlt
  refine c_tF 4 ?_
  refine f_ix _ 31 ⟨g501, 31, none⟩ rfl rfl rfl rfl rfl rfl (ixH _ 31 (by decide)) ?_
  refine f_load ⟨g501, 31, none⟩ (.int .u8 (hi : Int)) (by decide) rfl rfl rfl rfl rfl (fun _ h1 => (h1.cell b501.lt).trans c31) ?_
  refine f_andB _ 127 ((hi % 128 : Nat) : Int) rfl rfl rfl rfl rfl rfl (low7 _ (by omega)) ?_
  refine f_ix _ 31 ⟨g501, 31, none⟩ rfl rfl rfl rfl rfl rfl (ixH _ 31 (by decide)) ?_
  refine f_store ⟨g501, 31, none⟩ ((hi % 128 : Nat) : Int) _ (.inr ⟨rfl, rfl⟩) rfl rfl rfl rfl rfl c31 (b501.free 31) b501.lt fun w7 hw7 => ?_
  replace b1 := b1.later hw7
  replace b2 := b2.later hw7
  replace b400 := b400.later hw7
  replace b500 := b500.later hw7
  replace b501 := b501.later hw7
  replace hT := hT.below hw7
  replace hU := hU.step hw7
  replace b1 := b1.far (p := ⟨g501, 31, none⟩) n1_501 (.int .u8 ((hi % 128 : Nat) : Int))
  replace b2 := b2.far (p := ⟨g501, 31, none⟩) n2_501 (.int .u8 ((hi % 128 : Nat) : Int))
  replace b400 := b400.far (p := ⟨g501, 31, none⟩) n400_501 (.int .u8 ((hi % 128 : Nat) : Int))
  replace b500 := b500.far (p := ⟨g501, 31, none⟩) n500_501 (.int .u8 ((hi % 128 : Nat) : Int))
  replace b501 := b501.set 31 (.int .u8 ((hi % 128 : Nat) : Int))
  rw [hcut] at b501
  replace hU : Up w _ := hU.setCell (p := ⟨g501, 31, none⟩) q501 (.int .u8 ((hi % 128 : Nat) : Int))
  replace hT := hT.only ((OnlyG.refl w7 g501).set 31 (.int .u8 ((hi % 128 : Nat) : Int))) (by omega)
  generalize w7.setCell ⟨g501, 31, none⟩ (.int .u8 ((hi % 128 : Nat) : Int)) = W7 at *
  clear c31 hcut hlt
  refine hK _ _ ?_
  clear hK K
  refine c_seq fun K hK => ?_
  refine c_newF 7 [nvP 8] (by decide) ⟨⟨rfl, rfl, rfl, rfl, by kernel_rfl⟩, trivial⟩ ?_
  refine f_pt g400 0 v14.len rfl rfl rfl rfl rfl (fun _ h1 => (h1.blk b400).range) ?_
  refine f_us #[.agg (Us r14).toArray] (QB · (Ed.neg (Ed.mul dd (le a) base))) rfl rfl rfl own_cneg (fun w1 h1 => cneg_f v14 w1 (hT.below h1)) rfl rfl fun r30 v30 => ?_
  refine f_call #[.agg (Us r30).toArray] (.agg (By (encP (Ed.neg (Ed.mul dd (le a) base)))).toArray) rfl rfl rfl own_chash (fun w1 h1 => chash_f (.inr v30) w1 (hT.below h1)) rfl rfl ?_
  refine f_callV #[.agg (By (encP (Ed.neg (Ed.mul dd (le a) base)))).toArray] (fun v => ∃ l, QB l (Ed.neg (Ed.mul dd (le a) base)) ∧ v = .tuple #[.agg (Us l).toArray, .int .i64 0]) rfl rfl rfl own_cdecode (fun w1 h1 => cdec_pt hoN w1 (hT.below h1)) rfl rfl ?_
  rintro _ ⟨l32, q32, rfl⟩
  refine f_move (.tuple #[.agg (Us l32).toArray, .int .i64 0]) rfl rfl rfl rfl rfl ?_
  refine f_extract (.agg (Us l32).toArray) rfl rfl rfl rfl rfl rfl ?_
  refine f_extract (.int .i64 0) rfl rfl rfl rfl rfl rfl ?_
  refine f_new [.tmp 33] [(Us l32).toArray] ⟨rfl, trivial⟩ (by decide) ⟨⟨rfl, rfl, rfl⟩, rfl⟩ ⟨⟨rfl, us_size pz_len |>.trans (us_size q32.len).symm, size_P q32.len, Us_oneA _⟩, trivial⟩ fun f8 W8 hg8 hd8 hw8 hb8 => ?_
  have b800 : Blk W8 (f8 0) 29 ((Us l32).toArray) := hb8.1
  clear hb8
  have q800 : w.heap.size ≤ f8 0 := Nat.le_trans hU.size (hg8 0 (by decide))
  have n1_800 : g1 ≠ f8 0 := by have := b1.lt; have := hg8 0 (by decide); omega
  have n2_800 : g2 ≠ f8 0 := by have := b2.lt; have := hg8 0 (by decide); omega
  have n400_800 : g400 ≠ f8 0 := by have := b400.lt; have := hg8 0 (by decide); omega
  have n500_800 : g500 ≠ f8 0 := by have := b500.lt; have := hg8 0 (by decide); omega
  have n501_800 : g501 ≠ f8 0 := by have := b501.lt; have := hg8 0 (by decide); omega
  replace b1 := b1.later hw8
  replace b2 := b2.later hw8
  replace b400 := b400.later hw8
  replace b500 := b500.later hw8
  replace b501 := b501.later hw8
  replace hT := hT.below hw8
  replace hU := hU.step hw8
  clear hg8 hd8 hw8
  generalize hf800 : f8 0 = g800 at *
  simp only [ptrs, hf800]
  clear hf800 f8
  refine l_assign (.int .i64 0) rfl rfl rfl rfl rfl ?_
  refine l_nil ?_
  refine hK _ _ ?_
  clear hK K
  refine c_seq fun K hK => ?_
  refine c_q (by kernel_rfl) (tail_ok (by kernel_rfl)) (fun _ _ d _ _ h => by cases d <;> exact h) ?_
  refine f_by g500 0 ((cutb_len (encP_len _))) rfl rfl rfl rfl rfl (fun _ h1 => (h1.blk b500).range) ?_
  refine f_by g501 0 ((cutb_len (encP_len _))) rfl rfl rfl rfl rfl (fun _ h1 => (h1.blk b501).range) ?_
  refine f_eqs ((cutb (encP (Ed.mul dd (le a) base)))) ((cutb (encP (Ed.neg (Ed.mul dd (le a) base))))) rfl rfl rfl rfl rfl rfl rfl ((cutb_len (encP_len _))) (cutb_neg _) ?_
  refine f_move (.bool true) rfl rfl rfl rfl rfl ?_
  refine f_guard rfl rfl rfl rfl ?_
  refine f_move (.int .i64 0) rfl rfl rfl rfl rfl ?_
  refine f_guard rfl rfl rfl rfl ?_
  refine f_eqE 0 0 true rfl rfl rfl rfl rfl rfl rfl (by decide) ?_
  refine f_pick (.bool true) rfl rfl rfl rfl rfl rfl ?_
  refine f_move (.bool true) rfl rfl rfl rfl rfl ?_
  refine f_guard rfl rfl rfl rfl ?_
  refine f_pt g800 0 q32.len rfl rfl rfl rfl rfl (fun _ h1 => (h1.blk b800).range) ?_
  refine f_guard rfl rfl rfl rfl ?_
  refine f_pt g400 0 v14.len rfl rfl rfl rfl rfl (fun _ h1 => (h1.blk b400).range) ?_
  refine f_guard rfl rfl rfl rfl ?_
  refine f_us #[.agg (Us l32).toArray, .agg (Us r14).toArray] (QB · (Ed.add dd (Ed.neg (Ed.mul dd (le a) base)) (Ed.mul dd (le a) base))) rfl rfl rfl own_cadd (fun w1 h1 => cadd_f (.inr q32) v14 w1 (hT.below h1)) rfl rfl fun r45 v45 => ?_
  refine f_guard rfl rfl rfl rfl ?_
  refine f_call #[.agg (Us r45).toArray] (.agg (By (encP (Ed.add dd (Ed.neg (Ed.mul dd (le a) base)) (Ed.mul dd (le a) base)))).toArray) rfl rfl rfl own_chash (fun w1 h1 => chash_f (.inr v45) w1 (hT.below h1)) rfl rfl ?_
  refine f_guard rfl rfl rfl rfl ?_
  refine f_build [(0, .int .u8 1)] (By oneB).toArray rfl rfl rfl rfl rfl builtOne ?_
  refine f_guard rfl rfl rfl rfl ?_
  refine f_eqs ((encP (Ed.add dd (Ed.neg (Ed.mul dd (le a) base)) (Ed.mul dd (le a) base)))) oneB rfl rfl rfl rfl rfl rfl rfl ((encP_len _)) (by rw [add_negL hoP, enc_zero]) ?_
  refine f_pick (.bool true) rfl rfl rfl rfl rfl rfl ?_
  refine f_move (.bool true) rfl rfl rfl rfl rfl ?_
  refine f_guard rfl rfl rfl rfl ?_
  refine f_pt g400 0 v14.len rfl rfl rfl rfl rfl (fun _ h1 => (h1.blk b400).range) ?_
  refine f_guard rfl rfl rfl rfl ?_
  refine f_us #[.agg (Us r14).toArray] (QB · (Ed.neg (Ed.mul dd (le a) base))) rfl rfl rfl own_cneg (fun w1 h1 => cneg_f v14 w1 (hT.below h1)) rfl rfl fun r52 v52 => ?_
  refine f_guard rfl rfl rfl rfl ?_
  refine f_by g2 0 ln rfl rfl rfl rfl rfl (fun _ h1 => (h1.blk b2).range) ?_
  refine f_guard rfl rfl rfl rfl ?_
  refine f_us #[.agg (Us r52).toArray, .agg (By n).toArray] (PB · (Ed.mul dd (le n) (Ed.neg (Ed.mul dd (le a) base)))) rfl rfl rfl own_cmul (fun w1 h1 => cmul_f (.inr v52) ln w1 (hT.below h1)) rfl rfl fun r54 v54 => ?_
  refine f_guard rfl rfl rfl rfl ?_
  refine f_call #[.agg (Us r54).toArray] (.agg (By (encP (Ed.mul dd (le n) (Ed.neg (Ed.mul dd (le a) base))))).toArray) rfl rfl rfl own_chash (fun w1 h1 => chash_f v54 w1 (hT.below h1)) rfl rfl ?_
  refine f_guard rfl rfl rfl rfl ?_
  refine f_pt g400 0 v14.len rfl rfl rfl rfl rfl (fun _ h1 => (h1.blk b400).range) ?_
  refine f_guard rfl rfl rfl rfl ?_
  refine f_by g2 0 ln rfl rfl rfl rfl rfl (fun _ h1 => (h1.blk b2).range) ?_
  refine f_guard rfl rfl rfl rfl ?_
  refine f_us #[.agg (Us r14).toArray, .agg (By n).toArray] (PB · (Ed.mul dd (le n) (Ed.mul dd (le a) base))) rfl rfl rfl own_cmul (fun w1 h1 => cmul_f v14 ln w1 (hT.below h1)) rfl rfl fun r58 v58 => ?_
  refine f_guard rfl rfl rfl rfl ?_
  refine f_us #[.agg (Us r58).toArray] (QB · (Ed.neg (Ed.mul dd (le n) (Ed.mul dd (le a) base)))) rfl rfl rfl own_cneg (fun w1 h1 => cneg_f v58 w1 (hT.below h1)) rfl rfl fun r59 v59 => ?_
  refine f_guard rfl rfl rfl rfl ?_
  refine f_call #[.agg (Us r59).toArray] (.agg (By (encP (Ed.neg (Ed.mul dd (le n) (Ed.mul dd (le a) base))))).toArray) rfl rfl rfl own_chash (fun w1 h1 => chash_f (.inr v59) w1 (hT.below h1)) rfl rfl ?_
  refine f_guard rfl rfl rfl rfl ?_
  refine f_eqs ((encP (Ed.mul dd (le n) (Ed.neg (Ed.mul dd (le a) base))))) ((encP (Ed.neg (Ed.mul dd (le n) (Ed.mul dd (le a) base))))) rfl rfl rfl rfl rfl rfl rfl ((encP_len _)) (congrArg encP (Ed.mul_neg good hoP _)) ?_
  refine f_pick (.bool true) rfl rfl rfl rfl rfl rfl ?_
  refine f_move (.bool true) rfl rfl rfl rfl rfl ?_
  refine f_guard rfl rfl rfl rfl ?_
  refine f_pt g400 0 v14.len rfl rfl rfl rfl rfl (fun _ h1 => (h1.blk b400).range) ?_
  refine f_guard rfl rfl rfl rfl ?_
  refine f_us #[.agg (Us r14).toArray] (QB · (Ed.neg (Ed.mul dd (le a) base))) rfl rfl rfl own_cneg (fun w1 h1 => cneg_f v14 w1 (hT.below h1)) rfl rfl fun r65 v65 => ?_
  refine f_guard rfl rfl rfl rfl ?_
  refine f_us #[.agg (Us r65).toArray] (QB · (Ed.neg (Ed.neg (Ed.mul dd (le a) base)))) rfl rfl rfl own_cneg (fun w1 h1 => cneg_f (.inr v65) w1 (hT.below h1)) rfl rfl fun r66 v66 => ?_
  refine f_guard rfl rfl rfl rfl ?_
  refine f_call #[.agg (Us r66).toArray] (.agg (By (encP (Ed.neg (Ed.neg (Ed.mul dd (le a) base))))).toArray) rfl rfl rfl own_chash (fun w1 h1 => chash_f (.inr v66) w1 (hT.below h1)) rfl rfl ?_
  refine f_guard rfl rfl rfl rfl ?_
  refine f_pt g400 0 v14.len rfl rfl rfl rfl rfl (fun _ h1 => (h1.blk b400).range) ?_
  refine f_guard rfl rfl rfl rfl ?_
  refine f_call #[.agg (Us r14).toArray] (.agg (By (encP (Ed.mul dd (le a) base))).toArray) rfl rfl rfl own_chash (fun w1 h1 => chash_f v14 w1 (hT.below h1)) rfl rfl ?_
  refine f_guard rfl rfl rfl rfl ?_
  refine f_eqs ((encP (Ed.neg (Ed.neg (Ed.mul dd (le a) base))))) ((encP (Ed.mul dd (le a) base))) rfl rfl rfl rfl rfl rfl rfl ((encP_len _)) (congrArg encP (Ed.neg_neg _)) ?_
  refine f_pick (.bool true) rfl rfl rfl rfl rfl rfl ?_
  refine f_assign (.bool true) rfl rfl rfl rfl rfl ?_
  refine f_end fun w9 hw9 => ?_
  replace b1 := b1.later hw9
  replace b2 := b2.later hw9
  replace b400 := b400.later hw9
  replace b500 := b500.later hw9
  replace b501 := b501.later hw9
  replace b800 := b800.later hw9
  replace hT := hT.below hw9
  replace hU := hU.step hw9
  refine hK _ _ ?_
  clear hK K
  exact c_ret fun a ha => bodyPost_ret (results_tmp rfl _ _ _) ha.defers ⟨congrArg Ending.returned (ha.get 4 _ rfl), hU⟩

theorem curveNegs_types : ∀ t ∈ Tryd.f8.params.toList, Tryd.prog.readableRec t = true ∧ t < Tryd.prog.types.size := by
  have h : Tryd.f8.params.toList.all (fun t => Tryd.prog.readableRec t && decide (t < Tryd.prog.types.size)) = true := by kernel_rfl
  intro t ht
  have := List.all_eq_true.1 h t ht
  simpa using this

set_option maxRecDepth 100000 in
theorem curveNegs_lifted (os : Os) (started : os.Started) (H : Type) (enc : TypeId × Value → H) :
    ReturnsInHanded {} Tryd.checked os 8 .any (fun w args => (Rows.curveNegsSpec.pre enc Tryd.prog Tryd.f8 [] false w args ∧ laidMetH Tryd.prog laid1 w) ∧ sizedMet enc Tryd.prog Tryd.f8 (OpenSpec.ofChange Rows.curveNegsSpec) false w args)
      (Rows.curveNegsSpec.post enc Tryd.prog Tryd.f8 false true false false) := by
  refine returnsInHanded_of_change_and (C := Tryd.checked) (X := fun w _ => laidMetH Tryd.prog laid1 w) (fun _ _ _ hh h => h.of_heap hh) own started (by kernel_rfl) Tryd.func8
    (ChangeSpec.witness_shaped (enc := enc) (C := Tryd.checked) (os := os) (X := fun w _ => laidMetH Tryd.prog laid1 w) false (World.doorLaid Tryd.prog 400 os) #[.agg (By (List.replicate 32 0)).toArray, .agg (By (List.replicate 32 0)).toArray] 8 rfl (World.shaped_of_RefB (by kernel_rfl) (by kernel_rfl)) (by kernel_rfl) (by kernel_rfl) (by kernel_rfl) (door_met os _)) ?_
  intro W base args ds gs before hval0 hW _ _ hL _
  have hval : ∀ (j : Nat) t v, Tryd.f8.params[j]? = some t → args[j]? = some v → Value.okWide Tryd.prog W .any base t v := hval0
  have hW' : DataW.Whole enc Tryd.prog Tryd.f8.params.toList Rows.curveNegsSpec.vars false W args.toList ds gs before := hW
  obtain ⟨p, q, hA0, hV, rfl, hfz, hnd⟩ := hW
  have hA : DataW.TrodAll enc Tryd.prog W 0 (fun _ => true) true Tryd.f8.params.toList args.toList ds p := hA0
  rw [Tryd.params8] at hA hval
  obtain ⟨v0, v1, d0, d1, p0, p1, rfl, rfl, rfl, h0, h1⟩ := trodAll_two hA
  obtain ⟨rfl, rfl⟩ := trodVars_none hV
  obtain ⟨a, la, rfl⟩ := open_hash (hval 0 22 v0 rfl rfl) h0
  obtain ⟨n, ln, rfl⟩ := open_hash (hval 1 22 v1 rfl rfl) h1
  clear hA0 hval0
  refine (curveNegs_walk la ln W (of_laid hL)).mono fun e W' ⟨he, hb⟩ => ?_
  exact ⟨_, he, law_post (by kernel_rfl) rfl curveNegs_types hW' rfl hb⟩

theorem curveNegs_holds : Rows.CurveNegsSaid :=
  OpenClaim.holds_of_wide 8 Tryd.f8 rfl rfl rfl rfl rfl rfl rfl ⟨rfl, rfl, rfl, rfl, rfl⟩ rfl rfl rfl rfl rfl (by kernel_rfl) Tryd.func8 (by kernel_rfl)
    (of_decide_eq_true (by kernel_rfl)) (by unfold Func.isWrapper; first | (rw [if_pos (by decide +kernel)]; kernel_rfl) | (rw [if_neg (by decide +kernel)]; exact ⟨rfl, rfl⟩))
    (fun os started H enc _ => curveNegs_lifted os started H enc)

theorem curveNegs_card_holds : Rows.CurveNegsCardSaid :=
  Claim7.holds_tied_plain_at .later [] [.data] true Rows.curveNegsCard.stood.harness false
    curveNegs_holds (fun _ h => by cases h) (by kernel_rfl) (fun _ h => by cases h) curveNegs_row_tie rfl ⟨rfl, rfl⟩ (by kernel_rfl) rfl
    (fun f fn hf hfn => by
      obtain rfl : f = 8 := Option.some.inj ((show Tryd.prog.funcNamed "witan/witanlaw05.CurveNegs" = some 8 by kernel_rfl).symm.trans hf) |>.symm
      obtain rfl : fn = Tryd.f8 := (Option.some.inj (Tryd.func8.symm.trans hfn)).symm
      exact ⟨by kernel_rfl, fun j t ht => by
        have hm := Array.mem_of_getElem? ht
        have hall : (Tryd.f8.params.toList.all fun u => !Tryd.prog.wantsStandIn u) = true := by kernel_rfl
        have h2 := List.all_eq_true.1 hall t (Array.mem_toList_iff.2 hm)
        show Tryd.prog.wantsStandIn t = false
        simpa using h2⟩)
    (by kernel_rfl)
#print axioms curveNegs_card_holds
end Go.Proofs.YtgmiaaapaiccdaaDoor
