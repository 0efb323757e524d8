/-
  PROVED: CurveGroup answers true for every input: points are a group: sums go in any order, the zero Point changes nothing, a point and its negative give it. No condition but the row's own: the table lies as the program's text lays it (the card ties it): the statement '..CardSaid' itself.
-/
import Derived.Test.YtgmiaaapaiccdaaDoorMl
namespace Go.Proofs.YtgmiaaapaiccdaaDoor
open Go.RowKit Go.IntWalk Nums
open Go.ChangeShapes Go.WideShapes Go.ChangeAt

set_option maxRecDepth 100000 in
set_option maxHeartbeats 8000000 in
theorem curveGroup_walk {a : List UInt8} (la : a.length = 32) {b : List UInt8} (lb : b.length = 32) {c : List UInt8} (lc : c.length = 32) (w : World) (hT : Tw w) :
    Calls Tryd.prog 5 #[.agg (By a).toArray, .agg (By b).toArray, .agg (By c).toArray] w fun e w' => e = .returned (.bool true) ∧ Below w.heap.size w w' := by
  refine calls_F (vs := [.agg (By a).toArray, .agg (By b).toArray, .agg (By c).toArray]) 95 Tryd.func5 rfl (by rw [Tryd.ntmps5]; rfl) ?_
  have ha := Ed.on_mul good on_base (le a)
  have hb := Ed.on_mul good on_base (le b)
  have hc := Ed.on_mul good on_base (le c)
  have hw0 := hT.lt
  refine c_seq fun K hK => ?_
  refine c_lit ?_
  refine l_boxA ((By a).toArray) rfl rfl rfl rfl rfl fun W1 g1 hw1 hg1 b1 => ?_
  have q1 : w.heap.size ≤ g1 := by rw [hg1]; exact Nat.le_refl _
  clear hg1
  replace hT := hT.below hw1
  have hU : Up w _ := hw1
  refine l_boxA ((By b).toArray) rfl rfl rfl rfl rfl fun W2 g2 hw2 hg2 b2 => ?_
  have q2 : w.heap.size ≤ g2 := by rw [hg2]; exact hU.size
  have n1_2 : g1 ≠ g2 := by have := b1.lt; omega
  clear hg2
  replace b1 := b1.later hw2
  replace hT := hT.below hw2
  replace hU := hU.step hw2
  refine l_boxA ((By c).toArray) rfl rfl rfl rfl rfl fun W3 g3 hw3 hg3 b3 => ?_
  have q3 : w.heap.size ≤ g3 := by rw [hg3]; exact hU.size
  have n1_3 : g1 ≠ g3 := by have := b1.lt; omega
  have n2_3 : g2 ≠ g3 := by have := b2.lt; omega
  clear hg3
  replace b1 := b1.later hw3
  replace b2 := b2.later hw3
  replace hT := hT.below hw3
  replace hU := hU.step hw3
  refine l_assign (.bool false) rfl rfl rfl rfl rfl ?_
  refine l_nil ?_
  refine hK _ _ ?_
  clear hK K
  refine c_seq fun K0 hK0 => ?_
  refine c_seq fun K hK => ?_
  refine c_qF ?_
  refine f_call #[] (.bool true) rfl rfl rfl own_lfirst (fun w1 h1 => lfirst_f w1 (hT.below h1)) rfl rfl ?_
  refine f_not true false rfl rfl rfl rfl rfl rfl ?_
  refine f_end fun w4 hw4 => ?_
  replace b1 := b1.later hw4
  replace b2 := b2.later hw4
  replace b3 := b3.later hw4
  replace hT := hT.below hw4
  replace hU := hU.step hw4
  refine hK _ _ ?_
  clear hK K
  refine c_cond false rfl ?_
  rw [if_neg (by decide)]
  refine c_skip ?_
  refine hK0 _ _ ?_
  clear hK0 K0
  refine c_seq fun K hK => ?_
  refine c_new 9 [nvP 7, nvP 8, nvP 9] (by decide) (by decide) ⟨⟨rfl, rfl, rfl, rfl, by kernel_rfl⟩, ⟨rfl, rfl, rfl, rfl, by kernel_rfl⟩, ⟨rfl, rfl, rfl, rfl, by kernel_rfl⟩, trivial⟩ (by kernel_rfl) (tail_okD 8 (by kernel_rfl)) (by kernel_rfl) (fun _ _ d _ _ h => by cases d <;> exact h) ?_
  refine f_us #[] (QB · base) rfl rfl rfl own_cbase (fun w1 h1 => cbase_f w1) rfl rfl fun r13 v13 => ?_
  refine f_by g1 0 la rfl rfl rfl rfl rfl (fun _ h1 => (h1.blk b1).range) ?_
  refine f_us #[.agg (Us r13).toArray, .agg (By a).toArray] (PB · (Ed.mul dd (le a) base)) rfl rfl rfl own_cmul (fun w1 h1 => cmul_f (.inr v13) la w1 (hT.below h1)) rfl rfl fun r15 v15 => ?_
  refine f_us #[] (QB · base) rfl rfl rfl own_cbase (fun w1 h1 => cbase_f w1) rfl rfl fun r16 v16 => ?_
  refine f_by g2 0 lb rfl rfl rfl rfl rfl (fun _ h1 => (h1.blk b2).range) ?_
  refine f_us #[.agg (Us r16).toArray, .agg (By b).toArray] (PB · (Ed.mul dd (le b) base)) rfl rfl rfl own_cmul (fun w1 h1 => cmul_f (.inr v16) lb w1 (hT.below h1)) rfl rfl fun r18 v18 => ?_
  refine f_us #[] (QB · base) rfl rfl rfl own_cbase (fun w1 h1 => cbase_f w1) rfl rfl fun r19 v19 => ?_
  refine f_by g3 0 lc rfl rfl rfl rfl rfl (fun _ h1 => (h1.blk b3).range) ?_
  refine f_us #[.agg (Us r19).toArray, .agg (By c).toArray] (PB · (Ed.mul dd (le c) base)) rfl rfl rfl own_cmul (fun w1 h1 => cmul_f (.inr v19) lc w1 (hT.below h1)) rfl rfl fun r21 v21 => ?_
  refine f_new [.tmp 15, .tmp 18, .tmp 21] [(Us r15).toArray, (Us r18).toArray, (Us r21).toArray] ⟨rfl, rfl, rfl, trivial⟩ (by decide) ⟨⟨rfl, rfl, rfl⟩, ⟨rfl, rfl, rfl⟩, ⟨rfl, rfl, rfl⟩, rfl⟩ ⟨⟨rfl, us_size pz_len |>.trans (us_size v15.len).symm, size_P v15.len, Us_oneA _⟩, ⟨rfl, us_size pz_len |>.trans (us_size v18.len).symm, size_P v18.len, Us_oneA _⟩, ⟨rfl, us_size pz_len |>.trans (us_size v21.len).symm, size_P v21.len, Us_oneA _⟩, trivial⟩ fun f5 W5 hg5 hd5 hw5 hb5 => ?_
  have b500 : Blk W5 (f5 0) 29 ((Us r15).toArray) := hb5.1
  have b501 : Blk W5 (f5 1) 29 ((Us r18).toArray) := hb5.2.1
  have b502 : Blk W5 (f5 2) 29 ((Us r21).toArray) := hb5.2.2.1
  clear hb5
  have q500 : w.heap.size ≤ f5 0 := Nat.le_trans hU.size (hg5 0 (by decide))
  have n1_500 : g1 ≠ f5 0 := by have := b1.lt; have := hg5 0 (by decide); omega
  have n2_500 : g2 ≠ f5 0 := by have := b2.lt; have := hg5 0 (by decide); omega
  have n3_500 : g3 ≠ f5 0 := by have := b3.lt; have := hg5 0 (by decide); omega
  have q501 : w.heap.size ≤ f5 1 := Nat.le_trans hU.size (hg5 1 (by decide))
  have n1_501 : g1 ≠ f5 1 := by have := b1.lt; have := hg5 1 (by decide); omega
  have n2_501 : g2 ≠ f5 1 := by have := b2.lt; have := hg5 1 (by decide); omega
  have n3_501 : g3 ≠ f5 1 := by have := b3.lt; have := hg5 1 (by decide); omega
  have n500_501 : f5 0 ≠ f5 1 := hd5 0 1 (by decide) (by decide) (by decide)
  have q502 : w.heap.size ≤ f5 2 := Nat.le_trans hU.size (hg5 2 (by decide))
  have n1_502 : g1 ≠ f5 2 := by have := b1.lt; have := hg5 2 (by decide); omega
  have n2_502 : g2 ≠ f5 2 := by have := b2.lt; have := hg5 2 (by decide); omega
  have n3_502 : g3 ≠ f5 2 := by have := b3.lt; have := hg5 2 (by decide); omega
  have n500_502 : f5 0 ≠ f5 2 := hd5 0 2 (by decide) (by decide) (by decide)
  have n501_502 : f5 1 ≠ f5 2 := hd5 1 2 (by decide) (by decide) (by decide)
  replace b1 := b1.later hw5
  replace b2 := b2.later hw5
  replace b3 := b3.later hw5
  replace hT := hT.below hw5
  replace hU := hU.step hw5
  clear hg5 hd5 hw5
  generalize hf500 : f5 0 = g500 at *
  generalize hf501 : f5 1 = g501 at *
  generalize hf502 : f5 2 = g502 at *
  simp only [ptrs, Nat.reduceAdd, hf500, hf501, hf502]
  clear hf500 hf501 hf502 f5
  refine l_nil ?_
  refine k_sub (E' := [(3, .pointer (some ⟨g1, 0, none⟩)), (4, .pointer (some ⟨g2, 0, none⟩)), (5, .pointer (some ⟨g3, 0, none⟩)), (6, .bool false), (7, .pointer (some ⟨g500, 0, none⟩)), (8, .pointer (some ⟨g501, 0, none⟩)), (9, .pointer (some ⟨g502, 0, none⟩))]) ⟨rfl, rfl, rfl, rfl, rfl, rfl, rfl, trivial⟩ ?_
  refine hK _ _ ?_
  clear hK K
  refine c_seq fun K hK => ?_
  refine c_newF 1 [nvP 10] (by decide) ⟨⟨rfl, rfl, rfl, rfl, by kernel_rfl⟩, trivial⟩ ?_
  refine f_build [] (Us pz).toArray rfl rfl rfl rfl rfl builtP0 ?_
  refine f_new [.tmp 22] [(Us pz).toArray] ⟨rfl, trivial⟩ (by decide) ⟨⟨rfl, rfl, rfl⟩, rfl⟩ ⟨⟨rfl, us_size pz_len |>.trans (us_size pz_len).symm, size_P pz_len, Us_oneA _⟩, trivial⟩ fun f6 W6 hg6 hd6 hw6 hb6 => ?_
  have b600 : Blk W6 (f6 0) 29 ((Us pz).toArray) := hb6.1
  clear hb6
  have q600 : w.heap.size ≤ f6 0 := Nat.le_trans hU.size (hg6 0 (by decide))
  have n1_600 : g1 ≠ f6 0 := by have := b1.lt; have := hg6 0 (by decide); omega
  have n2_600 : g2 ≠ f6 0 := by have := b2.lt; have := hg6 0 (by decide); omega
  have n3_600 : g3 ≠ f6 0 := by have := b3.lt; have := hg6 0 (by decide); omega
  have n500_600 : g500 ≠ f6 0 := by have := b500.lt; have := hg6 0 (by decide); omega
  have n501_600 : g501 ≠ f6 0 := by have := b501.lt; have := hg6 0 (by decide); omega
  have n502_600 : g502 ≠ f6 0 := by have := b502.lt; have := hg6 0 (by decide); omega
  replace b1 := b1.later hw6
  replace b2 := b2.later hw6
  replace b3 := b3.later hw6
  replace b500 := b500.later hw6
  replace b501 := b501.later hw6
  replace b502 := b502.later hw6
  replace hT := hT.below hw6
  replace hU := hU.step hw6
  clear hg6 hd6 hw6
  generalize hf600 : f6 0 = g600 at *
  simp only [ptrs, hf600]
  clear hf600 f6
  refine l_nil ?_
  refine k_sub (E' := [(3, .pointer (some ⟨g1, 0, none⟩)), (4, .pointer (some ⟨g2, 0, none⟩)), (5, .pointer (some ⟨g3, 0, none⟩)), (6, .bool false), (7, .pointer (some ⟨g500, 0, none⟩)), (8, .pointer (some ⟨g501, 0, none⟩)), (9, .pointer (some ⟨g502, 0, none⟩)), (10, .pointer (some ⟨g600, 0, none⟩))]) ⟨rfl, rfl, rfl, rfl, rfl, rfl, rfl, rfl, trivial⟩ ?_
  refine hK _ _ ?_
  clear hK K
  refine c_seq fun K hK => ?_
  refine c_q (by kernel_rfl) (tail_ok (by kernel_rfl)) (fun _ _ d _ _ h => by cases d <;> exact h) ?_
  refine f_pt g500 0 v15.len rfl rfl rfl rfl rfl (fun _ h1 => (h1.blk b500).range) ?_
  refine f_pt g501 0 v18.len rfl rfl rfl rfl rfl (fun _ h1 => (h1.blk b501).range) ?_
  refine f_us #[.agg (Us r15).toArray, .agg (Us r18).toArray] (QB · (Ed.add dd (Ed.mul dd (le a) base) (Ed.mul dd (le b) base))) rfl rfl rfl own_cadd (fun w1 h1 => cadd_f v15 v18 w1 (hT.below h1)) rfl rfl fun r25 v25 => ?_
  refine f_call #[.agg (Us r25).toArray] (.agg (By (encP (Ed.add dd (Ed.mul dd (le a) base) (Ed.mul dd (le b) base)))).toArray) rfl rfl rfl own_chash (fun w1 h1 => chash_f (.inr v25) w1 (hT.below h1)) rfl rfl ?_
  refine f_pt g501 0 v18.len rfl rfl rfl rfl rfl (fun _ h1 => (h1.blk b501).range) ?_
  refine f_pt g500 0 v15.len rfl rfl rfl rfl rfl (fun _ h1 => (h1.blk b500).range) ?_
  refine f_us #[.agg (Us r18).toArray, .agg (Us r15).toArray] (QB · (Ed.add dd (Ed.mul dd (le b) base) (Ed.mul dd (le a) base))) rfl rfl rfl own_cadd (fun w1 h1 => cadd_f v18 v15 w1 (hT.below h1)) rfl rfl fun r29 v29 => ?_
  refine f_call #[.agg (Us r29).toArray] (.agg (By (encP (Ed.add dd (Ed.mul dd (le b) base) (Ed.mul dd (le a) base)))).toArray) rfl rfl rfl own_chash (fun w1 h1 => chash_f (.inr v29) w1 (hT.below h1)) rfl rfl ?_
  refine f_eqs ((encP (Ed.add dd (Ed.mul dd (le a) base) (Ed.mul dd (le b) base)))) ((encP (Ed.add dd (Ed.mul dd (le b) base) (Ed.mul dd (le a) base)))) rfl rfl rfl rfl rfl rfl rfl ((encP_len _)) (congrArg encP (Ed.add_comm _ _)) ?_
  refine f_move (.bool true) rfl rfl rfl rfl rfl ?_
  refine f_guard rfl rfl rfl rfl ?_
  refine f_pt g500 0 v15.len rfl rfl rfl rfl rfl (fun _ h1 => (h1.blk b500).range) ?_
  refine f_guard rfl rfl rfl rfl ?_
  refine f_pt g501 0 v18.len rfl rfl rfl rfl rfl (fun _ h1 => (h1.blk b501).range) ?_
  refine f_guard rfl rfl rfl rfl ?_
  refine f_us #[.agg (Us r15).toArray, .agg (Us r18).toArray] (QB · (Ed.add dd (Ed.mul dd (le a) base) (Ed.mul dd (le b) base))) rfl rfl rfl own_cadd (fun w1 h1 => cadd_f v15 v18 w1 (hT.below h1)) rfl rfl fun r35 v35 => ?_
  refine f_guard rfl rfl rfl rfl ?_
  refine f_pt g502 0 v21.len rfl rfl rfl rfl rfl (fun _ h1 => (h1.blk b502).range) ?_
  refine f_guard rfl rfl rfl rfl ?_
  refine f_us #[.agg (Us r35).toArray, .agg (Us r21).toArray] (QB · (Ed.add dd (Ed.add dd (Ed.mul dd (le a) base) (Ed.mul dd (le b) base)) (Ed.mul dd (le c) base))) rfl rfl rfl own_cadd (fun w1 h1 => cadd_f (.inr v35) v21 w1 (hT.below h1)) rfl rfl fun r37 v37 => ?_
  refine f_guard rfl rfl rfl rfl ?_
  refine f_call #[.agg (Us r37).toArray] (.agg (By (encP (Ed.add dd (Ed.add dd (Ed.mul dd (le a) base) (Ed.mul dd (le b) base)) (Ed.mul dd (le c) base)))).toArray) rfl rfl rfl own_chash (fun w1 h1 => chash_f (.inr v37) w1 (hT.below h1)) rfl rfl ?_
  refine f_guard rfl rfl rfl rfl ?_
  refine f_pt g500 0 v15.len rfl rfl rfl rfl rfl (fun _ h1 => (h1.blk b500).range) ?_
  refine f_guard rfl rfl rfl rfl ?_
  refine f_pt g501 0 v18.len rfl rfl rfl rfl rfl (fun _ h1 => (h1.blk b501).range) ?_
  refine f_guard rfl rfl rfl rfl ?_
  refine f_pt g502 0 v21.len rfl rfl rfl rfl rfl (fun _ h1 => (h1.blk b502).range) ?_
  refine f_guard rfl rfl rfl rfl ?_
  refine f_us #[.agg (Us r18).toArray, .agg (Us r21).toArray] (QB · (Ed.add dd (Ed.mul dd (le b) base) (Ed.mul dd (le c) base))) rfl rfl rfl own_cadd (fun w1 h1 => cadd_f v18 v21 w1 (hT.below h1)) rfl rfl fun r42 v42 => ?_
  refine f_guard rfl rfl rfl rfl ?_
  refine f_us #[.agg (Us r15).toArray, .agg (Us r42).toArray] (QB · (Ed.add dd (Ed.mul dd (le a) base) (Ed.add dd (Ed.mul dd (le b) base) (Ed.mul dd (le c) base)))) rfl rfl rfl own_cadd (fun w1 h1 => cadd_f v15 (.inr v42) w1 (hT.below h1)) rfl rfl fun r43 v43 => ?_
  refine f_guard rfl rfl rfl rfl ?_
  refine f_call #[.agg (Us r43).toArray] (.agg (By (encP (Ed.add dd (Ed.mul dd (le a) base) (Ed.add dd (Ed.mul dd (le b) base) (Ed.mul dd (le c) base))))).toArray) rfl rfl rfl own_chash (fun w1 h1 => chash_f (.inr v43) w1 (hT.below h1)) rfl rfl ?_
  refine f_guard rfl rfl rfl rfl ?_
  refine f_eqs ((encP (Ed.add dd (Ed.add dd (Ed.mul dd (le a) base) (Ed.mul dd (le b) base)) (Ed.mul dd (le c) base)))) ((encP (Ed.add dd (Ed.mul dd (le a) base) (Ed.add dd (Ed.mul dd (le b) base) (Ed.mul dd (le c) base))))) rfl rfl rfl rfl rfl rfl rfl ((encP_len _)) (congrArg encP (Ed.add_assoc good ha hb hc)) ?_
  refine f_pick (.bool true) rfl rfl rfl rfl rfl rfl ?_
  refine f_move (.bool true) rfl rfl rfl rfl rfl ?_
  refine f_guard rfl rfl rfl rfl ?_
  refine f_pt g500 0 v15.len rfl rfl rfl rfl rfl (fun _ h1 => (h1.blk b500).range) ?_
  refine f_guard rfl rfl rfl rfl ?_
  refine f_pt g600 0 pz_len rfl rfl rfl rfl rfl (fun _ h1 => (h1.blk b600).range) ?_
  refine f_guard rfl rfl rfl rfl ?_
  refine f_us #[.agg (Us r15).toArray, .agg (Us pz).toArray] (QB · (Ed.add dd (Ed.mul dd (le a) base) Ed.zero)) rfl rfl rfl own_cadd (fun w1 h1 => cadd_f v15 (.inl ⟨rfl, rfl⟩) w1 (hT.below h1)) rfl rfl fun r50 v50 => ?_
  refine f_guard rfl rfl rfl rfl ?_
  refine f_call #[.agg (Us r50).toArray] (.agg (By (encP (Ed.add dd (Ed.mul dd (le a) base) Ed.zero))).toArray) rfl rfl rfl own_chash (fun w1 h1 => chash_f (.inr v50) w1 (hT.below h1)) rfl rfl ?_
  refine f_guard rfl rfl rfl rfl ?_
  refine f_pt g500 0 v15.len rfl rfl rfl rfl rfl (fun _ h1 => (h1.blk b500).range) ?_
  refine f_guard rfl rfl rfl rfl ?_
  refine f_call #[.agg (Us r15).toArray] (.agg (By (encP (Ed.mul dd (le a) base))).toArray) rfl rfl rfl own_chash (fun w1 h1 => chash_f v15 w1 (hT.below h1)) rfl rfl ?_
  refine f_guard rfl rfl rfl rfl ?_
  refine f_eqs ((encP (Ed.add dd (Ed.mul dd (le a) base) Ed.zero))) ((encP (Ed.mul dd (le a) base))) rfl rfl rfl rfl rfl rfl rfl ((encP_len _)) (congrArg encP (Ed.add_zero good _)) ?_
  refine f_pick (.bool true) rfl rfl rfl rfl rfl rfl ?_
  refine f_move (.bool true) rfl rfl rfl rfl rfl ?_
  refine f_guard rfl rfl rfl rfl ?_
  refine f_pt g600 0 pz_len rfl rfl rfl rfl rfl (fun _ h1 => (h1.blk b600).range) ?_
  refine f_guard rfl rfl rfl rfl ?_
  refine f_pt g500 0 v15.len rfl rfl rfl rfl rfl (fun _ h1 => (h1.blk b500).range) ?_
  refine f_guard rfl rfl rfl rfl ?_
  refine f_us #[.agg (Us pz).toArray, .agg (Us r15).toArray] (QB · (Ed.add dd Ed.zero (Ed.mul dd (le a) base))) rfl rfl rfl own_cadd (fun w1 h1 => cadd_f (.inl ⟨rfl, rfl⟩) v15 w1 (hT.below h1)) rfl rfl fun r59 v59 => ?_
  refine f_guard rfl rfl rfl rfl ?_
  refine f_call #[.agg (Us r59).toArray] (.agg (By (encP (Ed.add dd Ed.zero (Ed.mul dd (le a) base)))).toArray) rfl rfl rfl own_chash (fun w1 h1 => chash_f (.inr v59) w1 (hT.below h1)) rfl rfl ?_
  refine f_guard rfl rfl rfl rfl ?_
  refine f_pt g500 0 v15.len rfl rfl rfl rfl rfl (fun _ h1 => (h1.blk b500).range) ?_
  refine f_guard rfl rfl rfl rfl ?_
  refine f_call #[.agg (Us r15).toArray] (.agg (By (encP (Ed.mul dd (le a) base))).toArray) rfl rfl rfl own_chash (fun w1 h1 => chash_f v15 w1 (hT.below h1)) rfl rfl ?_
  refine f_guard rfl rfl rfl rfl ?_
  refine f_eqs ((encP (Ed.add dd Ed.zero (Ed.mul dd (le a) base)))) ((encP (Ed.mul dd (le a) base))) rfl rfl rfl rfl rfl rfl rfl ((encP_len _)) (congrArg encP (Ed.zero_add good _)) ?_
  refine f_pick (.bool true) rfl rfl rfl rfl rfl rfl ?_
  refine f_move (.bool true) rfl rfl rfl rfl rfl ?_
  refine f_guard rfl rfl rfl rfl ?_
  refine f_pt g500 0 v15.len rfl rfl rfl rfl rfl (fun _ h1 => (h1.blk b500).range) ?_
  refine f_guard rfl rfl rfl rfl ?_
  refine f_pt g500 0 v15.len rfl rfl rfl rfl rfl (fun _ h1 => (h1.blk b500).range) ?_
  refine f_guard rfl rfl rfl rfl ?_
  refine f_us #[.agg (Us r15).toArray] (QB · (Ed.neg (Ed.mul dd (le a) base))) rfl rfl rfl own_cneg (fun w1 h1 => cneg_f v15 w1 (hT.below h1)) rfl rfl fun r68 v68 => ?_
  refine f_guard rfl rfl rfl rfl ?_
  refine f_us #[.agg (Us r15).toArray, .agg (Us r68).toArray] (QB · (Ed.add dd (Ed.mul dd (le a) base) (Ed.neg (Ed.mul dd (le a) base)))) rfl rfl rfl own_cadd (fun w1 h1 => cadd_f v15 (.inr v68) w1 (hT.below h1)) rfl rfl fun r69 v69 => ?_
  refine f_guard rfl rfl rfl rfl ?_
  refine f_call #[.agg (Us r69).toArray] (.agg (By (encP (Ed.add dd (Ed.mul dd (le a) base) (Ed.neg (Ed.mul dd (le a) base))))).toArray) rfl rfl rfl own_chash (fun w1 h1 => chash_f (.inr v69) w1 (hT.below h1)) rfl rfl ?_
  refine f_guard rfl rfl rfl rfl ?_
  refine f_pt g600 0 pz_len rfl rfl rfl rfl rfl (fun _ h1 => (h1.blk b600).range) ?_
  refine f_guard rfl rfl rfl rfl ?_
  refine f_call #[.agg (Us pz).toArray] (.agg (By (encP Ed.zero)).toArray) rfl rfl rfl own_chash (fun w1 h1 => chash_f (.inl ⟨rfl, rfl⟩) w1 (hT.below h1)) rfl rfl ?_
  refine f_guard rfl rfl rfl rfl ?_
  refine f_eqs ((encP (Ed.add dd (Ed.mul dd (le a) base) (Ed.neg (Ed.mul dd (le a) base))))) ((encP Ed.zero)) rfl rfl rfl rfl rfl rfl rfl ((encP_len _)) (congrArg encP (Ed.add_neg good ha)) ?_
  refine f_pick (.bool true) rfl rfl rfl rfl rfl rfl ?_
  refine f_move (.bool true) rfl rfl rfl rfl rfl ?_
  refine f_guard rfl rfl rfl rfl ?_
  refine f_pt g500 0 v15.len rfl rfl rfl rfl rfl (fun _ h1 => (h1.blk b500).range) ?_
  refine f_guard rfl rfl rfl rfl ?_
  refine f_pt g500 0 v15.len rfl rfl rfl rfl rfl (fun _ h1 => (h1.blk b500).range) ?_
  refine f_guard rfl rfl rfl rfl ?_
  refine f_us #[.agg (Us r15).toArray, .agg (Us r15).toArray] (QB · (Ed.add dd (Ed.mul dd (le a) base) (Ed.mul dd (le a) base))) rfl rfl rfl own_cadd (fun w1 h1 => cadd_f v15 v15 w1 (hT.below h1)) rfl rfl fun r78 v78 => ?_
  refine f_guard rfl rfl rfl rfl ?_
  refine f_call #[.agg (Us r78).toArray] (.agg (By (encP (Ed.add dd (Ed.mul dd (le a) base) (Ed.mul dd (le a) base)))).toArray) rfl rfl rfl own_chash (fun w1 h1 => chash_f (.inr v78) w1 (hT.below h1)) rfl rfl ?_
  refine f_guard rfl rfl rfl rfl ?_
  refine f_pt g500 0 v15.len rfl rfl rfl rfl rfl (fun _ h1 => (h1.blk b500).range) ?_
  refine f_guard rfl rfl rfl rfl ?_
  refine f_build [(0, .int .u8 2)] (By twoB).toArray rfl rfl rfl rfl rfl builtTwo ?_
  refine f_guard rfl rfl rfl rfl ?_
  refine f_us #[.agg (Us r15).toArray, .agg (By twoB).toArray] (PB · (Ed.mul dd (le twoB) (Ed.mul dd (le a) base))) rfl rfl rfl own_cmul (fun w1 h1 => cmul_f v15 ((rfl : twoB.length = 32)) w1 (hT.below h1)) rfl rfl fun r82 v82 => ?_
  refine f_guard rfl rfl rfl rfl ?_
  refine f_call #[.agg (Us r82).toArray] (.agg (By (encP (Ed.mul dd (le twoB) (Ed.mul dd (le a) base)))).toArray) rfl rfl rfl own_chash (fun w1 h1 => chash_f v82 w1 (hT.below h1)) rfl rfl ?_
  refine f_guard rfl rfl rfl rfl ?_
  refine f_eqs ((encP (Ed.add dd (Ed.mul dd (le a) base) (Ed.mul dd (le a) base)))) ((encP (Ed.mul dd (le twoB) (Ed.mul dd (le a) base)))) rfl rfl rfl rfl rfl rfl rfl ((encP_len _)) (congrArg encP (mul_two _).symm) ?_
  refine f_pick (.bool true) rfl rfl rfl rfl rfl rfl ?_
  refine f_move (.bool true) rfl rfl rfl rfl rfl ?_
  refine f_guard rfl rfl rfl rfl ?_
  refine f_pt g600 0 pz_len rfl rfl rfl rfl rfl (fun _ h1 => (h1.blk b600).range) ?_
  refine f_guard rfl rfl rfl rfl ?_
  refine f_by g1 0 la rfl rfl rfl rfl rfl (fun _ h1 => (h1.blk b1).range) ?_
  refine f_guard rfl rfl rfl rfl ?_
  refine f_us #[.agg (Us pz).toArray, .agg (By a).toArray] (PB · (Ed.mul dd (le a) Ed.zero)) rfl rfl rfl own_cmul (fun w1 h1 => cmul_f (.inl ⟨rfl, rfl⟩) la w1 (hT.below h1)) rfl rfl fun r89 v89 => ?_
  refine f_guard rfl rfl rfl rfl ?_
  refine f_call #[.agg (Us r89).toArray] (.agg (By (encP (Ed.mul dd (le a) Ed.zero))).toArray) rfl rfl rfl own_chash (fun w1 h1 => chash_f v89 w1 (hT.below h1)) rfl rfl ?_
  refine f_guard rfl rfl rfl rfl ?_
  refine f_pt g600 0 pz_len rfl rfl rfl rfl rfl (fun _ h1 => (h1.blk b600).range) ?_
  refine f_guard rfl rfl rfl rfl ?_
  refine f_call #[.agg (Us pz).toArray] (.agg (By (encP Ed.zero)).toArray) rfl rfl rfl own_chash (fun w1 h1 => chash_f (.inl ⟨rfl, rfl⟩) w1 (hT.below h1)) rfl rfl ?_
  refine f_guard rfl rfl rfl rfl ?_
  refine f_eqs ((encP (Ed.mul dd (le a) Ed.zero))) ((encP Ed.zero)) rfl rfl rfl rfl rfl rfl rfl ((encP_len _)) (congrArg encP (Ed.mul_zero good _)) ?_
  refine f_pick (.bool true) rfl rfl rfl rfl rfl rfl ?_
  refine f_assign (.bool true) rfl rfl rfl rfl rfl ?_
  refine f_end fun w7 hw7 => ?_
  replace b1 := b1.later hw7
  replace b2 := b2.later hw7
  replace b3 := b3.later hw7
  replace b500 := b500.later hw7
  replace b501 := b501.later hw7
  replace b502 := b502.later hw7
  replace b600 := b600.later hw7
  replace hT := hT.below hw7
  replace hU := hU.step hw7
  refine hK _ _ ?_
  clear hK K
  exact c_ret fun a ha => bodyPost_ret (results_tmp rfl _ _ _) ha.defers ⟨congrArg Ending.returned (ha.get 6 _ rfl), hU⟩

theorem curveGroup_types : ∀ t ∈ Tryd.f5.params.toList, Tryd.prog.readableRec t = true ∧ t < Tryd.prog.types.size := by
  have h : Tryd.f5.params.toList.all (fun t => Tryd.prog.readableRec t && decide (t < Tryd.prog.types.size)) = true := by kernel_rfl
  intro t ht
  have := List.all_eq_true.1 h t ht
  simpa using this

set_option maxRecDepth 100000 in
theorem curveGroup_lifted (os : Os) (started : os.Started) (H : Type) (enc : TypeId × Value → H) :
    ReturnsInHanded {} Tryd.checked os 5 .any (fun w args => (Rows.curveGroupSpec.pre enc Tryd.prog Tryd.f5 [] false w args ∧ laidMetH Tryd.prog laid1 w) ∧ sizedMet enc Tryd.prog Tryd.f5 (OpenSpec.ofChange Rows.curveGroupSpec) false w args)
      (Rows.curveGroupSpec.post enc Tryd.prog Tryd.f5 false true false false) := by
  refine returnsInHanded_of_change_and (C := Tryd.checked) (X := fun w _ => laidMetH Tryd.prog laid1 w) (fun _ _ _ hh h => h.of_heap hh) own started (by kernel_rfl) Tryd.func5
    (ChangeSpec.witness_shaped (enc := enc) (C := Tryd.checked) (os := os) (X := fun w _ => laidMetH Tryd.prog laid1 w) false (World.doorLaid Tryd.prog 400 os) #[.agg (By (List.replicate 32 0)).toArray, .agg (By (List.replicate 32 0)).toArray, .agg (By (List.replicate 32 0)).toArray] 8 rfl (World.shaped_of_RefB (by kernel_rfl) (by kernel_rfl)) (by kernel_rfl) (by kernel_rfl) (by kernel_rfl) (door_met os _)) ?_
  intro W base args ds gs before hval0 hW _ _ hL _
  have hval : ∀ (j : Nat) t v, Tryd.f5.params[j]? = some t → args[j]? = some v → Value.okWide Tryd.prog W .any base t v := hval0
  have hW' : DataW.Whole enc Tryd.prog Tryd.f5.params.toList Rows.curveGroupSpec.vars false W args.toList ds gs before := hW
  obtain ⟨p, q, hA0, hV, rfl, hfz, hnd⟩ := hW
  have hA : DataW.TrodAll enc Tryd.prog W 0 (fun _ => true) true Tryd.f5.params.toList args.toList ds p := hA0
  rw [Tryd.params5] at hA hval
  obtain ⟨v0, v1, v2, d0, d1, d2, p0, p1, p2, rfl, rfl, rfl, h0, h1, h2⟩ := trodAll_three hA
  obtain ⟨rfl, rfl⟩ := trodVars_none hV
  obtain ⟨a, la, rfl⟩ := open_hash (hval 0 22 v0 rfl rfl) h0
  obtain ⟨b, lb, rfl⟩ := open_hash (hval 1 22 v1 rfl rfl) h1
  obtain ⟨c, lc, rfl⟩ := open_hash (hval 2 22 v2 rfl rfl) h2
  clear hA0 hval0
  refine (curveGroup_walk la lb lc W (of_laid hL)).mono fun e W' ⟨he, hb⟩ => ?_
  exact ⟨_, he, law_post (by kernel_rfl) rfl curveGroup_types hW' rfl hb⟩

theorem curveGroup_holds : Rows.CurveGroupSaid :=
  OpenClaim.holds_of_wide 5 Tryd.f5 rfl rfl rfl rfl rfl rfl rfl ⟨rfl, rfl, rfl, rfl, rfl⟩ rfl rfl rfl rfl rfl (by kernel_rfl) Tryd.func5 (by kernel_rfl)
    (of_decide_eq_true (by kernel_rfl)) (by unfold Func.isWrapper; first | (rw [if_pos (by decide +kernel)]; kernel_rfl) | (rw [if_neg (by decide +kernel)]; exact ⟨rfl, rfl⟩))
    (fun os started H enc _ => curveGroup_lifted os started H enc)

theorem curveGroup_card_holds : Rows.CurveGroupCardSaid :=
  Claim7.holds_tied_plain_at .later [] [.data] true Rows.curveGroupCard.stood.harness false
    curveGroup_holds (fun _ h => by cases h) (by kernel_rfl) (fun _ h => by cases h) curveGroup_row_tie rfl ⟨rfl, rfl⟩ (by kernel_rfl) rfl
    (fun f fn hf hfn => by
      obtain rfl : f = 5 := Option.some.inj ((show Tryd.prog.funcNamed "witan/witanlaw05.CurveGroup" = some 5 by kernel_rfl).symm.trans hf) |>.symm
      obtain rfl : fn = Tryd.f5 := (Option.some.inj (Tryd.func5.symm.trans hfn)).symm
      exact ⟨by kernel_rfl, fun j t ht => by
        have hm := Array.mem_of_getElem? ht
        have hall : (Tryd.f5.params.toList.all fun u => !Tryd.prog.wantsStandIn u) = true := by kernel_rfl
        have h2 := List.all_eq_true.1 hall t (Array.mem_toList_iff.2 hm)
        show Tryd.prog.wantsStandIn t = false
        simpa using h2⟩)
    (by kernel_rfl)
#print axioms curveGroup_card_holds
end Go.Proofs.YtgmiaaapaiccdaaDoor
