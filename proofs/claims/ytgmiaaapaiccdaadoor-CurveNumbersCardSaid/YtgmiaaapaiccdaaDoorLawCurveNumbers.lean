/-
  PROVED: CurveNumbers answers true for every input: multiples of the base point reckon as numbers modulo L do. No condition but the row's own: the table lies as the program's text lays it (the card ties it): the statement '..CardSaid' itself.
-/
import Derived.Test.YtgmiaaapaiccdaaDoorMn
import Derived.Test.YtgmiaaapaiccdaaDoorMl
namespace Go.Proofs.YtgmiaaapaiccdaaDoor
open Go.RowKit Go.IntWalk Nums
open Go.ChangeShapes Go.WideShapes Go.ChangeAt

set_option maxRecDepth 100000 in
set_option maxHeartbeats 8000000 in
theorem curveNumbers_walk {a : List UInt8} (la : a.length = 32) {b : List UInt8} (lb : b.length = 32) (w : World) (hT : Tw w) :
    Calls Tryd.prog 6 #[.agg (By a).toArray, .agg (By b).toArray] w fun e w' => e = .returned (.bool true) ∧ Below w.heap.size w w' := by
  refine calls_F (vs := [.agg (By a).toArray, .agg (By b).toArray]) 69 Tryd.func6 rfl (by rw [Tryd.ntmps6]; rfl) ?_
  have hw0 := hT.lt
  refine c_seq fun K hK => ?_
  refine c_lit ?_
  refine l_boxA ((By a).toArray) rfl rfl rfl rfl rfl fun W1 g1 hw1 hg1 b1 => ?_
  have q1 : w.heap.size ≤ g1 := by rw [hg1]; exact Nat.le_refl _
  clear hg1
  replace hT := hT.below hw1
  have hU : Up w _ := hw1
  refine l_boxA ((By b).toArray) rfl rfl rfl rfl rfl fun W2 g2 hw2 hg2 b2 => ?_
  have q2 : w.heap.size ≤ g2 := by rw [hg2]; exact hU.size
  have n1_2 : g1 ≠ g2 := by have := b1.lt; omega
  clear hg2
  replace b1 := b1.later hw2
  replace hT := hT.below hw2
  replace hU := hU.step hw2
  refine l_assign (.bool false) rfl rfl rfl rfl rfl ?_
  refine l_nil ?_
  refine hK _ _ ?_
  clear hK K
  refine c_seq fun K0 hK0 => ?_
  refine c_seq fun K hK => ?_
  refine c_qF ?_
  refine f_call #[] (.bool true) rfl rfl rfl own_lfirst (fun w1 h1 => lfirst_f w1 (hT.below h1)) rfl rfl ?_
  refine f_not true false rfl rfl rfl rfl rfl rfl ?_
  refine f_end fun w3 hw3 => ?_
  replace b1 := b1.later hw3
  replace b2 := b2.later hw3
  replace hT := hT.below hw3
  replace hU := hU.step hw3
  refine hK _ _ ?_
  clear hK K
  refine c_cond false rfl ?_
  rw [if_neg (by decide)]
  refine c_skip ?_
  refine hK0 _ _ ?_
  clear hK0 K0
  refine c_seq fun K hK => ?_
  refine c_lit ?_
  refine l_allocA ((By z64).toArray) rfl rfl rfl rfl (by kernel_rfl) fun W4 g4 hw4 hg4 b4 => ?_
  have q4 : w.heap.size ≤ g4 := by rw [hg4]; exact hU.size
  have n1_4 : g1 ≠ g4 := by have := b1.lt; omega
  have n2_4 : g2 ≠ g4 := by have := b2.lt; omega
  clear hg4
  replace b1 := b1.later hw4
  replace b2 := b2.later hw4
  replace hT := hT.below hw4
  replace hU := hU.step hw4
  refine l_allocA ((By z64).toArray) rfl rfl rfl rfl (by kernel_rfl) fun W5 g5 hw5 hg5 b5 => ?_
  have q5 : w.heap.size ≤ g5 := by rw [hg5]; exact hU.size
  have n1_5 : g1 ≠ g5 := by have := b1.lt; omega
  have n2_5 : g2 ≠ g5 := by have := b2.lt; omega
  have n4_5 : g4 ≠ g5 := by have := b4.lt; omega
  clear hg5
  replace b1 := b1.later hw5
  replace b2 := b2.later hw5
  replace b4 := b4.later hw5
  replace hT := hT.below hw5
  replace hU := hU.step hw5
  refine l_nil ?_
  refine hK _ _ ?_
  clear hK K
  refine c_seq fun K hK => ?_
  refine c_copy 2 (.tmp 12) (.tmp 13) rfl rfl rfl (tail_ok (by kernel_rfl)) (fun _ _ d _ _ h => by cases d <;> exact h) (by kernel_rfl) ?_
  refine f_slice64 g4 rfl rfl rfl rfl rfl ?_
  refine f_slice32 g1 rfl rfl rfl rfl rfl ?_
  refine f_copyEnd (k := 14) g4 64 g1 64 32 _ _ z64 a rfl rfl rfl (by rw [la]; rfl) b4 b1 (by omega) (by rw [z64_len]; omega) (fun w6 hw6 => ?_) rfl
  replace b1 := (b1.later hw6).rowFar n1_4 (By (cop z64 0 a)).toArray
  replace b2 := (b2.later hw6).rowFar n2_4 (By (cop z64 0 a)).toArray
  replace b5 := (b5.later hw6).rowFar (Ne.symm n4_5) (By (cop z64 0 a)).toArray
  replace b4 := (b4.later hw6).row (By (cop z64 0 a)).toArray
  replace hT := (hT.below hw6).row (g := g4) (by have := hw0; omega) (By (cop z64 0 a)).toArray
  replace hU := up_row (hU.step hw6) q4 (By (cop z64 0 a)).toArray
  clear hw6
  generalize w6.setRow g4 (By (cop z64 0 a)).toArray = W6 at *
  refine hK _ _ ?_
  clear hK K
  refine c_seq fun K hK => ?_
  refine c_copy 2 (.tmp 15) (.tmp 16) rfl rfl rfl (tail_ok (by kernel_rfl)) (fun _ _ d _ _ h => by cases d <;> exact h) (by kernel_rfl) ?_
  refine f_slice64 g5 rfl rfl rfl rfl rfl ?_
  refine f_slice32 g2 rfl rfl rfl rfl rfl ?_
  refine f_copyEnd (k := 17) g5 64 g2 64 32 _ _ z64 b rfl rfl rfl (by rw [lb]; rfl) b5 b2 (by omega) (by rw [z64_len]; omega) (fun w7 hw7 => ?_) rfl
  replace b1 := (b1.later hw7).rowFar n1_5 (By (cop z64 0 b)).toArray
  replace b2 := (b2.later hw7).rowFar n2_5 (By (cop z64 0 b)).toArray
  replace b4 := (b4.later hw7).rowFar n4_5 (By (cop z64 0 b)).toArray
  replace b5 := (b5.later hw7).row (By (cop z64 0 b)).toArray
  replace hT := (hT.below hw7).row (g := g5) (by have := hw0; omega) (By (cop z64 0 b)).toArray
  replace hU := up_row (hU.step hw7) q5 (By (cop z64 0 b)).toArray
  clear hw7
  generalize w7.setRow g5 (By (cop z64 0 b)).toArray = W7 at *
  refine hK _ _ ?_
  clear hK K
  refine c_seq fun K hK => ?_
  refine c_new 4 [nvS 7, nvS 8] (by decide) (by decide) ⟨⟨rfl, rfl, rfl, rfl, by kernel_rfl⟩, ⟨rfl, rfl, rfl, rfl, by kernel_rfl⟩, trivial⟩ (by kernel_rfl) (tail_ok (by kernel_rfl)) (by kernel_rfl) (fun _ _ d _ _ h => by cases d <;> exact h) ?_
  refine f_b64 g4 ((cop_len64 la)) rfl rfl rfl rfl rfl (fun _ h1 => (h1.blk b4).range) ?_
  refine f_call #[.agg (By ((cop z64 0 a))).toArray] (.agg (Us (ws ((le ((cop z64 0 a)) % LL)))).toArray) rfl rfl rfl own_wide (fun w1 h1 => wide_f ((cop_len64 la)) w1) rfl rfl ?_
  refine f_b64 g5 ((cop_len64 lb)) rfl rfl rfl rfl rfl (fun _ h1 => (h1.blk b5).range) ?_
  refine f_call #[.agg (By ((cop z64 0 b))).toArray] (.agg (Us (ws ((le ((cop z64 0 b)) % LL)))).toArray) rfl rfl rfl own_wide (fun w1 h1 => wide_f ((cop_len64 lb)) w1) rfl rfl ?_
  refine f_new [.tmp 19, .tmp 21] [(Us (ws ((le ((cop z64 0 a)) % LL)))).toArray, (Us (ws ((le ((cop z64 0 b)) % LL)))).toArray] ⟨rfl, rfl, trivial⟩ (by decide) ⟨⟨rfl, rfl, rfl⟩, ⟨rfl, rfl, rfl⟩, rfl⟩ ⟨⟨rfl, rfl, size_S _, Us_oneA _⟩, ⟨rfl, rfl, size_S _, Us_oneA _⟩, trivial⟩ fun f8 W8 hg8 hd8 hw8 hb8 => ?_
  have b800 : Blk W8 (f8 0) 59 ((Us (ws ((le ((cop z64 0 a)) % LL)))).toArray) := hb8.1
  have b801 : Blk W8 (f8 1) 59 ((Us (ws ((le ((cop z64 0 b)) % LL)))).toArray) := hb8.2.1
  clear hb8
  have q800 : w.heap.size ≤ f8 0 := Nat.le_trans hU.size (hg8 0 (by decide))
  have n1_800 : g1 ≠ f8 0 := by have := b1.lt; have := hg8 0 (by decide); omega
  have n2_800 : g2 ≠ f8 0 := by have := b2.lt; have := hg8 0 (by decide); omega
  have n4_800 : g4 ≠ f8 0 := by have := b4.lt; have := hg8 0 (by decide); omega
  have n5_800 : g5 ≠ f8 0 := by have := b5.lt; have := hg8 0 (by decide); omega
  have q801 : w.heap.size ≤ f8 1 := Nat.le_trans hU.size (hg8 1 (by decide))
  have n1_801 : g1 ≠ f8 1 := by have := b1.lt; have := hg8 1 (by decide); omega
  have n2_801 : g2 ≠ f8 1 := by have := b2.lt; have := hg8 1 (by decide); omega
  have n4_801 : g4 ≠ f8 1 := by have := b4.lt; have := hg8 1 (by decide); omega
  have n5_801 : g5 ≠ f8 1 := by have := b5.lt; have := hg8 1 (by decide); omega
  have n800_801 : f8 0 ≠ f8 1 := hd8 0 1 (by decide) (by decide) (by decide)
  replace b1 := b1.later hw8
  replace b2 := b2.later hw8
  replace b4 := b4.later hw8
  replace b5 := b5.later hw8
  replace hT := hT.below hw8
  replace hU := hU.step hw8
  clear hg8 hd8 hw8
  generalize hf800 : f8 0 = g800 at *
  generalize hf801 : f8 1 = g801 at *
  simp only [ptrs, Nat.reduceAdd, hf800, hf801]
  clear hf800 hf801 f8
  refine l_nil ?_
  refine k_sub (E' := [(2, .pointer (some ⟨g1, 0, none⟩)), (3, .pointer (some ⟨g2, 0, none⟩)), (4, .bool false), (5, .pointer (some ⟨g4, 0, none⟩)), (6, .pointer (some ⟨g5, 0, none⟩)), (7, .pointer (some ⟨g800, 0, none⟩)), (8, .pointer (some ⟨g801, 0, none⟩))]) ⟨rfl, rfl, rfl, rfl, rfl, rfl, rfl, trivial⟩ ?_
  refine hK _ _ ?_
  clear hK K
  refine c_seq fun K hK => ?_
  refine c_newF 1 [nvP 9] (by decide) ⟨⟨rfl, rfl, rfl, rfl, by kernel_rfl⟩, trivial⟩ ?_
  refine f_us #[] (QB · base) rfl rfl rfl own_cbase (fun w1 h1 => cbase_f w1) rfl rfl fun r22 v22 => ?_
  refine f_new [.tmp 22] [(Us r22).toArray] ⟨rfl, trivial⟩ (by decide) ⟨⟨rfl, rfl, rfl⟩, rfl⟩ ⟨⟨rfl, us_size pz_len |>.trans (us_size v22.len).symm, size_P v22.len, Us_oneA _⟩, trivial⟩ fun f9 W9 hg9 hd9 hw9 hb9 => ?_
  have b900 : Blk W9 (f9 0) 29 ((Us r22).toArray) := hb9.1
  clear hb9
  have q900 : w.heap.size ≤ f9 0 := Nat.le_trans hU.size (hg9 0 (by decide))
  have n1_900 : g1 ≠ f9 0 := by have := b1.lt; have := hg9 0 (by decide); omega
  have n2_900 : g2 ≠ f9 0 := by have := b2.lt; have := hg9 0 (by decide); omega
  have n4_900 : g4 ≠ f9 0 := by have := b4.lt; have := hg9 0 (by decide); omega
  have n5_900 : g5 ≠ f9 0 := by have := b5.lt; have := hg9 0 (by decide); omega
  have n800_900 : g800 ≠ f9 0 := by have := b800.lt; have := hg9 0 (by decide); omega
  have n801_900 : g801 ≠ f9 0 := by have := b801.lt; have := hg9 0 (by decide); omega
  replace b1 := b1.later hw9
  replace b2 := b2.later hw9
  replace b4 := b4.later hw9
  replace b5 := b5.later hw9
  replace b800 := b800.later hw9
  replace b801 := b801.later hw9
  replace hT := hT.below hw9
  replace hU := hU.step hw9
  clear hg9 hd9 hw9
  generalize hf900 : f9 0 = g900 at *
  simp only [ptrs, hf900]
  clear hf900 f9
  refine l_nil ?_
  refine k_sub (E' := [(2, .pointer (some ⟨g1, 0, none⟩)), (3, .pointer (some ⟨g2, 0, none⟩)), (4, .bool false), (5, .pointer (some ⟨g4, 0, none⟩)), (6, .pointer (some ⟨g5, 0, none⟩)), (7, .pointer (some ⟨g800, 0, none⟩)), (8, .pointer (some ⟨g801, 0, none⟩)), (9, .pointer (some ⟨g900, 0, none⟩))]) ⟨rfl, rfl, rfl, rfl, rfl, rfl, rfl, rfl, trivial⟩ ?_
  refine hK _ _ ?_
  clear hK K
  refine c_seq fun K0 hK0 => ?_
  refine c_seq fun K hK => ?_
  refine c_q (by kernel_rfl) (tail_ok (by kernel_rfl)) (fun _ _ d _ _ h => by cases d <;> exact h) ?_
  refine f_pt g900 0 v22.len rfl rfl rfl rfl rfl (fun _ h1 => (h1.blk b900).range) ?_
  refine f_by g1 0 la rfl rfl rfl rfl rfl (fun _ h1 => (h1.blk b1).range) ?_
  refine f_us #[.agg (Us r22).toArray, .agg (By a).toArray] (PB · (Ed.mul dd (le a) base)) rfl rfl rfl own_cmul (fun w1 h1 => cmul_f (.inr v22) la w1 (hT.below h1)) rfl rfl fun r25 v25 => ?_
  refine f_call #[.agg (Us r25).toArray] (.agg (By (encP (Ed.mul dd (le a) base))).toArray) rfl rfl rfl own_chash (fun w1 h1 => chash_f v25 w1 (hT.below h1)) rfl rfl ?_
  refine f_pt g900 0 v22.len rfl rfl rfl rfl rfl (fun _ h1 => (h1.blk b900).range) ?_
  refine f_sc g800 ((le ((cop z64 0 a)) % LL)) rfl rfl rfl rfl rfl (fun _ h1 => (h1.blk b800).range) ?_
  refine f_call #[.agg (Us (ws ((le ((cop z64 0 a)) % LL)))).toArray] (.agg (By (Nums.bytes 32 (le ((cop z64 0 a)) % LL))).toArray) rfl rfl rfl own_schash (fun w1 h1 => schash_f (le ((cop z64 0 a)) % LL) w1) rfl rfl ?_
  refine f_us #[.agg (Us r22).toArray, .agg (By ((Nums.bytes 32 (le ((cop z64 0 a)) % LL)))).toArray] (PB · (Ed.mul dd (le ((Nums.bytes 32 (le ((cop z64 0 a)) % LL)))) base)) rfl rfl rfl own_cmul (fun w1 h1 => cmul_f (.inr v22) ((Nums.bytes_len _ _)) w1 (hT.below h1)) rfl rfl fun r30 v30 => ?_
  refine f_call #[.agg (Us r30).toArray] (.agg (By (encP (Ed.mul dd (le ((Nums.bytes 32 (le ((cop z64 0 a)) % LL)))) base))).toArray) rfl rfl rfl own_chash (fun w1 h1 => chash_f v30 w1 (hT.below h1)) rfl rfl ?_
  refine f_nes ((encP (Ed.mul dd (le a) base))) ((encP (Ed.mul dd (le ((Nums.bytes 32 (le ((cop z64 0 a)) % LL)))) base))) rfl rfl rfl rfl rfl rfl rfl ((encP_len _)) (congrArg encP (num_eq la)) ?_
  refine f_end fun w10 hw10 => ?_
  replace b1 := b1.later hw10
  replace b2 := b2.later hw10
  replace b4 := b4.later hw10
  replace b5 := b5.later hw10
  replace b800 := b800.later hw10
  replace b801 := b801.later hw10
  replace b900 := b900.later hw10
  replace hT := hT.below hw10
  replace hU := hU.step hw10
  refine hK _ _ ?_
  clear hK K
  refine c_cond false rfl ?_
  rw [if_neg (by decide)]
  refine c_skip ?_
  refine hK0 _ _ ?_
  clear hK0 K0
  refine c_seq fun K hK => ?_
  refine c_q (by kernel_rfl) (tail_ok (by kernel_rfl)) (fun _ _ d _ _ h => by cases d <;> exact h) ?_
  refine f_pt g900 0 v22.len rfl rfl rfl rfl rfl (fun _ h1 => (h1.blk b900).range) ?_
  refine f_sc g800 ((le ((cop z64 0 a)) % LL)) rfl rfl rfl rfl rfl (fun _ h1 => (h1.blk b800).range) ?_
  refine f_sc g801 ((le ((cop z64 0 b)) % LL)) rfl rfl rfl rfl rfl (fun _ h1 => (h1.blk b801).range) ?_
  refine f_call #[.agg (Us (ws ((le ((cop z64 0 a)) % LL)))).toArray, .agg (Us (ws ((le ((cop z64 0 b)) % LL)))).toArray] (.agg (Us (ws ((((le ((cop z64 0 a)) % LL) + (le ((cop z64 0 b)) % LL)) % LL)))).toArray) rfl rfl rfl own_scadd (fun w1 h1 => scadd_f (ll_mod _) (ll_mod _) w1) rfl rfl ?_
  refine f_call #[.agg (Us (ws ((((le ((cop z64 0 a)) % LL) + (le ((cop z64 0 b)) % LL)) % LL)))).toArray] (.agg (By (Nums.bytes 32 (((le ((cop z64 0 a)) % LL) + (le ((cop z64 0 b)) % LL)) % LL))).toArray) rfl rfl rfl own_schash (fun w1 h1 => schash_f (((le ((cop z64 0 a)) % LL) + (le ((cop z64 0 b)) % LL)) % LL) w1) rfl rfl ?_
  refine f_us #[.agg (Us r22).toArray, .agg (By ((Nums.bytes 32 (((le ((cop z64 0 a)) % LL) + (le ((cop z64 0 b)) % LL)) % LL)))).toArray] (PB · (Ed.mul dd (le ((Nums.bytes 32 (((le ((cop z64 0 a)) % LL) + (le ((cop z64 0 b)) % LL)) % LL)))) base)) rfl rfl rfl own_cmul (fun w1 h1 => cmul_f (.inr v22) ((Nums.bytes_len _ _)) w1 (hT.below h1)) rfl rfl fun r38 v38 => ?_
  refine f_call #[.agg (Us r38).toArray] (.agg (By (encP (Ed.mul dd (le ((Nums.bytes 32 (((le ((cop z64 0 a)) % LL) + (le ((cop z64 0 b)) % LL)) % LL)))) base))).toArray) rfl rfl rfl own_chash (fun w1 h1 => chash_f v38 w1 (hT.below h1)) rfl rfl ?_
  refine f_pt g900 0 v22.len rfl rfl rfl rfl rfl (fun _ h1 => (h1.blk b900).range) ?_
  refine f_sc g800 ((le ((cop z64 0 a)) % LL)) rfl rfl rfl rfl rfl (fun _ h1 => (h1.blk b800).range) ?_
  refine f_call #[.agg (Us (ws ((le ((cop z64 0 a)) % LL)))).toArray] (.agg (By (Nums.bytes 32 (le ((cop z64 0 a)) % LL))).toArray) rfl rfl rfl own_schash (fun w1 h1 => schash_f (le ((cop z64 0 a)) % LL) w1) rfl rfl ?_
  refine f_us #[.agg (Us r22).toArray, .agg (By ((Nums.bytes 32 (le ((cop z64 0 a)) % LL)))).toArray] (PB · (Ed.mul dd (le ((Nums.bytes 32 (le ((cop z64 0 a)) % LL)))) base)) rfl rfl rfl own_cmul (fun w1 h1 => cmul_f (.inr v22) ((Nums.bytes_len _ _)) w1 (hT.below h1)) rfl rfl fun r43 v43 => ?_
  refine f_pt g900 0 v22.len rfl rfl rfl rfl rfl (fun _ h1 => (h1.blk b900).range) ?_
  refine f_sc g801 ((le ((cop z64 0 b)) % LL)) rfl rfl rfl rfl rfl (fun _ h1 => (h1.blk b801).range) ?_
  refine f_call #[.agg (Us (ws ((le ((cop z64 0 b)) % LL)))).toArray] (.agg (By (Nums.bytes 32 (le ((cop z64 0 b)) % LL))).toArray) rfl rfl rfl own_schash (fun w1 h1 => schash_f (le ((cop z64 0 b)) % LL) w1) rfl rfl ?_
  refine f_us #[.agg (Us r22).toArray, .agg (By ((Nums.bytes 32 (le ((cop z64 0 b)) % LL)))).toArray] (PB · (Ed.mul dd (le ((Nums.bytes 32 (le ((cop z64 0 b)) % LL)))) base)) rfl rfl rfl own_cmul (fun w1 h1 => cmul_f (.inr v22) ((Nums.bytes_len _ _)) w1 (hT.below h1)) rfl rfl fun r47 v47 => ?_
  refine f_us #[.agg (Us r43).toArray, .agg (Us r47).toArray] (QB · (Ed.add dd (Ed.mul dd (le ((Nums.bytes 32 (le ((cop z64 0 a)) % LL)))) base) (Ed.mul dd (le ((Nums.bytes 32 (le ((cop z64 0 b)) % LL)))) base))) rfl rfl rfl own_cadd (fun w1 h1 => cadd_f v43 v47 w1 (hT.below h1)) rfl rfl fun r48 v48 => ?_
  refine f_call #[.agg (Us r48).toArray] (.agg (By (encP (Ed.add dd (Ed.mul dd (le ((Nums.bytes 32 (le ((cop z64 0 a)) % LL)))) base) (Ed.mul dd (le ((Nums.bytes 32 (le ((cop z64 0 b)) % LL)))) base)))).toArray) rfl rfl rfl own_chash (fun w1 h1 => chash_f (.inr v48) w1 (hT.below h1)) rfl rfl ?_
  refine f_eqs ((encP (Ed.mul dd (le ((Nums.bytes 32 (((le ((cop z64 0 a)) % LL) + (le ((cop z64 0 b)) % LL)) % LL)))) base))) ((encP (Ed.add dd (Ed.mul dd (le ((Nums.bytes 32 (le ((cop z64 0 a)) % LL)))) base) (Ed.mul dd (le ((Nums.bytes 32 (le ((cop z64 0 b)) % LL)))) base)))) rfl rfl rfl rfl rfl rfl rfl ((encP_len _)) (congrArg encP (num_add _ _)) ?_
  refine f_move (.bool true) rfl rfl rfl rfl rfl ?_
  refine f_guard rfl rfl rfl rfl ?_
  refine f_pt g900 0 v22.len rfl rfl rfl rfl rfl (fun _ h1 => (h1.blk b900).range) ?_
  refine f_guard rfl rfl rfl rfl ?_
  refine f_sc g800 ((le ((cop z64 0 a)) % LL)) rfl rfl rfl rfl rfl (fun _ h1 => (h1.blk b800).range) ?_
  refine f_guard rfl rfl rfl rfl ?_
  refine f_sc g801 ((le ((cop z64 0 b)) % LL)) rfl rfl rfl rfl rfl (fun _ h1 => (h1.blk b801).range) ?_
  refine f_guard rfl rfl rfl rfl ?_
  refine f_call #[.agg (Us (ws ((le ((cop z64 0 a)) % LL)))).toArray, .agg (Us (ws ((le ((cop z64 0 b)) % LL)))).toArray] (.agg (Us (ws (((le ((cop z64 0 a)) % LL) * (le ((cop z64 0 b)) % LL) % LL)))).toArray) rfl rfl rfl own_scmul (fun w1 h1 => scmul_f (ll_mod _) (ll_mod _) w1) rfl rfl ?_
  refine f_guard rfl rfl rfl rfl ?_
  refine f_call #[.agg (Us (ws (((le ((cop z64 0 a)) % LL) * (le ((cop z64 0 b)) % LL) % LL)))).toArray] (.agg (By (Nums.bytes 32 ((le ((cop z64 0 a)) % LL) * (le ((cop z64 0 b)) % LL) % LL))).toArray) rfl rfl rfl own_schash (fun w1 h1 => schash_f ((le ((cop z64 0 a)) % LL) * (le ((cop z64 0 b)) % LL) % LL) w1) rfl rfl ?_
  refine f_guard rfl rfl rfl rfl ?_
  refine f_us #[.agg (Us r22).toArray, .agg (By ((Nums.bytes 32 ((le ((cop z64 0 a)) % LL) * (le ((cop z64 0 b)) % LL) % LL)))).toArray] (PB · (Ed.mul dd (le ((Nums.bytes 32 ((le ((cop z64 0 a)) % LL) * (le ((cop z64 0 b)) % LL) % LL)))) base)) rfl rfl rfl own_cmul (fun w1 h1 => cmul_f (.inr v22) ((Nums.bytes_len _ _)) w1 (hT.below h1)) rfl rfl fun r57 v57 => ?_
  refine f_guard rfl rfl rfl rfl ?_
  refine f_call #[.agg (Us r57).toArray] (.agg (By (encP (Ed.mul dd (le ((Nums.bytes 32 ((le ((cop z64 0 a)) % LL) * (le ((cop z64 0 b)) % LL) % LL)))) base))).toArray) rfl rfl rfl own_chash (fun w1 h1 => chash_f v57 w1 (hT.below h1)) rfl rfl ?_
  refine f_guard rfl rfl rfl rfl ?_
  refine f_pt g900 0 v22.len rfl rfl rfl rfl rfl (fun _ h1 => (h1.blk b900).range) ?_
  refine f_guard rfl rfl rfl rfl ?_
  refine f_sc g800 ((le ((cop z64 0 a)) % LL)) rfl rfl rfl rfl rfl (fun _ h1 => (h1.blk b800).range) ?_
  refine f_guard rfl rfl rfl rfl ?_
  refine f_call #[.agg (Us (ws ((le ((cop z64 0 a)) % LL)))).toArray] (.agg (By (Nums.bytes 32 (le ((cop z64 0 a)) % LL))).toArray) rfl rfl rfl own_schash (fun w1 h1 => schash_f (le ((cop z64 0 a)) % LL) w1) rfl rfl ?_
  refine f_guard rfl rfl rfl rfl ?_
  refine f_us #[.agg (Us r22).toArray, .agg (By ((Nums.bytes 32 (le ((cop z64 0 a)) % LL)))).toArray] (PB · (Ed.mul dd (le ((Nums.bytes 32 (le ((cop z64 0 a)) % LL)))) base)) rfl rfl rfl own_cmul (fun w1 h1 => cmul_f (.inr v22) ((Nums.bytes_len _ _)) w1 (hT.below h1)) rfl rfl fun r62 v62 => ?_
  refine f_guard rfl rfl rfl rfl ?_
  refine f_sc g801 ((le ((cop z64 0 b)) % LL)) rfl rfl rfl rfl rfl (fun _ h1 => (h1.blk b801).range) ?_
  refine f_guard rfl rfl rfl rfl ?_
  refine f_call #[.agg (Us (ws ((le ((cop z64 0 b)) % LL)))).toArray] (.agg (By (Nums.bytes 32 (le ((cop z64 0 b)) % LL))).toArray) rfl rfl rfl own_schash (fun w1 h1 => schash_f (le ((cop z64 0 b)) % LL) w1) rfl rfl ?_
  refine f_guard rfl rfl rfl rfl ?_
  refine f_us #[.agg (Us r62).toArray, .agg (By ((Nums.bytes 32 (le ((cop z64 0 b)) % LL)))).toArray] (PB · (Ed.mul dd (le ((Nums.bytes 32 (le ((cop z64 0 b)) % LL)))) (Ed.mul dd (le ((Nums.bytes 32 (le ((cop z64 0 a)) % LL)))) base))) rfl rfl rfl own_cmul (fun w1 h1 => cmul_f v62 ((Nums.bytes_len _ _)) w1 (hT.below h1)) rfl rfl fun r65 v65 => ?_
  refine f_guard rfl rfl rfl rfl ?_
  refine f_call #[.agg (Us r65).toArray] (.agg (By (encP (Ed.mul dd (le ((Nums.bytes 32 (le ((cop z64 0 b)) % LL)))) (Ed.mul dd (le ((Nums.bytes 32 (le ((cop z64 0 a)) % LL)))) base)))).toArray) rfl rfl rfl own_chash (fun w1 h1 => chash_f v65 w1 (hT.below h1)) rfl rfl ?_
  refine f_guard rfl rfl rfl rfl ?_
  refine f_eqs ((encP (Ed.mul dd (le ((Nums.bytes 32 ((le ((cop z64 0 a)) % LL) * (le ((cop z64 0 b)) % LL) % LL)))) base))) ((encP (Ed.mul dd (le ((Nums.bytes 32 (le ((cop z64 0 b)) % LL)))) (Ed.mul dd (le ((Nums.bytes 32 (le ((cop z64 0 a)) % LL)))) base)))) rfl rfl rfl rfl rfl rfl rfl ((encP_len _)) (congrArg encP (num_mul _ _)) ?_
  refine f_pick (.bool true) rfl rfl rfl rfl rfl rfl ?_
  refine f_assign (.bool true) rfl rfl rfl rfl rfl ?_
  refine f_end fun w11 hw11 => ?_
  replace b1 := b1.later hw11
  replace b2 := b2.later hw11
  replace b4 := b4.later hw11
  replace b5 := b5.later hw11
  replace b800 := b800.later hw11
  replace b801 := b801.later hw11
  replace b900 := b900.later hw11
  replace hT := hT.below hw11
  replace hU := hU.step hw11
  refine hK _ _ ?_
  clear hK K
  exact c_ret fun a ha => bodyPost_ret (results_tmp rfl _ _ _) ha.defers ⟨congrArg Ending.returned (ha.get 4 _ rfl), hU⟩

theorem curveNumbers_types : ∀ t ∈ Tryd.f6.params.toList, Tryd.prog.readableRec t = true ∧ t < Tryd.prog.types.size := by
  have h : Tryd.f6.params.toList.all (fun t => Tryd.prog.readableRec t && decide (t < Tryd.prog.types.size)) = true := by kernel_rfl
  intro t ht
  have := List.all_eq_true.1 h t ht
  simpa using this

set_option maxRecDepth 100000 in
theorem curveNumbers_lifted (os : Os) (started : os.Started) (H : Type) (enc : TypeId × Value → H) :
    ReturnsInHanded {} Tryd.checked os 6 .any (fun w args => (Rows.curveNumbersSpec.pre enc Tryd.prog Tryd.f6 [] false w args ∧ laidMetH Tryd.prog laid1 w) ∧ sizedMet enc Tryd.prog Tryd.f6 (OpenSpec.ofChange Rows.curveNumbersSpec) false w args)
      (Rows.curveNumbersSpec.post enc Tryd.prog Tryd.f6 false true false false) := by
  refine returnsInHanded_of_change_and (C := Tryd.checked) (X := fun w _ => laidMetH Tryd.prog laid1 w) (fun _ _ _ hh h => h.of_heap hh) own started (by kernel_rfl) Tryd.func6
    (ChangeSpec.witness_shaped (enc := enc) (C := Tryd.checked) (os := os) (X := fun w _ => laidMetH Tryd.prog laid1 w) false (World.doorLaid Tryd.prog 400 os) #[.agg (By (List.replicate 32 0)).toArray, .agg (By (List.replicate 32 0)).toArray] 8 rfl (World.shaped_of_RefB (by kernel_rfl) (by kernel_rfl)) (by kernel_rfl) (by kernel_rfl) (by kernel_rfl) (door_met os _)) ?_
  intro W base args ds gs before hval0 hW _ _ hL _
  have hval : ∀ (j : Nat) t v, Tryd.f6.params[j]? = some t → args[j]? = some v → Value.okWide Tryd.prog W .any base t v := hval0
  have hW' : DataW.Whole enc Tryd.prog Tryd.f6.params.toList Rows.curveNumbersSpec.vars false W args.toList ds gs before := hW
  obtain ⟨p, q, hA0, hV, rfl, hfz, hnd⟩ := hW
  have hA : DataW.TrodAll enc Tryd.prog W 0 (fun _ => true) true Tryd.f6.params.toList args.toList ds p := hA0
  rw [Tryd.params6] at hA hval
  obtain ⟨v0, v1, d0, d1, p0, p1, rfl, rfl, rfl, h0, h1⟩ := trodAll_two hA
  obtain ⟨rfl, rfl⟩ := trodVars_none hV
  obtain ⟨a, la, rfl⟩ := open_hash (hval 0 22 v0 rfl rfl) h0
  obtain ⟨b, lb, rfl⟩ := open_hash (hval 1 22 v1 rfl rfl) h1
  clear hA0 hval0
  refine (curveNumbers_walk la lb W (of_laid hL)).mono fun e W' ⟨he, hb⟩ => ?_
  exact ⟨_, he, law_post (by kernel_rfl) rfl curveNumbers_types hW' rfl hb⟩

theorem curveNumbers_holds : Rows.CurveNumbersSaid :=
  OpenClaim.holds_of_wide 6 Tryd.f6 rfl rfl rfl rfl rfl rfl rfl ⟨rfl, rfl, rfl, rfl, rfl⟩ rfl rfl rfl rfl rfl (by kernel_rfl) Tryd.func6 (by kernel_rfl)
    (of_decide_eq_true (by kernel_rfl)) (by unfold Func.isWrapper; first | (rw [if_pos (by decide +kernel)]; kernel_rfl) | (rw [if_neg (by decide +kernel)]; exact ⟨rfl, rfl⟩))
    (fun os started H enc _ => curveNumbers_lifted os started H enc)

theorem curveNumbers_card_holds : Rows.CurveNumbersCardSaid :=
  Claim7.holds_tied_plain_at .later [] [.data] true Rows.curveNumbersCard.stood.harness false
    curveNumbers_holds (fun _ h => by cases h) (by kernel_rfl) (fun _ h => by cases h) curveNumbers_row_tie rfl ⟨rfl, rfl⟩ (by kernel_rfl) rfl
    (fun f fn hf hfn => by
      obtain rfl : f = 6 := Option.some.inj ((show Tryd.prog.funcNamed "witan/witanlaw05.CurveNumbers" = some 6 by kernel_rfl).symm.trans hf) |>.symm
      obtain rfl : fn = Tryd.f6 := (Option.some.inj (Tryd.func6.symm.trans hfn)).symm
      exact ⟨by kernel_rfl, fun j t ht => by
        have hm := Array.mem_of_getElem? ht
        have hall : (Tryd.f6.params.toList.all fun u => !Tryd.prog.wantsStandIn u) = true := by kernel_rfl
        have h2 := List.all_eq_true.1 hall t (Array.mem_toList_iff.2 hm)
        show Tryd.prog.wantsStandIn t = false
        simpa using h2⟩)
    (by kernel_rfl)
#print axioms curveNumbers_card_holds
end Go.Proofs.YtgmiaaapaiccdaaDoor
