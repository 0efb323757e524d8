/-
  PROVED: CurveSums answers true for every input: sums, negatives and multiples of points are those of the document. No condition but the row's own: the table lies as the program's text lays it (the card ties it): the statement '..CardSaid' itself.
-/
import Derived.Test.YtgmiaaapaiccdaaDoorMm
import Derived.Test.YtgmiaaapaiccdaaDoorMl
namespace Go.Proofs.YtgmiaaapaiccdaaDoor
open Go.RowKit Go.IntWalk Nums
open Go.ChangeShapes Go.WideShapes Go.ChangeAt

set_option maxRecDepth 100000 in
set_option maxHeartbeats 8000000 in
theorem curveSums_walk {n : List UInt8} (ln : n.length = 32) {m : List UInt8} (lm : m.length = 32) {b : List UInt8} (lb : b.length = 32) (w : World) (hT : Tw w) :
    Calls Tryd.prog 4 #[.agg (By n).toArray, .agg (By m).toArray, .agg (By b).toArray] w fun e w' => e = .returned (.bool true) ∧ Below w.heap.size w w' := by
  refine calls_F (vs := [.agg (By n).toArray, .agg (By m).toArray, .agg (By b).toArray]) 97 Tryd.func4 rfl (by rw [Tryd.ntmps4]; rfl) ?_
  have hw0 := hT.lt
  refine c_seq fun K hK => ?_
  refine c_lit ?_
  refine l_boxA ((By n).toArray) rfl rfl rfl rfl rfl fun W1 g1 hw1 hg1 b1 => ?_
  have q1 : w.heap.size ≤ g1 := by rw [hg1]; exact Nat.le_refl _
  clear hg1
  replace hT := hT.below hw1
  have hU : Up w _ := hw1
  refine l_boxA ((By m).toArray) rfl rfl rfl rfl rfl fun W2 g2 hw2 hg2 b2 => ?_
  have q2 : w.heap.size ≤ g2 := by rw [hg2]; exact hU.size
  have n1_2 : g1 ≠ g2 := by have := b1.lt; omega
  clear hg2
  replace b1 := b1.later hw2
  replace hT := hT.below hw2
  replace hU := hU.step hw2
  refine l_boxA ((By b).toArray) rfl rfl rfl rfl rfl fun W3 g3 hw3 hg3 b3 => ?_
  have q3 : w.heap.size ≤ g3 := by rw [hg3]; exact hU.size
  have n1_3 : g1 ≠ g3 := by have := b1.lt; omega
  have n2_3 : g2 ≠ g3 := by have := b2.lt; omega
  clear hg3
  replace b1 := b1.later hw3
  replace b2 := b2.later hw3
  replace hT := hT.below hw3
  replace hU := hU.step hw3
  refine l_assign (.bool false) rfl rfl rfl rfl rfl ?_
  refine l_nil ?_
  refine hK _ _ ?_
  clear hK K
  refine c_seq fun K0 hK0 => ?_
  refine c_seq fun K hK => ?_
  refine c_qF ?_
  refine f_call #[] (.bool true) rfl rfl rfl own_lfirst (fun w1 h1 => lfirst_f w1 (hT.below h1)) rfl rfl ?_
  refine f_not true false rfl rfl rfl rfl rfl rfl ?_
  refine f_end fun w4 hw4 => ?_
  replace b1 := b1.later hw4
  replace b2 := b2.later hw4
  replace b3 := b3.later hw4
  replace hT := hT.below hw4
  replace hU := hU.step hw4
  refine hK _ _ ?_
  clear hK K
  refine c_cond false rfl ?_
  rw [if_neg (by decide)]
  refine c_skip ?_
  refine hK0 _ _ ?_
  clear hK0 K0
  by_cases hx : ∃ A, Ed.On dd A ∧ encP A = b
  · obtain ⟨A, hA, rfl⟩ := hx
    refine c_seq fun K hK => ?_
    refine c_newF 1 [nvC 7] (by decide) ⟨⟨rfl, rfl, rfl, rfl, by kernel_rfl⟩, trivial⟩ ?_
    refine f_cur #[] rfl rfl rfl own_rnew (fun w1 _ => rnew_f w1) rfl rfl fun r16 v16 => ?_
    refine f_new [.tmp 16] [(Is r16).toArray] ⟨rfl, trivial⟩ (by decide) ⟨⟨rfl, rfl, rfl⟩, rfl⟩ ⟨⟨rfl, size_C0 v16.len, size_C v16.len, Is_oneA _⟩, trivial⟩ fun f5 W5 hg5 hd5 hw5 hb5 => ?_
    have b500 : Blk W5 (f5 0) 36 ((Is r16).toArray) := hb5.1
    clear hb5
    have q500 : w.heap.size ≤ f5 0 := Nat.le_trans hU.size (hg5 0 (by decide))
    have n1_500 : g1 ≠ f5 0 := by have := b1.lt; have := hg5 0 (by decide); omega
    have n2_500 : g2 ≠ f5 0 := by have := b2.lt; have := hg5 0 (by decide); omega
    have n3_500 : g3 ≠ f5 0 := by have := b3.lt; have := hg5 0 (by decide); omega
    replace b1 := b1.later hw5
    replace b2 := b2.later hw5
    replace b3 := b3.later hw5
    replace hT := hT.below hw5
    replace hU := hU.step hw5
    clear hg5 hd5 hw5
    generalize hf500 : f5 0 = g500 at *
    simp only [ptrs, hf500]
    clear hf500 f5
    refine l_nil ?_
    refine k_sub (E' := [(3, .pointer (some ⟨g1, 0, none⟩)), (4, .pointer (some ⟨g2, 0, none⟩)), (5, .pointer (some ⟨g3, 0, none⟩)), (6, .bool false), (7, .pointer (some ⟨g500, 0, none⟩))]) ⟨rfl, rfl, rfl, rfl, rfl, trivial⟩ ?_
    refine hK _ _ ?_
    clear hK K
    refine c_seq fun K hK => ?_
    refine c_newF 5 [nvP 8] (by decide) ⟨⟨rfl, rfl, rfl, rfl, by kernel_rfl⟩, trivial⟩ ?_
    refine f_by g3 0 ((encP_len _)) rfl rfl rfl rfl rfl (fun _ h1 => (h1.blk b3).range) ?_
    refine f_callV #[.agg (By (encP A)).toArray] (fun v => ∃ l, QB l A ∧ v = .tuple #[.agg (Us l).toArray, .int .i64 0]) rfl rfl rfl own_cdecode (fun w1 h1 => cdec_pt hA w1 (hT.below h1)) rfl rfl ?_
    rintro _ ⟨l19, q19, rfl⟩
    refine f_move (.tuple #[.agg (Us l19).toArray, .int .i64 0]) rfl rfl rfl rfl rfl ?_
    refine f_extract (.agg (Us l19).toArray) rfl rfl rfl rfl rfl rfl ?_
    refine f_extract (.int .i64 0) rfl rfl rfl rfl rfl rfl ?_
    refine f_new [.tmp 20] [(Us l19).toArray] ⟨rfl, trivial⟩ (by decide) ⟨⟨rfl, rfl, rfl⟩, rfl⟩ ⟨⟨rfl, us_size pz_len |>.trans (us_size q19.len).symm, size_P q19.len, Us_oneA _⟩, trivial⟩ fun f6 W6 hg6 hd6 hw6 hb6 => ?_
    have b600 : Blk W6 (f6 0) 29 ((Us l19).toArray) := hb6.1
    clear hb6
    have q600 : w.heap.size ≤ f6 0 := Nat.le_trans hU.size (hg6 0 (by decide))
    have n1_600 : g1 ≠ f6 0 := by have := b1.lt; have := hg6 0 (by decide); omega
    have n2_600 : g2 ≠ f6 0 := by have := b2.lt; have := hg6 0 (by decide); omega
    have n3_600 : g3 ≠ f6 0 := by have := b3.lt; have := hg6 0 (by decide); omega
    have n500_600 : g500 ≠ f6 0 := by have := b500.lt; have := hg6 0 (by decide); omega
    replace b1 := b1.later hw6
    replace b2 := b2.later hw6
    replace b3 := b3.later hw6
    replace b500 := b500.later hw6
    replace hT := hT.below hw6
    replace hU := hU.step hw6
    clear hg6 hd6 hw6
    generalize hf600 : f6 0 = g600 at *
    simp only [ptrs, hf600]
    clear hf600 f6
    refine l_assign (.int .i64 0) rfl rfl rfl rfl rfl ?_
    refine l_nil ?_
    refine hK _ _ ?_
    clear hK K
    refine c_seq fun K hK => ?_
    refine c_newF 6 [nvQ 10] (by decide) ⟨⟨rfl, rfl, rfl, rfl, by kernel_rfl⟩, trivial⟩ ?_
    refine f_cu g500 v16.len rfl rfl rfl rfl rfl (fun _ h1 => (h1.blk b500).range) ?_
    refine f_by g3 0 ((encP_len _)) rfl rfl rfl rfl rfl (fun _ h1 => (h1.blk b3).range) ?_
    refine f_callV #[.agg (Is r16).toArray, .agg (By (encP A)).toArray] (fun v => ∃ X Y Z T, PR X Y Z T A ∧ v = .tuple #[.agg (pt X Y Z T).toArray, .bool true]) rfl rfl rfl own_rdecode (fun w1 _ => rdec_pt v16 hA w1) rfl rfl ?_
    rintro _ ⟨X25, Y25, Z25, T25, v25, rfl⟩
    refine f_move (.tuple #[.agg (pt X25 Y25 Z25 T25).toArray, .bool true]) rfl rfl rfl rfl rfl ?_
    refine f_extract (.agg (pt X25 Y25 Z25 T25).toArray) rfl rfl rfl rfl rfl rfl ?_
    refine f_extract (.bool true) rfl rfl rfl rfl rfl rfl ?_
    refine f_new [.tmp 26] [(pt X25 Y25 Z25 T25).toArray] ⟨rfl, trivial⟩ (by decide) ⟨⟨rfl, rfl, rfl⟩, rfl⟩ ⟨⟨rfl, pt0_len.trans (pr_len v25).symm, size_pt _ (pr_len v25), pt_one _ _ _ _⟩, trivial⟩ fun f7 W7 hg7 hd7 hw7 hb7 => ?_
    have b700 : Blk W7 (f7 0) 39 ((pt X25 Y25 Z25 T25).toArray) := hb7.1
    clear hb7
    have q700 : w.heap.size ≤ f7 0 := Nat.le_trans hU.size (hg7 0 (by decide))
    have n1_700 : g1 ≠ f7 0 := by have := b1.lt; have := hg7 0 (by decide); omega
    have n2_700 : g2 ≠ f7 0 := by have := b2.lt; have := hg7 0 (by decide); omega
    have n3_700 : g3 ≠ f7 0 := by have := b3.lt; have := hg7 0 (by decide); omega
    have n500_700 : g500 ≠ f7 0 := by have := b500.lt; have := hg7 0 (by decide); omega
    have n600_700 : g600 ≠ f7 0 := by have := b600.lt; have := hg7 0 (by decide); omega
    replace b1 := b1.later hw7
    replace b2 := b2.later hw7
    replace b3 := b3.later hw7
    replace b500 := b500.later hw7
    replace b600 := b600.later hw7
    replace hT := hT.below hw7
    replace hU := hU.step hw7
    clear hg7 hd7 hw7
    generalize hf700 : f7 0 = g700 at *
    simp only [ptrs, hf700]
    clear hf700 f7
    refine l_assign (.bool true) rfl rfl rfl rfl rfl ?_
    refine l_nil ?_
    refine hK _ _ ?_
    clear hK K
    refine c_seq fun K0 hK0 => ?_
    refine c_seq fun K hK => ?_
    refine c_qF ?_
    refine f_move (.bool true) rfl rfl rfl rfl rfl ?_
    refine f_move (.int .i64 0) rfl rfl rfl rfl rfl ?_
    refine f_eqE 0 0 true rfl rfl rfl rfl rfl rfl rfl (by decide) ?_
    refine f_neqb true true false rfl rfl rfl rfl rfl rfl rfl ?_
    refine f_end fun w8 hw8 => ?_
    replace b1 := b1.later hw8
    replace b2 := b2.later hw8
    replace b3 := b3.later hw8
    replace b500 := b500.later hw8
    replace b600 := b600.later hw8
    replace b700 := b700.later hw8
    replace hT := hT.below hw8
    replace hU := hU.step hw8
    refine hK _ _ ?_
    clear hK K
    refine c_cond false rfl ?_
    rw [if_neg (by decide)]
    refine c_skip ?_
    refine hK0 _ _ ?_
    clear hK0 K0
    refine c_seq fun K0 hK0 => ?_
    refine c_seq fun K hK => ?_
    refine c_qF ?_
    refine f_move (.bool true) rfl rfl rfl rfl rfl ?_
    refine f_not true false rfl rfl rfl rfl rfl rfl ?_
    refine f_end fun w9 hw9 => ?_
    replace b1 := b1.later hw9
    replace b2 := b2.later hw9
    replace b3 := b3.later hw9
    replace b500 := b500.later hw9
    replace b600 := b600.later hw9
    replace b700 := b700.later hw9
    replace hT := hT.below hw9
    replace hU := hU.step hw9
    refine hK _ _ ?_
    clear hK K
    refine c_cond false rfl ?_
    rw [if_neg (by decide)]
    refine c_skip ?_
    refine hK0 _ _ ?_
    clear hK0 K0
    refine c_seq fun K hK => ?_
    refine c_new 3 [nvP 12] (by decide) (by decide) ⟨⟨rfl, rfl, rfl, rfl, by kernel_rfl⟩, trivial⟩ (by kernel_rfl) (tail_ok (by kernel_rfl)) (by kernel_rfl) (fun _ _ d _ _ h => by cases d <;> exact h) ?_
    refine f_us #[] (QB · base) rfl rfl rfl own_cbase (fun w1 h1 => cbase_f w1) rfl rfl fun r35 v35 => ?_
    refine f_by g1 0 ln rfl rfl rfl rfl rfl (fun _ h1 => (h1.blk b1).range) ?_
    refine f_us #[.agg (Us r35).toArray, .agg (By n).toArray] (PB · (Ed.mul dd (le n) base)) rfl rfl rfl own_cmul (fun w1 h1 => cmul_f (.inr v35) ln w1 (hT.below h1)) rfl rfl fun r37 v37 => ?_
    refine f_new [.tmp 37] [(Us r37).toArray] ⟨rfl, trivial⟩ (by decide) ⟨⟨rfl, rfl, rfl⟩, rfl⟩ ⟨⟨rfl, us_size pz_len |>.trans (us_size v37.len).symm, size_P v37.len, Us_oneA _⟩, trivial⟩ fun f10 W10 hg10 hd10 hw10 hb10 => ?_
    have b1000 : Blk W10 (f10 0) 29 ((Us r37).toArray) := hb10.1
    clear hb10
    have q1000 : w.heap.size ≤ f10 0 := Nat.le_trans hU.size (hg10 0 (by decide))
    have n1_1000 : g1 ≠ f10 0 := by have := b1.lt; have := hg10 0 (by decide); omega
    have n2_1000 : g2 ≠ f10 0 := by have := b2.lt; have := hg10 0 (by decide); omega
    have n3_1000 : g3 ≠ f10 0 := by have := b3.lt; have := hg10 0 (by decide); omega
    have n500_1000 : g500 ≠ f10 0 := by have := b500.lt; have := hg10 0 (by decide); omega
    have n600_1000 : g600 ≠ f10 0 := by have := b600.lt; have := hg10 0 (by decide); omega
    have n700_1000 : g700 ≠ f10 0 := by have := b700.lt; have := hg10 0 (by decide); omega
    replace b1 := b1.later hw10
    replace b2 := b2.later hw10
    replace b3 := b3.later hw10
    replace b500 := b500.later hw10
    replace b600 := b600.later hw10
    replace b700 := b700.later hw10
    replace hT := hT.below hw10
    replace hU := hU.step hw10
    clear hg10 hd10 hw10
    generalize hf1000 : f10 0 = g1000 at *
    simp only [ptrs, hf1000]
    clear hf1000 f10
    refine l_nil ?_
    refine hK _ _ ?_
    clear hK K
    refine c_seq fun K hK => ?_
    refine c_new 5 [nvQ 13] (by decide) (by decide) ⟨⟨rfl, rfl, rfl, rfl, by kernel_rfl⟩, trivial⟩ (by kernel_rfl) (tail_ok (by kernel_rfl)) (by kernel_rfl) (fun _ _ d _ _ h => by cases d <;> exact h) ?_
    refine f_cu g500 v16.len rfl rfl rfl rfl rfl (fun _ h1 => (h1.blk b500).range) ?_
    refine f_cu g500 v16.len rfl rfl rfl rfl rfl (fun _ h1 => (h1.blk b500).range) ?_
    refine f_rpt #[.agg (Is r16).toArray] base rfl rfl rfl own_rbase (fun w1 h1 => base_f v16 w1) rfl rfl fun X40 Y40 Z40 T40 v40 => ?_
    refine f_by g1 0 ln rfl rfl rfl rfl rfl (fun _ h1 => (h1.blk b1).range) ?_
    refine f_rpt #[.agg (Is r16).toArray, .agg (pt X40 Y40 Z40 T40).toArray, .agg (By n).toArray] (Ed.mul dd (le n) base) rfl rfl rfl own_rmul5 (fun w1 h1 => pmul_f v16 v40 ln w1) rfl rfl fun X42 Y42 Z42 T42 v42 => ?_
    refine f_new [.tmp 42] [(pt X42 Y42 Z42 T42).toArray] ⟨rfl, trivial⟩ (by decide) ⟨⟨rfl, rfl, rfl⟩, rfl⟩ ⟨⟨rfl, pt0_len.trans (pr_len v42).symm, size_pt _ (pr_len v42), pt_one _ _ _ _⟩, trivial⟩ fun f11 W11 hg11 hd11 hw11 hb11 => ?_
    have b1100 : Blk W11 (f11 0) 39 ((pt X42 Y42 Z42 T42).toArray) := hb11.1
    clear hb11
    have q1100 : w.heap.size ≤ f11 0 := Nat.le_trans hU.size (hg11 0 (by decide))
    have n1_1100 : g1 ≠ f11 0 := by have := b1.lt; have := hg11 0 (by decide); omega
    have n2_1100 : g2 ≠ f11 0 := by have := b2.lt; have := hg11 0 (by decide); omega
    have n3_1100 : g3 ≠ f11 0 := by have := b3.lt; have := hg11 0 (by decide); omega
    have n500_1100 : g500 ≠ f11 0 := by have := b500.lt; have := hg11 0 (by decide); omega
    have n600_1100 : g600 ≠ f11 0 := by have := b600.lt; have := hg11 0 (by decide); omega
    have n700_1100 : g700 ≠ f11 0 := by have := b700.lt; have := hg11 0 (by decide); omega
    have n1000_1100 : g1000 ≠ f11 0 := by have := b1000.lt; have := hg11 0 (by decide); omega
    replace b1 := b1.later hw11
    replace b2 := b2.later hw11
    replace b3 := b3.later hw11
    replace b500 := b500.later hw11
    replace b600 := b600.later hw11
    replace b700 := b700.later hw11
    replace b1000 := b1000.later hw11
    replace hT := hT.below hw11
    replace hU := hU.step hw11
    clear hg11 hd11 hw11
    generalize hf1100 : f11 0 = g1100 at *
    simp only [ptrs, hf1100]
    clear hf1100 f11
    refine l_nil ?_
    refine k_sub (E' := [(3, .pointer (some ⟨g1, 0, none⟩)), (4, .pointer (some ⟨g2, 0, none⟩)), (5, .pointer (some ⟨g3, 0, none⟩)), (6, .bool false), (7, .pointer (some ⟨g500, 0, none⟩)), (8, .pointer (some ⟨g600, 0, none⟩)), (10, .pointer (some ⟨g700, 0, none⟩)), (12, .pointer (some ⟨g1000, 0, none⟩)), (13, .pointer (some ⟨g1100, 0, none⟩))]) ⟨rfl, rfl, rfl, rfl, rfl, rfl, rfl, rfl, rfl, trivial⟩ ?_
    refine hK _ _ ?_
    clear hK K
    refine c_seq fun K hK => ?_
    refine c_q (by kernel_rfl) (tail_ok (by kernel_rfl)) (fun _ _ d _ _ h => by cases d <;> exact h) ?_
    refine f_pt g1000 0 v37.len rfl rfl rfl rfl rfl (fun _ h1 => (h1.blk b1000).range) ?_
    refine f_call #[.agg (Us r37).toArray] (.agg (By (encP (Ed.mul dd (le n) base))).toArray) rfl rfl rfl own_chash (fun w1 h1 => chash_f v37 w1 (hT.below h1)) rfl rfl ?_
    refine f_rp g1100 v42.len rfl rfl rfl rfl rfl (fun _ h1 => (h1.blk b1100).range) ?_
    refine f_call #[.agg (pt X42 Y42 Z42 T42).toArray] (.agg (By (encP (Ed.mul dd (le n) base))).toArray) rfl rfl rfl own_rbytes (fun w1 h1 => pbytes_f v42 w1) rfl rfl ?_
    refine f_eqs ((encP (Ed.mul dd (le n) base))) ((encP (Ed.mul dd (le n) base))) rfl rfl rfl rfl rfl rfl rfl ((encP_len _)) (rfl) ?_
    refine f_move (.bool true) rfl rfl rfl rfl rfl ?_
    refine f_guard rfl rfl rfl rfl ?_
    refine f_pt g1000 0 v37.len rfl rfl rfl rfl rfl (fun _ h1 => (h1.blk b1000).range) ?_
    refine f_guard rfl rfl rfl rfl ?_
    refine f_pt g600 0 q19.len rfl rfl rfl rfl rfl (fun _ h1 => (h1.blk b600).range) ?_
    refine f_guard rfl rfl rfl rfl ?_
    refine f_us #[.agg (Us r37).toArray, .agg (Us l19).toArray] (QB · (Ed.add dd (Ed.mul dd (le n) base) A)) rfl rfl rfl own_cadd (fun w1 h1 => cadd_f v37 (.inr q19) w1 (hT.below h1)) rfl rfl fun r51 v51 => ?_
    refine f_guard rfl rfl rfl rfl ?_
    refine f_call #[.agg (Us r51).toArray] (.agg (By (encP (Ed.add dd (Ed.mul dd (le n) base) A))).toArray) rfl rfl rfl own_chash (fun w1 h1 => chash_f (.inr v51) w1 (hT.below h1)) rfl rfl ?_
    refine f_guard rfl rfl rfl rfl ?_
    refine f_cu g500 v16.len rfl rfl rfl rfl rfl (fun _ h1 => (h1.blk b500).range) ?_
    refine f_guard rfl rfl rfl rfl ?_
    refine f_rp g1100 v42.len rfl rfl rfl rfl rfl (fun _ h1 => (h1.blk b1100).range) ?_
    refine f_guard rfl rfl rfl rfl ?_
    refine f_rp g700 v25.len rfl rfl rfl rfl rfl (fun _ h1 => (h1.blk b700).range) ?_
    refine f_guard rfl rfl rfl rfl ?_
    refine f_rpt #[.agg (Is r16).toArray, .agg (pt X42 Y42 Z42 T42).toArray, .agg (pt X25 Y25 Z25 T25).toArray] (Ed.add dd (Ed.mul dd (le n) base) A) rfl rfl rfl own_radd5 (fun w1 h1 => padd_f v16 v42 v25 w1) rfl rfl fun X56 Y56 Z56 T56 v56 => ?_
    refine f_guard rfl rfl rfl rfl ?_
    refine f_call #[.agg (pt X56 Y56 Z56 T56).toArray] (.agg (By (encP (Ed.add dd (Ed.mul dd (le n) base) A))).toArray) rfl rfl rfl own_rbytes (fun w1 h1 => pbytes_f v56 w1) rfl rfl ?_
    refine f_guard rfl rfl rfl rfl ?_
    refine f_eqs ((encP (Ed.add dd (Ed.mul dd (le n) base) A))) ((encP (Ed.add dd (Ed.mul dd (le n) base) A))) rfl rfl rfl rfl rfl rfl rfl ((encP_len _)) (rfl) ?_
    refine f_pick (.bool true) rfl rfl rfl rfl rfl rfl ?_
    refine f_move (.bool true) rfl rfl rfl rfl rfl ?_
    refine f_guard rfl rfl rfl rfl ?_
    refine f_pt g600 0 q19.len rfl rfl rfl rfl rfl (fun _ h1 => (h1.blk b600).range) ?_
    refine f_guard rfl rfl rfl rfl ?_
    refine f_by g2 0 lm rfl rfl rfl rfl rfl (fun _ h1 => (h1.blk b2).range) ?_
    refine f_guard rfl rfl rfl rfl ?_
    refine f_us #[.agg (Us l19).toArray, .agg (By m).toArray] (PB · (Ed.mul dd (le m) A)) rfl rfl rfl own_cmul (fun w1 h1 => cmul_f (.inr q19) lm w1 (hT.below h1)) rfl rfl fun r63 v63 => ?_
    refine f_guard rfl rfl rfl rfl ?_
    refine f_call #[.agg (Us r63).toArray] (.agg (By (encP (Ed.mul dd (le m) A))).toArray) rfl rfl rfl own_chash (fun w1 h1 => chash_f v63 w1 (hT.below h1)) rfl rfl ?_
    refine f_guard rfl rfl rfl rfl ?_
    refine f_cu g500 v16.len rfl rfl rfl rfl rfl (fun _ h1 => (h1.blk b500).range) ?_
    refine f_guard rfl rfl rfl rfl ?_
    refine f_rp g700 v25.len rfl rfl rfl rfl rfl (fun _ h1 => (h1.blk b700).range) ?_
    refine f_guard rfl rfl rfl rfl ?_
    refine f_by g2 0 lm rfl rfl rfl rfl rfl (fun _ h1 => (h1.blk b2).range) ?_
    refine f_guard rfl rfl rfl rfl ?_
    refine f_rpt #[.agg (Is r16).toArray, .agg (pt X25 Y25 Z25 T25).toArray, .agg (By m).toArray] (Ed.mul dd (le m) A) rfl rfl rfl own_rmul5 (fun w1 h1 => pmul_f v16 v25 lm w1) rfl rfl fun X68 Y68 Z68 T68 v68 => ?_
    refine f_guard rfl rfl rfl rfl ?_
    refine f_call #[.agg (pt X68 Y68 Z68 T68).toArray] (.agg (By (encP (Ed.mul dd (le m) A))).toArray) rfl rfl rfl own_rbytes (fun w1 h1 => pbytes_f v68 w1) rfl rfl ?_
    refine f_guard rfl rfl rfl rfl ?_
    refine f_eqs ((encP (Ed.mul dd (le m) A))) ((encP (Ed.mul dd (le m) A))) rfl rfl rfl rfl rfl rfl rfl ((encP_len _)) (rfl) ?_
    refine f_pick (.bool true) rfl rfl rfl rfl rfl rfl ?_
    refine f_move (.bool true) rfl rfl rfl rfl rfl ?_
    refine f_guard rfl rfl rfl rfl ?_
    refine f_by g1 0 ln rfl rfl rfl rfl rfl (fun _ h1 => (h1.blk b1).range) ?_
    refine f_guard rfl rfl rfl rfl ?_
    refine f_pt g600 0 q19.len rfl rfl rfl rfl rfl (fun _ h1 => (h1.blk b600).range) ?_
    refine f_guard rfl rfl rfl rfl ?_
    refine f_by g2 0 lm rfl rfl rfl rfl rfl (fun _ h1 => (h1.blk b2).range) ?_
    refine f_guard rfl rfl rfl rfl ?_
    refine f_us #[.agg (By n).toArray, .agg (Us l19).toArray, .agg (By m).toArray] (PB · (Ed.add dd (Ed.mul dd (le n) base) (Ed.mul dd (le m) A))) rfl rfl rfl own_cboth (fun w1 h1 => cboth_f ln (.inr q19) lm w1 (hT.below h1)) rfl rfl fun r76 v76 => ?_
    refine f_guard rfl rfl rfl rfl ?_
    refine f_call #[.agg (Us r76).toArray] (.agg (By (encP (Ed.add dd (Ed.mul dd (le n) base) (Ed.mul dd (le m) A)))).toArray) rfl rfl rfl own_chash (fun w1 h1 => chash_f v76 w1 (hT.below h1)) rfl rfl ?_
    refine f_guard rfl rfl rfl rfl ?_
    refine f_cu g500 v16.len rfl rfl rfl rfl rfl (fun _ h1 => (h1.blk b500).range) ?_
    refine f_guard rfl rfl rfl rfl ?_
    refine f_rp g1100 v42.len rfl rfl rfl rfl rfl (fun _ h1 => (h1.blk b1100).range) ?_
    refine f_guard rfl rfl rfl rfl ?_
    refine f_cu g500 v16.len rfl rfl rfl rfl rfl (fun _ h1 => (h1.blk b500).range) ?_
    refine f_guard rfl rfl rfl rfl ?_
    refine f_rp g700 v25.len rfl rfl rfl rfl rfl (fun _ h1 => (h1.blk b700).range) ?_
    refine f_guard rfl rfl rfl rfl ?_
    refine f_by g2 0 lm rfl rfl rfl rfl rfl (fun _ h1 => (h1.blk b2).range) ?_
    refine f_guard rfl rfl rfl rfl ?_
    refine f_rpt #[.agg (Is r16).toArray, .agg (pt X25 Y25 Z25 T25).toArray, .agg (By m).toArray] (Ed.mul dd (le m) A) rfl rfl rfl own_rmul5 (fun w1 h1 => pmul_f v16 v25 lm w1) rfl rfl fun X83 Y83 Z83 T83 v83 => ?_
    refine f_guard rfl rfl rfl rfl ?_
    refine f_rpt #[.agg (Is r16).toArray, .agg (pt X42 Y42 Z42 T42).toArray, .agg (pt X83 Y83 Z83 T83).toArray] (Ed.add dd (Ed.mul dd (le n) base) (Ed.mul dd (le m) A)) rfl rfl rfl own_radd5 (fun w1 h1 => padd_f v16 v42 v83 w1) rfl rfl fun X84 Y84 Z84 T84 v84 => ?_
    refine f_guard rfl rfl rfl rfl ?_
    refine f_call #[.agg (pt X84 Y84 Z84 T84).toArray] (.agg (By (encP (Ed.add dd (Ed.mul dd (le n) base) (Ed.mul dd (le m) A)))).toArray) rfl rfl rfl own_rbytes (fun w1 h1 => pbytes_f v84 w1) rfl rfl ?_
    refine f_guard rfl rfl rfl rfl ?_
    refine f_eqs ((encP (Ed.add dd (Ed.mul dd (le n) base) (Ed.mul dd (le m) A)))) ((encP (Ed.add dd (Ed.mul dd (le n) base) (Ed.mul dd (le m) A)))) rfl rfl rfl rfl rfl rfl rfl ((encP_len _)) (rfl) ?_
    refine f_pick (.bool true) rfl rfl rfl rfl rfl rfl ?_
    refine f_move (.bool true) rfl rfl rfl rfl rfl ?_
    refine f_guard rfl rfl rfl rfl ?_
    refine f_pt g1000 0 v37.len rfl rfl rfl rfl rfl (fun _ h1 => (h1.blk b1000).range) ?_
    refine f_guard rfl rfl rfl rfl ?_
    refine f_us #[.agg (Us r37).toArray] (QB · (Ed.neg (Ed.mul dd (le n) base))) rfl rfl rfl own_cneg (fun w1 h1 => cneg_f v37 w1 (hT.below h1)) rfl rfl fun r90 v90 => ?_
    refine f_guard rfl rfl rfl rfl ?_
    refine f_call #[.agg (Us r90).toArray] (.agg (By (encP (Ed.neg (Ed.mul dd (le n) base)))).toArray) rfl rfl rfl own_chash (fun w1 h1 => chash_f (.inr v90) w1 (hT.below h1)) rfl rfl ?_
    refine f_guard rfl rfl rfl rfl ?_
    refine f_rp g1100 v42.len rfl rfl rfl rfl rfl (fun _ h1 => (h1.blk b1100).range) ?_
    refine f_guard rfl rfl rfl rfl ?_
    refine f_rpt #[.agg (pt X42 Y42 Z42 T42).toArray] (Ed.neg (Ed.mul dd (le n) base)) rfl rfl rfl own_rneg (fun w1 h1 => pneg_f v42 w1) rfl rfl fun X93 Y93 Z93 T93 v93 => ?_
    refine f_guard rfl rfl rfl rfl ?_
    refine f_call #[.agg (pt X93 Y93 Z93 T93).toArray] (.agg (By (encP (Ed.neg (Ed.mul dd (le n) base)))).toArray) rfl rfl rfl own_rbytes (fun w1 h1 => pbytes_f v93 w1) rfl rfl ?_
    refine f_guard rfl rfl rfl rfl ?_
    refine f_eqs ((encP (Ed.neg (Ed.mul dd (le n) base)))) ((encP (Ed.neg (Ed.mul dd (le n) base)))) rfl rfl rfl rfl rfl rfl rfl ((encP_len _)) (rfl) ?_
    refine f_pick (.bool true) rfl rfl rfl rfl rfl rfl ?_
    refine f_assign (.bool true) rfl rfl rfl rfl rfl ?_
    refine f_end fun w12 hw12 => ?_
    replace b1 := b1.later hw12
    replace b2 := b2.later hw12
    replace b3 := b3.later hw12
    replace b500 := b500.later hw12
    replace b600 := b600.later hw12
    replace b700 := b700.later hw12
    replace b1000 := b1000.later hw12
    replace b1100 := b1100.later hw12
    replace hT := hT.below hw12
    replace hU := hU.step hw12
    refine hK _ _ ?_
    clear hK K
    exact c_ret fun a ha => bodyPost_ret (results_tmp rfl _ _ _) ha.defers ⟨congrArg Ending.returned (ha.get 6 _ rfl), hU⟩
  · refine c_seq fun K hK => ?_
    refine c_newF 1 [nvC 7] (by decide) ⟨⟨rfl, rfl, rfl, rfl, by kernel_rfl⟩, trivial⟩ ?_
    refine f_cur #[] rfl rfl rfl own_rnew (fun w1 _ => rnew_f w1) rfl rfl fun r16 v16 => ?_
    refine f_new [.tmp 16] [(Is r16).toArray] ⟨rfl, trivial⟩ (by decide) ⟨⟨rfl, rfl, rfl⟩, rfl⟩ ⟨⟨rfl, size_C0 v16.len, size_C v16.len, Is_oneA _⟩, trivial⟩ fun f5 W5 hg5 hd5 hw5 hb5 => ?_
    have b500 : Blk W5 (f5 0) 36 ((Is r16).toArray) := hb5.1
    clear hb5
    have q500 : w.heap.size ≤ f5 0 := Nat.le_trans hU.size (hg5 0 (by decide))
    have n1_500 : g1 ≠ f5 0 := by have := b1.lt; have := hg5 0 (by decide); omega
    have n2_500 : g2 ≠ f5 0 := by have := b2.lt; have := hg5 0 (by decide); omega
    have n3_500 : g3 ≠ f5 0 := by have := b3.lt; have := hg5 0 (by decide); omega
    replace b1 := b1.later hw5
    replace b2 := b2.later hw5
    replace b3 := b3.later hw5
    replace hT := hT.below hw5
    replace hU := hU.step hw5
    clear hg5 hd5 hw5
    generalize hf500 : f5 0 = g500 at *
    simp only [ptrs, hf500]
    clear hf500 f5
    refine l_nil ?_
    refine k_sub (E' := [(3, .pointer (some ⟨g1, 0, none⟩)), (4, .pointer (some ⟨g2, 0, none⟩)), (5, .pointer (some ⟨g3, 0, none⟩)), (6, .bool false), (7, .pointer (some ⟨g500, 0, none⟩))]) ⟨rfl, rfl, rfl, rfl, rfl, trivial⟩ ?_
    refine hK _ _ ?_
    clear hK K
    refine c_seq fun K hK => ?_
    refine c_newF 5 [nvP 8] (by decide) ⟨⟨rfl, rfl, rfl, rfl, by kernel_rfl⟩, trivial⟩ ?_
    refine f_by g3 0 lb rfl rfl rfl rfl rfl (fun _ h1 => (h1.blk b3).range) ?_
    refine f_call #[.agg (By b).toArray] (.tuple #[.agg (Us pz).toArray, .int .i64 50]) rfl rfl rfl own_cdecode (fun w1 h1 => cdec_no lb hx w1 (hT.below h1)) rfl rfl ?_
    refine f_move (.tuple #[.agg (Us pz).toArray, .int .i64 50]) rfl rfl rfl rfl rfl ?_
    refine f_extract (.agg (Us pz).toArray) rfl rfl rfl rfl rfl rfl ?_
    refine f_extract (.int .i64 50) rfl rfl rfl rfl rfl rfl ?_
    refine f_new [.tmp 20] [(Us pz).toArray] ⟨rfl, trivial⟩ (by decide) ⟨⟨rfl, rfl, rfl⟩, rfl⟩ ⟨⟨rfl, us_size pz_len |>.trans (us_size pz_len).symm, size_P pz_len, Us_oneA _⟩, trivial⟩ fun f6 W6 hg6 hd6 hw6 hb6 => ?_
    have b600 : Blk W6 (f6 0) 29 ((Us pz).toArray) := hb6.1
    clear hb6
    have q600 : w.heap.size ≤ f6 0 := Nat.le_trans hU.size (hg6 0 (by decide))
    have n1_600 : g1 ≠ f6 0 := by have := b1.lt; have := hg6 0 (by decide); omega
    have n2_600 : g2 ≠ f6 0 := by have := b2.lt; have := hg6 0 (by decide); omega
    have n3_600 : g3 ≠ f6 0 := by have := b3.lt; have := hg6 0 (by decide); omega
    have n500_600 : g500 ≠ f6 0 := by have := b500.lt; have := hg6 0 (by decide); omega
    replace b1 := b1.later hw6
    replace b2 := b2.later hw6
    replace b3 := b3.later hw6
    replace b500 := b500.later hw6
    replace hT := hT.below hw6
    replace hU := hU.step hw6
    clear hg6 hd6 hw6
    generalize hf600 : f6 0 = g600 at *
    simp only [ptrs, hf600]
    clear hf600 f6
    refine l_assign (.int .i64 50) rfl rfl rfl rfl rfl ?_
    refine l_nil ?_
    refine hK _ _ ?_
    clear hK K
    refine c_seq fun K hK => ?_
    refine c_newF 6 [nvQ 10] (by decide) ⟨⟨rfl, rfl, rfl, rfl, by kernel_rfl⟩, trivial⟩ ?_
    refine f_cu g500 v16.len rfl rfl rfl rfl rfl (fun _ h1 => (h1.blk b500).range) ?_
    refine f_by g3 0 lb rfl rfl rfl rfl rfl (fun _ h1 => (h1.blk b3).range) ?_
    refine f_call #[.agg (Is r16).toArray, .agg (By b).toArray] (.tuple #[.agg (pt n16 n16 n16 n16).toArray, .bool false]) rfl rfl rfl own_rdecode (fun w1 _ => rdec_no v16 lb hx w1) rfl rfl ?_
    refine f_move (.tuple #[.agg (pt n16 n16 n16 n16).toArray, .bool false]) rfl rfl rfl rfl rfl ?_
    refine f_extract (.agg (pt n16 n16 n16 n16).toArray) rfl rfl rfl rfl rfl rfl ?_
    refine f_extract (.bool false) rfl rfl rfl rfl rfl rfl ?_
    refine f_new [.tmp 26] [(pt n16 n16 n16 n16).toArray] ⟨rfl, trivial⟩ (by decide) ⟨⟨rfl, rfl, rfl⟩, rfl⟩ ⟨⟨rfl, pt0_len.trans pt0_len.symm, size_pt _ pt0_len, pt_one _ _ _ _⟩, trivial⟩ fun f7 W7 hg7 hd7 hw7 hb7 => ?_
    have b700 : Blk W7 (f7 0) 39 ((pt n16 n16 n16 n16).toArray) := hb7.1
    clear hb7
    have q700 : w.heap.size ≤ f7 0 := Nat.le_trans hU.size (hg7 0 (by decide))
    have n1_700 : g1 ≠ f7 0 := by have := b1.lt; have := hg7 0 (by decide); omega
    have n2_700 : g2 ≠ f7 0 := by have := b2.lt; have := hg7 0 (by decide); omega
    have n3_700 : g3 ≠ f7 0 := by have := b3.lt; have := hg7 0 (by decide); omega
    have n500_700 : g500 ≠ f7 0 := by have := b500.lt; have := hg7 0 (by decide); omega
    have n600_700 : g600 ≠ f7 0 := by have := b600.lt; have := hg7 0 (by decide); omega
    replace b1 := b1.later hw7
    replace b2 := b2.later hw7
    replace b3 := b3.later hw7
    replace b500 := b500.later hw7
    replace b600 := b600.later hw7
    replace hT := hT.below hw7
    replace hU := hU.step hw7
    clear hg7 hd7 hw7
    generalize hf700 : f7 0 = g700 at *
    simp only [ptrs, hf700]
    clear hf700 f7
    refine l_assign (.bool false) rfl rfl rfl rfl rfl ?_
    refine l_nil ?_
    refine hK _ _ ?_
    clear hK K
    refine c_seq fun K0 hK0 => ?_
    refine c_seq fun K hK => ?_
    refine c_qF ?_
    refine f_move (.bool false) rfl rfl rfl rfl rfl ?_
    refine f_move (.int .i64 50) rfl rfl rfl rfl rfl ?_
    refine f_eqE 50 0 false rfl rfl rfl rfl rfl rfl rfl (by decide) ?_
    refine f_neqb false false false rfl rfl rfl rfl rfl rfl rfl ?_
    refine f_end fun w8 hw8 => ?_
    replace b1 := b1.later hw8
    replace b2 := b2.later hw8
    replace b3 := b3.later hw8
    replace b500 := b500.later hw8
    replace b600 := b600.later hw8
    replace b700 := b700.later hw8
    replace hT := hT.below hw8
    replace hU := hU.step hw8
    refine hK _ _ ?_
    clear hK K
    refine c_cond false rfl ?_
    rw [if_neg (by decide)]
    refine c_skip ?_
    refine hK0 _ _ ?_
    clear hK0 K0
    refine c_seq fun K0 hK0 => ?_
    refine c_seq fun K hK => ?_
    refine c_qF ?_
    refine f_move (.bool false) rfl rfl rfl rfl rfl ?_
    refine f_not false true rfl rfl rfl rfl rfl rfl ?_
    refine f_end fun w9 hw9 => ?_
    replace b1 := b1.later hw9
    replace b2 := b2.later hw9
    replace b3 := b3.later hw9
    replace b500 := b500.later hw9
    replace b600 := b600.later hw9
    replace b700 := b700.later hw9
    replace hT := hT.below hw9
    replace hU := hU.step hw9
    refine hK _ _ ?_
    clear hK K
    refine c_cond true rfl ?_
    rw [if_pos rfl]
    refine c_tF 1 ?_
    refine f_rpt #[] Ed.zero rfl rfl rfl own_rzero (fun w1 h1 => zero_f w1) rfl rfl fun X34 Y34 Z34 T34 v34 => ?_
    refine f_set g700 _ ((pt X34 Y34 Z34 T34).toArray) rfl rfl rfl rfl rfl b700 (size_pt _ (pr_len v34)) (pt0_len.trans (pr_len v34).symm) (pt_one _ _ _ _) fun w10 hw10 c10 => ?_
    replace b1 := (b1.later hw10).rowFar n1_700 ((pt X34 Y34 Z34 T34).toArray)
    replace b2 := (b2.later hw10).rowFar n2_700 ((pt X34 Y34 Z34 T34).toArray)
    replace b3 := (b3.later hw10).rowFar n3_700 ((pt X34 Y34 Z34 T34).toArray)
    replace b500 := (b500.later hw10).rowFar n500_700 ((pt X34 Y34 Z34 T34).toArray)
    replace b600 := (b600.later hw10).rowFar n600_700 ((pt X34 Y34 Z34 T34).toArray)
    replace b700 := c10
    replace hT := (hT.below hw10).row (g := g700) (by have := hw0; omega) ((pt X34 Y34 Z34 T34).toArray)
    replace hU := up_row (hU.step hw10) q700 ((pt X34 Y34 Z34 T34).toArray)
    clear hw10 c10
    generalize w10.setRow g700 ((pt X34 Y34 Z34 T34).toArray) = W10 at *
    refine l_nil ?_
    refine hK0 _ _ ?_
    clear hK0 K0
    refine c_seq fun K hK => ?_
    refine c_new 3 [nvP 12] (by decide) (by decide) ⟨⟨rfl, rfl, rfl, rfl, by kernel_rfl⟩, trivial⟩ (by kernel_rfl) (tail_ok (by kernel_rfl)) (by kernel_rfl) (fun _ _ d _ _ h => by cases d <;> exact h) ?_
    refine f_us #[] (QB · base) rfl rfl rfl own_cbase (fun w1 h1 => cbase_f w1) rfl rfl fun r35 v35 => ?_
    refine f_by g1 0 ln rfl rfl rfl rfl rfl (fun _ h1 => (h1.blk b1).range) ?_
    refine f_us #[.agg (Us r35).toArray, .agg (By n).toArray] (PB · (Ed.mul dd (le n) base)) rfl rfl rfl own_cmul (fun w1 h1 => cmul_f (.inr v35) ln w1 (hT.below h1)) rfl rfl fun r37 v37 => ?_
    refine f_new [.tmp 37] [(Us r37).toArray] ⟨rfl, trivial⟩ (by decide) ⟨⟨rfl, rfl, rfl⟩, rfl⟩ ⟨⟨rfl, us_size pz_len |>.trans (us_size v37.len).symm, size_P v37.len, Us_oneA _⟩, trivial⟩ fun f11 W11 hg11 hd11 hw11 hb11 => ?_
    have b1100 : Blk W11 (f11 0) 29 ((Us r37).toArray) := hb11.1
    clear hb11
    have q1100 : w.heap.size ≤ f11 0 := Nat.le_trans hU.size (hg11 0 (by decide))
    have n1_1100 : g1 ≠ f11 0 := by have := b1.lt; have := hg11 0 (by decide); omega
    have n2_1100 : g2 ≠ f11 0 := by have := b2.lt; have := hg11 0 (by decide); omega
    have n3_1100 : g3 ≠ f11 0 := by have := b3.lt; have := hg11 0 (by decide); omega
    have n500_1100 : g500 ≠ f11 0 := by have := b500.lt; have := hg11 0 (by decide); omega
    have n600_1100 : g600 ≠ f11 0 := by have := b600.lt; have := hg11 0 (by decide); omega
    have n700_1100 : g700 ≠ f11 0 := by have := b700.lt; have := hg11 0 (by decide); omega
    replace b1 := b1.later hw11
    replace b2 := b2.later hw11
    replace b3 := b3.later hw11
    replace b500 := b500.later hw11
    replace b600 := b600.later hw11
    replace b700 := b700.later hw11
    replace hT := hT.below hw11
    replace hU := hU.step hw11
    clear hg11 hd11 hw11
    generalize hf1100 : f11 0 = g1100 at *
    simp only [ptrs, hf1100]
    clear hf1100 f11
    refine l_nil ?_
    refine hK _ _ ?_
    clear hK K
    refine c_seq fun K hK => ?_
    refine c_new 5 [nvQ 13] (by decide) (by decide) ⟨⟨rfl, rfl, rfl, rfl, by kernel_rfl⟩, trivial⟩ (by kernel_rfl) (tail_ok (by kernel_rfl)) (by kernel_rfl) (fun _ _ d _ _ h => by cases d <;> exact h) ?_
    refine f_cu g500 v16.len rfl rfl rfl rfl rfl (fun _ h1 => (h1.blk b500).range) ?_
    refine f_cu g500 v16.len rfl rfl rfl rfl rfl (fun _ h1 => (h1.blk b500).range) ?_
    refine f_rpt #[.agg (Is r16).toArray] base rfl rfl rfl own_rbase (fun w1 h1 => base_f v16 w1) rfl rfl fun X40 Y40 Z40 T40 v40 => ?_
    refine f_by g1 0 ln rfl rfl rfl rfl rfl (fun _ h1 => (h1.blk b1).range) ?_
    refine f_rpt #[.agg (Is r16).toArray, .agg (pt X40 Y40 Z40 T40).toArray, .agg (By n).toArray] (Ed.mul dd (le n) base) rfl rfl rfl own_rmul5 (fun w1 h1 => pmul_f v16 v40 ln w1) rfl rfl fun X42 Y42 Z42 T42 v42 => ?_
    refine f_new [.tmp 42] [(pt X42 Y42 Z42 T42).toArray] ⟨rfl, trivial⟩ (by decide) ⟨⟨rfl, rfl, rfl⟩, rfl⟩ ⟨⟨rfl, pt0_len.trans (pr_len v42).symm, size_pt _ (pr_len v42), pt_one _ _ _ _⟩, trivial⟩ fun f12 W12 hg12 hd12 hw12 hb12 => ?_
    have b1200 : Blk W12 (f12 0) 39 ((pt X42 Y42 Z42 T42).toArray) := hb12.1
    clear hb12
    have q1200 : w.heap.size ≤ f12 0 := Nat.le_trans hU.size (hg12 0 (by decide))
    have n1_1200 : g1 ≠ f12 0 := by have := b1.lt; have := hg12 0 (by decide); omega
    have n2_1200 : g2 ≠ f12 0 := by have := b2.lt; have := hg12 0 (by decide); omega
    have n3_1200 : g3 ≠ f12 0 := by have := b3.lt; have := hg12 0 (by decide); omega
    have n500_1200 : g500 ≠ f12 0 := by have := b500.lt; have := hg12 0 (by decide); omega
    have n600_1200 : g600 ≠ f12 0 := by have := b600.lt; have := hg12 0 (by decide); omega
    have n700_1200 : g700 ≠ f12 0 := by have := b700.lt; have := hg12 0 (by decide); omega
    have n1100_1200 : g1100 ≠ f12 0 := by have := b1100.lt; have := hg12 0 (by decide); omega
    replace b1 := b1.later hw12
    replace b2 := b2.later hw12
    replace b3 := b3.later hw12
    replace b500 := b500.later hw12
    replace b600 := b600.later hw12
    replace b700 := b700.later hw12
    replace b1100 := b1100.later hw12
    replace hT := hT.below hw12
    replace hU := hU.step hw12
    clear hg12 hd12 hw12
    generalize hf1200 : f12 0 = g1200 at *
    simp only [ptrs, hf1200]
    clear hf1200 f12
    refine l_nil ?_
    refine k_sub (E' := [(3, .pointer (some ⟨g1, 0, none⟩)), (4, .pointer (some ⟨g2, 0, none⟩)), (5, .pointer (some ⟨g3, 0, none⟩)), (6, .bool false), (7, .pointer (some ⟨g500, 0, none⟩)), (8, .pointer (some ⟨g600, 0, none⟩)), (10, .pointer (some ⟨g700, 0, none⟩)), (12, .pointer (some ⟨g1100, 0, none⟩)), (13, .pointer (some ⟨g1200, 0, none⟩))]) ⟨rfl, rfl, rfl, rfl, rfl, rfl, rfl, rfl, rfl, trivial⟩ ?_
    refine hK _ _ ?_
    clear hK K
    refine c_seq fun K hK => ?_
    refine c_q (by kernel_rfl) (tail_ok (by kernel_rfl)) (fun _ _ d _ _ h => by cases d <;> exact h) ?_
    refine f_pt g1100 0 v37.len rfl rfl rfl rfl rfl (fun _ h1 => (h1.blk b1100).range) ?_
    refine f_call #[.agg (Us r37).toArray] (.agg (By (encP (Ed.mul dd (le n) base))).toArray) rfl rfl rfl own_chash (fun w1 h1 => chash_f v37 w1 (hT.below h1)) rfl rfl ?_
    refine f_rp g1200 v42.len rfl rfl rfl rfl rfl (fun _ h1 => (h1.blk b1200).range) ?_
    refine f_call #[.agg (pt X42 Y42 Z42 T42).toArray] (.agg (By (encP (Ed.mul dd (le n) base))).toArray) rfl rfl rfl own_rbytes (fun w1 h1 => pbytes_f v42 w1) rfl rfl ?_
    refine f_eqs ((encP (Ed.mul dd (le n) base))) ((encP (Ed.mul dd (le n) base))) rfl rfl rfl rfl rfl rfl rfl ((encP_len _)) (rfl) ?_
    refine f_move (.bool true) rfl rfl rfl rfl rfl ?_
    refine f_guard rfl rfl rfl rfl ?_
    refine f_pt g1100 0 v37.len rfl rfl rfl rfl rfl (fun _ h1 => (h1.blk b1100).range) ?_
    refine f_guard rfl rfl rfl rfl ?_
    refine f_pt g600 0 pz_len rfl rfl rfl rfl rfl (fun _ h1 => (h1.blk b600).range) ?_
    refine f_guard rfl rfl rfl rfl ?_
    refine f_us #[.agg (Us r37).toArray, .agg (Us pz).toArray] (QB · (Ed.add dd (Ed.mul dd (le n) base) Ed.zero)) rfl rfl rfl own_cadd (fun w1 h1 => cadd_f v37 (.inl ⟨rfl, rfl⟩) w1 (hT.below h1)) rfl rfl fun r51 v51 => ?_
    refine f_guard rfl rfl rfl rfl ?_
    refine f_call #[.agg (Us r51).toArray] (.agg (By (encP (Ed.add dd (Ed.mul dd (le n) base) Ed.zero))).toArray) rfl rfl rfl own_chash (fun w1 h1 => chash_f (.inr v51) w1 (hT.below h1)) rfl rfl ?_
    refine f_guard rfl rfl rfl rfl ?_
    refine f_cu g500 v16.len rfl rfl rfl rfl rfl (fun _ h1 => (h1.blk b500).range) ?_
    refine f_guard rfl rfl rfl rfl ?_
    refine f_rp g1200 v42.len rfl rfl rfl rfl rfl (fun _ h1 => (h1.blk b1200).range) ?_
    refine f_guard rfl rfl rfl rfl ?_
    refine f_rp g700 v34.len rfl rfl rfl rfl rfl (fun _ h1 => (h1.blk b700).range) ?_
    refine f_guard rfl rfl rfl rfl ?_
    refine f_rpt #[.agg (Is r16).toArray, .agg (pt X42 Y42 Z42 T42).toArray, .agg (pt X34 Y34 Z34 T34).toArray] (Ed.add dd (Ed.mul dd (le n) base) Ed.zero) rfl rfl rfl own_radd5 (fun w1 h1 => padd_f v16 v42 v34 w1) rfl rfl fun X56 Y56 Z56 T56 v56 => ?_
    refine f_guard rfl rfl rfl rfl ?_
    refine f_call #[.agg (pt X56 Y56 Z56 T56).toArray] (.agg (By (encP (Ed.add dd (Ed.mul dd (le n) base) Ed.zero))).toArray) rfl rfl rfl own_rbytes (fun w1 h1 => pbytes_f v56 w1) rfl rfl ?_
    refine f_guard rfl rfl rfl rfl ?_
    refine f_eqs ((encP (Ed.add dd (Ed.mul dd (le n) base) Ed.zero))) ((encP (Ed.add dd (Ed.mul dd (le n) base) Ed.zero))) rfl rfl rfl rfl rfl rfl rfl ((encP_len _)) (rfl) ?_
    refine f_pick (.bool true) rfl rfl rfl rfl rfl rfl ?_
    refine f_move (.bool true) rfl rfl rfl rfl rfl ?_
    refine f_guard rfl rfl rfl rfl ?_
    refine f_pt g600 0 pz_len rfl rfl rfl rfl rfl (fun _ h1 => (h1.blk b600).range) ?_
    refine f_guard rfl rfl rfl rfl ?_
    refine f_by g2 0 lm rfl rfl rfl rfl rfl (fun _ h1 => (h1.blk b2).range) ?_
    refine f_guard rfl rfl rfl rfl ?_
    refine f_us #[.agg (Us pz).toArray, .agg (By m).toArray] (PB · (Ed.mul dd (le m) Ed.zero)) rfl rfl rfl own_cmul (fun w1 h1 => cmul_f (.inl ⟨rfl, rfl⟩) lm w1 (hT.below h1)) rfl rfl fun r63 v63 => ?_
    refine f_guard rfl rfl rfl rfl ?_
    refine f_call #[.agg (Us r63).toArray] (.agg (By (encP (Ed.mul dd (le m) Ed.zero))).toArray) rfl rfl rfl own_chash (fun w1 h1 => chash_f v63 w1 (hT.below h1)) rfl rfl ?_
    refine f_guard rfl rfl rfl rfl ?_
    refine f_cu g500 v16.len rfl rfl rfl rfl rfl (fun _ h1 => (h1.blk b500).range) ?_
    refine f_guard rfl rfl rfl rfl ?_
    refine f_rp g700 v34.len rfl rfl rfl rfl rfl (fun _ h1 => (h1.blk b700).range) ?_
    refine f_guard rfl rfl rfl rfl ?_
    refine f_by g2 0 lm rfl rfl rfl rfl rfl (fun _ h1 => (h1.blk b2).range) ?_
    refine f_guard rfl rfl rfl rfl ?_
    refine f_rpt #[.agg (Is r16).toArray, .agg (pt X34 Y34 Z34 T34).toArray, .agg (By m).toArray] (Ed.mul dd (le m) Ed.zero) rfl rfl rfl own_rmul5 (fun w1 h1 => pmul_f v16 v34 lm w1) rfl rfl fun X68 Y68 Z68 T68 v68 => ?_
    refine f_guard rfl rfl rfl rfl ?_
    refine f_call #[.agg (pt X68 Y68 Z68 T68).toArray] (.agg (By (encP (Ed.mul dd (le m) Ed.zero))).toArray) rfl rfl rfl own_rbytes (fun w1 h1 => pbytes_f v68 w1) rfl rfl ?_
    refine f_guard rfl rfl rfl rfl ?_
    refine f_eqs ((encP (Ed.mul dd (le m) Ed.zero))) ((encP (Ed.mul dd (le m) Ed.zero))) rfl rfl rfl rfl rfl rfl rfl ((encP_len _)) (rfl) ?_
    refine f_pick (.bool true) rfl rfl rfl rfl rfl rfl ?_
    refine f_move (.bool true) rfl rfl rfl rfl rfl ?_
    refine f_guard rfl rfl rfl rfl ?_
    refine f_by g1 0 ln rfl rfl rfl rfl rfl (fun _ h1 => (h1.blk b1).range) ?_
    refine f_guard rfl rfl rfl rfl ?_
    refine f_pt g600 0 pz_len rfl rfl rfl rfl rfl (fun _ h1 => (h1.blk b600).range) ?_
    refine f_guard rfl rfl rfl rfl ?_
    refine f_by g2 0 lm rfl rfl rfl rfl rfl (fun _ h1 => (h1.blk b2).range) ?_
    refine f_guard rfl rfl rfl rfl ?_
    refine f_us #[.agg (By n).toArray, .agg (Us pz).toArray, .agg (By m).toArray] (PB · (Ed.add dd (Ed.mul dd (le n) base) (Ed.mul dd (le m) Ed.zero))) rfl rfl rfl own_cboth (fun w1 h1 => cboth_f ln (.inl ⟨rfl, rfl⟩) lm w1 (hT.below h1)) rfl rfl fun r76 v76 => ?_
    refine f_guard rfl rfl rfl rfl ?_
    refine f_call #[.agg (Us r76).toArray] (.agg (By (encP (Ed.add dd (Ed.mul dd (le n) base) (Ed.mul dd (le m) Ed.zero)))).toArray) rfl rfl rfl own_chash (fun w1 h1 => chash_f v76 w1 (hT.below h1)) rfl rfl ?_
    refine f_guard rfl rfl rfl rfl ?_
    refine f_cu g500 v16.len rfl rfl rfl rfl rfl (fun _ h1 => (h1.blk b500).range) ?_
    refine f_guard rfl rfl rfl rfl ?_
    refine f_rp g1200 v42.len rfl rfl rfl rfl rfl (fun _ h1 => (h1.blk b1200).range) ?_
    refine f_guard rfl rfl rfl rfl ?_
    refine f_cu g500 v16.len rfl rfl rfl rfl rfl (fun _ h1 => (h1.blk b500).range) ?_
    refine f_guard rfl rfl rfl rfl ?_
    refine f_rp g700 v34.len rfl rfl rfl rfl rfl (fun _ h1 => (h1.blk b700).range) ?_
    refine f_guard rfl rfl rfl rfl ?_
    refine f_by g2 0 lm rfl rfl rfl rfl rfl (fun _ h1 => (h1.blk b2).range) ?_
    refine f_guard rfl rfl rfl rfl ?_
    refine f_rpt #[.agg (Is r16).toArray, .agg (pt X34 Y34 Z34 T34).toArray, .agg (By m).toArray] (Ed.mul dd (le m) Ed.zero) rfl rfl rfl own_rmul5 (fun w1 h1 => pmul_f v16 v34 lm w1) rfl rfl fun X83 Y83 Z83 T83 v83 => ?_
    refine f_guard rfl rfl rfl rfl ?_
    refine f_rpt #[.agg (Is r16).toArray, .agg (pt X42 Y42 Z42 T42).toArray, .agg (pt X83 Y83 Z83 T83).toArray] (Ed.add dd (Ed.mul dd (le n) base) (Ed.mul dd (le m) Ed.zero)) rfl rfl rfl own_radd5 (fun w1 h1 => padd_f v16 v42 v83 w1) rfl rfl fun X84 Y84 Z84 T84 v84 => ?_
    refine f_guard rfl rfl rfl rfl ?_
    refine f_call #[.agg (pt X84 Y84 Z84 T84).toArray] (.agg (By (encP (Ed.add dd (Ed.mul dd (le n) base) (Ed.mul dd (le m) Ed.zero)))).toArray) rfl rfl rfl own_rbytes (fun w1 h1 => pbytes_f v84 w1) rfl rfl ?_
    refine f_guard rfl rfl rfl rfl ?_
    refine f_eqs ((encP (Ed.add dd (Ed.mul dd (le n) base) (Ed.mul dd (le m) Ed.zero)))) ((encP (Ed.add dd (Ed.mul dd (le n) base) (Ed.mul dd (le m) Ed.zero)))) rfl rfl rfl rfl rfl rfl rfl ((encP_len _)) (rfl) ?_
    refine f_pick (.bool true) rfl rfl rfl rfl rfl rfl ?_
    refine f_move (.bool true) rfl rfl rfl rfl rfl ?_
    refine f_guard rfl rfl rfl rfl ?_
    refine f_pt g1100 0 v37.len rfl rfl rfl rfl rfl (fun _ h1 => (h1.blk b1100).range) ?_
    refine f_guard rfl rfl rfl rfl ?_
    refine f_us #[.agg (Us r37).toArray] (QB · (Ed.neg (Ed.mul dd (le n) base))) rfl rfl rfl own_cneg (fun w1 h1 => cneg_f v37 w1 (hT.below h1)) rfl rfl fun r90 v90 => ?_
    refine f_guard rfl rfl rfl rfl ?_
    refine f_call #[.agg (Us r90).toArray] (.agg (By (encP (Ed.neg (Ed.mul dd (le n) base)))).toArray) rfl rfl rfl own_chash (fun w1 h1 => chash_f (.inr v90) w1 (hT.below h1)) rfl rfl ?_
    refine f_guard rfl rfl rfl rfl ?_
    refine f_rp g1200 v42.len rfl rfl rfl rfl rfl (fun _ h1 => (h1.blk b1200).range) ?_
    refine f_guard rfl rfl rfl rfl ?_
    refine f_rpt #[.agg (pt X42 Y42 Z42 T42).toArray] (Ed.neg (Ed.mul dd (le n) base)) rfl rfl rfl own_rneg (fun w1 h1 => pneg_f v42 w1) rfl rfl fun X93 Y93 Z93 T93 v93 => ?_
    refine f_guard rfl rfl rfl rfl ?_
    refine f_call #[.agg (pt X93 Y93 Z93 T93).toArray] (.agg (By (encP (Ed.neg (Ed.mul dd (le n) base)))).toArray) rfl rfl rfl own_rbytes (fun w1 h1 => pbytes_f v93 w1) rfl rfl ?_
    refine f_guard rfl rfl rfl rfl ?_
    refine f_eqs ((encP (Ed.neg (Ed.mul dd (le n) base)))) ((encP (Ed.neg (Ed.mul dd (le n) base)))) rfl rfl rfl rfl rfl rfl rfl ((encP_len _)) (rfl) ?_
    refine f_pick (.bool true) rfl rfl rfl rfl rfl rfl ?_
    refine f_assign (.bool true) rfl rfl rfl rfl rfl ?_
    refine f_end fun w13 hw13 => ?_
    replace b1 := b1.later hw13
    replace b2 := b2.later hw13
    replace b3 := b3.later hw13
    replace b500 := b500.later hw13
    replace b600 := b600.later hw13
    replace b700 := b700.later hw13
    replace b1100 := b1100.later hw13
    replace b1200 := b1200.later hw13
    replace hT := hT.below hw13
    replace hU := hU.step hw13
    refine hK _ _ ?_
    clear hK K
    exact c_ret fun a ha => bodyPost_ret (results_tmp rfl _ _ _) ha.defers ⟨congrArg Ending.returned (ha.get 6 _ rfl), hU⟩

theorem curveSums_types : ∀ t ∈ Tryd.f4.params.toList, Tryd.prog.readableRec t = true ∧ t < Tryd.prog.types.size := by
  have h : Tryd.f4.params.toList.all (fun t => Tryd.prog.readableRec t && decide (t < Tryd.prog.types.size)) = true := by kernel_rfl
  intro t ht
  have := List.all_eq_true.1 h t ht
  simpa using this

set_option maxRecDepth 100000 in
theorem curveSums_lifted (os : Os) (started : os.Started) (H : Type) (enc : TypeId × Value → H) :
    ReturnsInHanded {} Tryd.checked os 4 .any (fun w args => (Rows.curveSumsSpec.pre enc Tryd.prog Tryd.f4 [] false w args ∧ laidMetH Tryd.prog laid1 w) ∧ sizedMet enc Tryd.prog Tryd.f4 (OpenSpec.ofChange Rows.curveSumsSpec) false w args)
      (Rows.curveSumsSpec.post enc Tryd.prog Tryd.f4 false true false false) := by
  refine returnsInHanded_of_change_and (C := Tryd.checked) (X := fun w _ => laidMetH Tryd.prog laid1 w) (fun _ _ _ hh h => h.of_heap hh) own started (by kernel_rfl) Tryd.func4
    (ChangeSpec.witness_shaped (enc := enc) (C := Tryd.checked) (os := os) (X := fun w _ => laidMetH Tryd.prog laid1 w) false (World.doorLaid Tryd.prog 400 os) #[.agg (By (List.replicate 32 0)).toArray, .agg (By (List.replicate 32 0)).toArray, .agg (By (List.replicate 32 0)).toArray] 8 rfl (World.shaped_of_RefB (by kernel_rfl) (by kernel_rfl)) (by kernel_rfl) (by kernel_rfl) (by kernel_rfl) (door_met os _)) ?_
  intro W base args ds gs before hval0 hW _ _ hL _
  have hval : ∀ (j : Nat) t v, Tryd.f4.params[j]? = some t → args[j]? = some v → Value.okWide Tryd.prog W .any base t v := hval0
  have hW' : DataW.Whole enc Tryd.prog Tryd.f4.params.toList Rows.curveSumsSpec.vars false W args.toList ds gs before := hW
  obtain ⟨p, q, hA0, hV, rfl, hfz, hnd⟩ := hW
  have hA : DataW.TrodAll enc Tryd.prog W 0 (fun _ => true) true Tryd.f4.params.toList args.toList ds p := hA0
  rw [Tryd.params4] at hA hval
  obtain ⟨v0, v1, v2, d0, d1, d2, p0, p1, p2, rfl, rfl, rfl, h0, h1, h2⟩ := trodAll_three hA
  obtain ⟨rfl, rfl⟩ := trodVars_none hV
  obtain ⟨n, ln, rfl⟩ := open_hash (hval 0 22 v0 rfl rfl) h0
  obtain ⟨m, lm, rfl⟩ := open_hash (hval 1 22 v1 rfl rfl) h1
  obtain ⟨b, lb, rfl⟩ := open_hash (hval 2 22 v2 rfl rfl) h2
  clear hA0 hval0
  refine (curveSums_walk ln lm lb W (of_laid hL)).mono fun e W' ⟨he, hb⟩ => ?_
  exact ⟨_, he, law_post (by kernel_rfl) rfl curveSums_types hW' rfl hb⟩

theorem curveSums_holds : Rows.CurveSumsSaid :=
  OpenClaim.holds_of_wide 4 Tryd.f4 rfl rfl rfl rfl rfl rfl rfl ⟨rfl, rfl, rfl, rfl, rfl⟩ rfl rfl rfl rfl rfl (by kernel_rfl) Tryd.func4 (by kernel_rfl)
    (of_decide_eq_true (by kernel_rfl)) (by unfold Func.isWrapper; first | (rw [if_pos (by decide +kernel)]; kernel_rfl) | (rw [if_neg (by decide +kernel)]; exact ⟨rfl, rfl⟩))
    (fun os started H enc _ => curveSums_lifted os started H enc)

theorem curveSums_card_holds : Rows.CurveSumsCardSaid :=
  Claim7.holds_tied_plain_at .later [] [.data] true Rows.curveSumsCard.stood.harness false
    curveSums_holds (fun _ h => by cases h) (by kernel_rfl) (fun _ h => by cases h) curveSums_row_tie rfl ⟨rfl, rfl⟩ (by kernel_rfl) rfl
    (fun f fn hf hfn => by
      obtain rfl : f = 4 := Option.some.inj ((show Tryd.prog.funcNamed "witan/witanlaw05.CurveSums" = some 4 by kernel_rfl).symm.trans hf) |>.symm
      obtain rfl : fn = Tryd.f4 := (Option.some.inj (Tryd.func4.symm.trans hfn)).symm
      exact ⟨by kernel_rfl, fun j t ht => by
        have hm := Array.mem_of_getElem? ht
        have hall : (Tryd.f4.params.toList.all fun u => !Tryd.prog.wantsStandIn u) = true := by kernel_rfl
        have h2 := List.all_eq_true.1 hall t (Array.mem_toList_iff.2 hm)
        show Tryd.prog.wantsStandIn t = false
        simpa using h2⟩)
    (by kernel_rfl)
#print axioms curveSums_card_holds
end Go.Proofs.YtgmiaaapaiccdaaDoor
