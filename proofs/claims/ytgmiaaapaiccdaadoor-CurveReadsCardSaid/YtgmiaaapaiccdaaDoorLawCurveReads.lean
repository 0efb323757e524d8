/-
  PROVED: CurveReads answers true for every input: which bytes are points, that these are the same bytes again, and which points are small, as the document says. No condition but the row's own: the table lies as the program's text lays it (the card ties it): the statement '..CardSaid' itself.
-/
import Derived.Test.YtgmiaaapaiccdaaDoorMm
import Derived.Test.YtgmiaaapaiccdaaDoorMl
namespace Go.Proofs.YtgmiaaapaiccdaaDoor
open Go.RowKit Go.IntWalk Nums
open Go.ChangeShapes Go.WideShapes Go.ChangeAt

set_option maxRecDepth 100000 in
set_option maxHeartbeats 8000000 in
theorem curveReads_walk {b : List UInt8} (lb : b.length = 32) (w : World) (hT : Tw w) :
    Calls Tryd.prog 3 #[.agg (By b).toArray] w fun e w' => e = .returned (.bool true) ∧ Below w.heap.size w w' := by
  refine calls_F (vs := [.agg (By b).toArray]) 48 Tryd.func3 rfl (by rw [Tryd.ntmps3]; rfl) ?_
  have hw0 := hT.lt
  refine c_seq fun K hK => ?_
  refine c_lit ?_
  refine l_boxA ((By b).toArray) rfl rfl rfl rfl rfl fun W1 g1 hw1 hg1 b1 => ?_
  have q1 : w.heap.size ≤ g1 := by rw [hg1]; exact Nat.le_refl _
  clear hg1
  replace hT := hT.below hw1
  have hU : Up w _ := hw1
  refine l_assign (.bool false) rfl rfl rfl rfl rfl ?_
  refine l_nil ?_
  refine hK _ _ ?_
  clear hK K
  refine c_seq fun K0 hK0 => ?_
  refine c_seq fun K hK => ?_
  refine c_qF ?_
  refine f_call #[] (.bool true) rfl rfl rfl own_lfirst (fun w1 h1 => lfirst_f w1 (hT.below h1)) rfl rfl ?_
  refine f_not true false rfl rfl rfl rfl rfl rfl ?_
  refine f_end fun w2 hw2 => ?_
  replace b1 := b1.later hw2
  replace hT := hT.below hw2
  replace hU := hU.step hw2
  refine hK _ _ ?_
  clear hK K
  refine c_cond false rfl ?_
  rw [if_neg (by decide)]
  refine c_skip ?_
  refine hK0 _ _ ?_
  clear hK0 K0
  by_cases hx : ∃ A, Ed.On dd A ∧ encP A = b
  · obtain ⟨A, hA, rfl⟩ := hx
    refine c_seq fun K hK => ?_
    refine c_newF 5 [nvP 3] (by decide) ⟨⟨rfl, rfl, rfl, rfl, by kernel_rfl⟩, trivial⟩ ?_
    refine f_by g1 0 ((encP_len _)) rfl rfl rfl rfl rfl (fun _ h1 => (h1.blk b1).range) ?_
    refine f_callV #[.agg (By (encP A)).toArray] (fun v => ∃ l, QB l A ∧ v = .tuple #[.agg (Us l).toArray, .int .i64 0]) rfl rfl rfl own_cdecode (fun w1 h1 => cdec_pt hA w1 (hT.below h1)) rfl rfl ?_
    rintro _ ⟨l12, q12, rfl⟩
    refine f_move (.tuple #[.agg (Us l12).toArray, .int .i64 0]) rfl rfl rfl rfl rfl ?_
    refine f_extract (.agg (Us l12).toArray) rfl rfl rfl rfl rfl rfl ?_
    refine f_extract (.int .i64 0) rfl rfl rfl rfl rfl rfl ?_
    refine f_new [.tmp 13] [(Us l12).toArray] ⟨rfl, trivial⟩ (by decide) ⟨⟨rfl, rfl, rfl⟩, rfl⟩ ⟨⟨rfl, us_size pz_len |>.trans (us_size q12.len).symm, size_P q12.len, Us_oneA _⟩, trivial⟩ fun f3 W3 hg3 hd3 hw3 hb3 => ?_
    have b300 : Blk W3 (f3 0) 29 ((Us l12).toArray) := hb3.1
    clear hb3
    have q300 : w.heap.size ≤ f3 0 := Nat.le_trans hU.size (hg3 0 (by decide))
    have n1_300 : g1 ≠ f3 0 := by have := b1.lt; have := hg3 0 (by decide); omega
    replace b1 := b1.later hw3
    replace hT := hT.below hw3
    replace hU := hU.step hw3
    clear hg3 hd3 hw3
    generalize hf300 : f3 0 = g300 at *
    simp only [ptrs, hf300]
    clear hf300 f3
    refine l_assign (.int .i64 0) rfl rfl rfl rfl rfl ?_
    refine l_nil ?_
    refine hK _ _ ?_
    clear hK K
    refine c_seq fun K hK => ?_
    refine c_newF 1 [nvC 5] (by decide) ⟨⟨rfl, rfl, rfl, rfl, by kernel_rfl⟩, trivial⟩ ?_
    refine f_cur #[] rfl rfl rfl own_rnew (fun w1 _ => rnew_f w1) rfl rfl fun r15 v15 => ?_
    refine f_new [.tmp 15] [(Is r15).toArray] ⟨rfl, trivial⟩ (by decide) ⟨⟨rfl, rfl, rfl⟩, rfl⟩ ⟨⟨rfl, size_C0 v15.len, size_C v15.len, Is_oneA _⟩, trivial⟩ fun f4 W4 hg4 hd4 hw4 hb4 => ?_
    have b400 : Blk W4 (f4 0) 36 ((Is r15).toArray) := hb4.1
    clear hb4
    have q400 : w.heap.size ≤ f4 0 := Nat.le_trans hU.size (hg4 0 (by decide))
    have n1_400 : g1 ≠ f4 0 := by have := b1.lt; have := hg4 0 (by decide); omega
    have n300_400 : g300 ≠ f4 0 := by have := b300.lt; have := hg4 0 (by decide); omega
    replace b1 := b1.later hw4
    replace b300 := b300.later hw4
    replace hT := hT.below hw4
    replace hU := hU.step hw4
    clear hg4 hd4 hw4
    generalize hf400 : f4 0 = g400 at *
    simp only [ptrs, hf400]
    clear hf400 f4
    refine l_nil ?_
    refine k_sub (E' := [(1, .pointer (some ⟨g1, 0, none⟩)), (2, .bool false), (3, .pointer (some ⟨g300, 0, none⟩)), (4, .int .i64 0), (5, .pointer (some ⟨g400, 0, none⟩))]) ⟨rfl, rfl, rfl, rfl, rfl, trivial⟩ ?_
    refine hK _ _ ?_
    clear hK K
    refine c_seq fun K hK => ?_
    refine c_newF 6 [nvQ 6] (by decide) ⟨⟨rfl, rfl, rfl, rfl, by kernel_rfl⟩, trivial⟩ ?_
    refine f_cu g400 v15.len rfl rfl rfl rfl rfl (fun _ h1 => (h1.blk b400).range) ?_
    refine f_by g1 0 ((encP_len _)) rfl rfl rfl rfl rfl (fun _ h1 => (h1.blk b1).range) ?_
    refine f_callV #[.agg (Is r15).toArray, .agg (By (encP A)).toArray] (fun v => ∃ X Y Z T, PR X Y Z T A ∧ v = .tuple #[.agg (pt X Y Z T).toArray, .bool true]) rfl rfl rfl own_rdecode (fun w1 _ => rdec_pt v15 hA w1) rfl rfl ?_
    rintro _ ⟨X19, Y19, Z19, T19, v19, rfl⟩
    refine f_move (.tuple #[.agg (pt X19 Y19 Z19 T19).toArray, .bool true]) rfl rfl rfl rfl rfl ?_
    refine f_extract (.agg (pt X19 Y19 Z19 T19).toArray) rfl rfl rfl rfl rfl rfl ?_
    refine f_extract (.bool true) rfl rfl rfl rfl rfl rfl ?_
    refine f_new [.tmp 20] [(pt X19 Y19 Z19 T19).toArray] ⟨rfl, trivial⟩ (by decide) ⟨⟨rfl, rfl, rfl⟩, rfl⟩ ⟨⟨rfl, pt0_len.trans (pr_len v19).symm, size_pt _ (pr_len v19), pt_one _ _ _ _⟩, trivial⟩ fun f5 W5 hg5 hd5 hw5 hb5 => ?_
    have b500 : Blk W5 (f5 0) 39 ((pt X19 Y19 Z19 T19).toArray) := hb5.1
    clear hb5
    have q500 : w.heap.size ≤ f5 0 := Nat.le_trans hU.size (hg5 0 (by decide))
    have n1_500 : g1 ≠ f5 0 := by have := b1.lt; have := hg5 0 (by decide); omega
    have n300_500 : g300 ≠ f5 0 := by have := b300.lt; have := hg5 0 (by decide); omega
    have n400_500 : g400 ≠ f5 0 := by have := b400.lt; have := hg5 0 (by decide); omega
    replace b1 := b1.later hw5
    replace b300 := b300.later hw5
    replace b400 := b400.later hw5
    replace hT := hT.below hw5
    replace hU := hU.step hw5
    clear hg5 hd5 hw5
    generalize hf500 : f5 0 = g500 at *
    simp only [ptrs, hf500]
    clear hf500 f5
    refine l_assign (.bool true) rfl rfl rfl rfl rfl ?_
    refine l_nil ?_
    refine hK _ _ ?_
    clear hK K
    refine c_seq fun K0 hK0 => ?_
    refine c_seq fun K hK => ?_
    refine c_qF ?_
    refine f_move (.bool true) rfl rfl rfl rfl rfl ?_
    refine f_not true false rfl rfl rfl rfl rfl rfl ?_
    refine f_end fun w6 hw6 => ?_
    replace b1 := b1.later hw6
    replace b300 := b300.later hw6
    replace b400 := b400.later hw6
    replace b500 := b500.later hw6
    replace hT := hT.below hw6
    replace hU := hU.step hw6
    refine hK _ _ ?_
    clear hK K
    refine c_cond false rfl ?_
    rw [if_neg (by decide)]
    refine c_skip ?_
    refine hK0 _ _ ?_
    clear hK0 K0
    refine c_seq fun K hK => ?_
    refine c_q (by kernel_rfl) (tail_ok (by kernel_rfl)) (fun _ _ d _ _ h => by cases d <;> exact h) ?_
    refine f_move (.int .i64 0) rfl rfl rfl rfl rfl ?_
    refine f_eqE 0 0 true rfl rfl rfl rfl rfl rfl rfl (by decide) ?_
    refine f_move (.bool true) rfl rfl rfl rfl rfl ?_
    refine f_guard rfl rfl rfl rfl ?_
    refine f_pt g300 0 q12.len rfl rfl rfl rfl rfl (fun _ h1 => (h1.blk b300).range) ?_
    refine f_guard rfl rfl rfl rfl ?_
    refine f_call #[.agg (Us l12).toArray] (.agg (By (encP A)).toArray) rfl rfl rfl own_chash (fun w1 h1 => chash_f (.inr q12) w1 (hT.below h1)) rfl rfl ?_
    refine f_guard rfl rfl rfl rfl ?_
    refine f_by g1 0 ((encP_len _)) rfl rfl rfl rfl rfl (fun _ h1 => (h1.blk b1).range) ?_
    refine f_guard rfl rfl rfl rfl ?_
    refine f_eqs ((encP A)) ((encP A)) rfl rfl rfl rfl rfl rfl rfl ((encP_len _)) (rfl) ?_
    refine f_pick (.bool true) rfl rfl rfl rfl rfl rfl ?_
    refine f_move (.bool true) rfl rfl rfl rfl rfl ?_
    refine f_guard rfl rfl rfl rfl ?_
    refine f_pt g300 0 q12.len rfl rfl rfl rfl rfl (fun _ h1 => (h1.blk b300).range) ?_
    refine f_guard rfl rfl rfl rfl ?_
    refine f_call #[.agg (Us l12).toArray] (.bool (decide (encP (Ed.mul dd 8 A) = encP Ed.zero))) rfl rfl rfl own_csmall (fun w1 h1 => csmall_f (.inr q12) w1 (hT.below h1)) rfl rfl ?_
    refine f_guard rfl rfl rfl rfl ?_
    refine f_cu g400 v15.len rfl rfl rfl rfl rfl (fun _ h1 => (h1.blk b400).range) ?_
    refine f_guard rfl rfl rfl rfl ?_
    refine f_rp g500 v19.len rfl rfl rfl rfl rfl (fun _ h1 => (h1.blk b500).range) ?_
    refine f_guard rfl rfl rfl rfl ?_
    refine f_call #[.agg (Is r15).toArray, .agg (pt X19 Y19 Z19 T19).toArray] (.bool (decide (encP (Ed.mul dd 8 A) = encP Ed.zero))) rfl rfl rfl own_rsmall (fun w1 h1 => rsmall_f v15 v19 w1) rfl rfl ?_
    refine f_guard rfl rfl rfl rfl ?_
    refine f_eqb ((decide (encP (Ed.mul dd 8 A) = encP Ed.zero))) ((decide (encP (Ed.mul dd 8 A) = encP Ed.zero))) true rfl rfl rfl rfl rfl rfl (beq_self_eq_true _) ?_
    refine f_pick (.bool true) rfl rfl rfl rfl rfl rfl ?_
    refine f_assign (.bool true) rfl rfl rfl rfl rfl ?_
    refine f_end fun w7 hw7 => ?_
    replace b1 := b1.later hw7
    replace b300 := b300.later hw7
    replace b400 := b400.later hw7
    replace b500 := b500.later hw7
    replace hT := hT.below hw7
    replace hU := hU.step hw7
    refine hK _ _ ?_
    clear hK K
    exact c_ret fun a ha => bodyPost_ret (results_tmp rfl _ _ _) ha.defers ⟨congrArg Ending.returned (ha.get 2 _ rfl), hU⟩
  · refine c_seq fun K hK => ?_
    refine c_newF 5 [nvP 3] (by decide) ⟨⟨rfl, rfl, rfl, rfl, by kernel_rfl⟩, trivial⟩ ?_
    refine f_by g1 0 lb rfl rfl rfl rfl rfl (fun _ h1 => (h1.blk b1).range) ?_
    refine f_call #[.agg (By b).toArray] (.tuple #[.agg (Us pz).toArray, .int .i64 50]) rfl rfl rfl own_cdecode (fun w1 h1 => cdec_no lb hx w1 (hT.below h1)) rfl rfl ?_
    refine f_move (.tuple #[.agg (Us pz).toArray, .int .i64 50]) rfl rfl rfl rfl rfl ?_
    refine f_extract (.agg (Us pz).toArray) rfl rfl rfl rfl rfl rfl ?_
    refine f_extract (.int .i64 50) rfl rfl rfl rfl rfl rfl ?_
    refine f_new [.tmp 13] [(Us pz).toArray] ⟨rfl, trivial⟩ (by decide) ⟨⟨rfl, rfl, rfl⟩, rfl⟩ ⟨⟨rfl, us_size pz_len |>.trans (us_size pz_len).symm, size_P pz_len, Us_oneA _⟩, trivial⟩ fun f3 W3 hg3 hd3 hw3 hb3 => ?_
    have b300 : Blk W3 (f3 0) 29 ((Us pz).toArray) := hb3.1
    clear hb3
    have q300 : w.heap.size ≤ f3 0 := Nat.le_trans hU.size (hg3 0 (by decide))
    have n1_300 : g1 ≠ f3 0 := by have := b1.lt; have := hg3 0 (by decide); omega
    replace b1 := b1.later hw3
    replace hT := hT.below hw3
    replace hU := hU.step hw3
    clear hg3 hd3 hw3
    generalize hf300 : f3 0 = g300 at *
    simp only [ptrs, hf300]
    clear hf300 f3
    refine l_assign (.int .i64 50) rfl rfl rfl rfl rfl ?_
    refine l_nil ?_
    refine hK _ _ ?_
    clear hK K
    refine c_seq fun K hK => ?_
    refine c_newF 1 [nvC 5] (by decide) ⟨⟨rfl, rfl, rfl, rfl, by kernel_rfl⟩, trivial⟩ ?_
    refine f_cur #[] rfl rfl rfl own_rnew (fun w1 _ => rnew_f w1) rfl rfl fun r15 v15 => ?_
    refine f_new [.tmp 15] [(Is r15).toArray] ⟨rfl, trivial⟩ (by decide) ⟨⟨rfl, rfl, rfl⟩, rfl⟩ ⟨⟨rfl, size_C0 v15.len, size_C v15.len, Is_oneA _⟩, trivial⟩ fun f4 W4 hg4 hd4 hw4 hb4 => ?_
    have b400 : Blk W4 (f4 0) 36 ((Is r15).toArray) := hb4.1
    clear hb4
    have q400 : w.heap.size ≤ f4 0 := Nat.le_trans hU.size (hg4 0 (by decide))
    have n1_400 : g1 ≠ f4 0 := by have := b1.lt; have := hg4 0 (by decide); omega
    have n300_400 : g300 ≠ f4 0 := by have := b300.lt; have := hg4 0 (by decide); omega
    replace b1 := b1.later hw4
    replace b300 := b300.later hw4
    replace hT := hT.below hw4
    replace hU := hU.step hw4
    clear hg4 hd4 hw4
    generalize hf400 : f4 0 = g400 at *
    simp only [ptrs, hf400]
    clear hf400 f4
    refine l_nil ?_
    refine k_sub (E' := [(1, .pointer (some ⟨g1, 0, none⟩)), (2, .bool false), (3, .pointer (some ⟨g300, 0, none⟩)), (4, .int .i64 50), (5, .pointer (some ⟨g400, 0, none⟩))]) ⟨rfl, rfl, rfl, rfl, rfl, trivial⟩ ?_
    refine hK _ _ ?_
    clear hK K
    refine c_seq fun K hK => ?_
    refine c_newF 6 [nvQ 6] (by decide) ⟨⟨rfl, rfl, rfl, rfl, by kernel_rfl⟩, trivial⟩ ?_
    refine f_cu g400 v15.len rfl rfl rfl rfl rfl (fun _ h1 => (h1.blk b400).range) ?_
    refine f_by g1 0 lb rfl rfl rfl rfl rfl (fun _ h1 => (h1.blk b1).range) ?_
    refine f_call #[.agg (Is r15).toArray, .agg (By b).toArray] (.tuple #[.agg (pt n16 n16 n16 n16).toArray, .bool false]) rfl rfl rfl own_rdecode (fun w1 _ => rdec_no v15 lb hx w1) rfl rfl ?_
    refine f_move (.tuple #[.agg (pt n16 n16 n16 n16).toArray, .bool false]) rfl rfl rfl rfl rfl ?_
    refine f_extract (.agg (pt n16 n16 n16 n16).toArray) rfl rfl rfl rfl rfl rfl ?_
    refine f_extract (.bool false) rfl rfl rfl rfl rfl rfl ?_
    refine f_new [.tmp 20] [(pt n16 n16 n16 n16).toArray] ⟨rfl, trivial⟩ (by decide) ⟨⟨rfl, rfl, rfl⟩, rfl⟩ ⟨⟨rfl, pt0_len.trans pt0_len.symm, size_pt _ pt0_len, pt_one _ _ _ _⟩, trivial⟩ fun f5 W5 hg5 hd5 hw5 hb5 => ?_
    have b500 : Blk W5 (f5 0) 39 ((pt n16 n16 n16 n16).toArray) := hb5.1
    clear hb5
    have q500 : w.heap.size ≤ f5 0 := Nat.le_trans hU.size (hg5 0 (by decide))
    have n1_500 : g1 ≠ f5 0 := by have := b1.lt; have := hg5 0 (by decide); omega
    have n300_500 : g300 ≠ f5 0 := by have := b300.lt; have := hg5 0 (by decide); omega
    have n400_500 : g400 ≠ f5 0 := by have := b400.lt; have := hg5 0 (by decide); omega
    replace b1 := b1.later hw5
    replace b300 := b300.later hw5
    replace b400 := b400.later hw5
    replace hT := hT.below hw5
    replace hU := hU.step hw5
    clear hg5 hd5 hw5
    generalize hf500 : f5 0 = g500 at *
    simp only [ptrs, hf500]
    clear hf500 f5
    refine l_assign (.bool false) rfl rfl rfl rfl rfl ?_
    refine l_nil ?_
    refine hK _ _ ?_
    clear hK K
    refine c_seq fun K0 hK0 => ?_
    refine c_seq fun K hK => ?_
    refine c_qF ?_
    refine f_move (.bool false) rfl rfl rfl rfl rfl ?_
    refine f_not false true rfl rfl rfl rfl rfl rfl ?_
    refine f_end fun w6 hw6 => ?_
    replace b1 := b1.later hw6
    replace b300 := b300.later hw6
    replace b400 := b400.later hw6
    replace b500 := b500.later hw6
    replace hT := hT.below hw6
    replace hU := hU.step hw6
    refine hK _ _ ?_
    clear hK K
    refine c_cond true rfl ?_
    rw [if_pos rfl]
    refine c_seq fun K2 hK2 => ?_
    refine c_qF ?_
    refine f_move (.int .i64 50) rfl rfl rfl rfl rfl ?_
    refine f_eqE 50 50 true rfl rfl rfl rfl rfl rfl rfl (by decide) ?_
    refine f_move (.bool true) rfl rfl rfl rfl rfl ?_
    refine f_guard rfl rfl rfl rfl ?_
    refine f_pt g300 0 pz_len rfl rfl rfl rfl rfl (fun _ h1 => (h1.blk b300).range) ?_
    refine f_guard rfl rfl rfl rfl ?_
    refine f_call #[.agg (Us pz).toArray] (.agg (By (encP Ed.zero)).toArray) rfl rfl rfl own_chash (fun w1 h1 => chash_f (.inl ⟨rfl, rfl⟩) w1 (hT.below h1)) rfl rfl ?_
    refine f_guard rfl rfl rfl rfl ?_
    refine f_build [(0, .int .u8 1)] (By oneB).toArray rfl rfl rfl rfl rfl builtOne ?_
    refine f_guard rfl rfl rfl rfl ?_
    refine f_eqs ((encP Ed.zero)) oneB rfl rfl rfl rfl rfl rfl rfl ((encP_len _)) (enc_zero) ?_
    refine f_pick (.bool true) rfl rfl rfl rfl rfl rfl ?_
    refine f_assign (.bool true) rfl rfl rfl rfl rfl ?_
    refine f_end fun w7 hw7 => ?_
    replace b1 := b1.later hw7
    replace b300 := b300.later hw7
    replace b400 := b400.later hw7
    replace b500 := b500.later hw7
    replace hT := hT.below hw7
    replace hU := hU.step hw7
    refine hK2 _ _ ?_
    exact c_ret (k_then_ret fun a ha => bodyPost_ret (results_tmp rfl _ _ _) ha.defers ⟨congrArg Ending.returned (ha.get 2 _ rfl), hU⟩)

theorem curveReads_types : ∀ t ∈ Tryd.f3.params.toList, Tryd.prog.readableRec t = true ∧ t < Tryd.prog.types.size := by
  have h : Tryd.f3.params.toList.all (fun t => Tryd.prog.readableRec t && decide (t < Tryd.prog.types.size)) = true := by kernel_rfl
  intro t ht
  have := List.all_eq_true.1 h t ht
  simpa using this

set_option maxRecDepth 100000 in
theorem curveReads_lifted (os : Os) (started : os.Started) (H : Type) (enc : TypeId × Value → H) :
    ReturnsInHanded {} Tryd.checked os 3 .any (fun w args => (Rows.curveReadsSpec.pre enc Tryd.prog Tryd.f3 [] false w args ∧ laidMetH Tryd.prog laid1 w) ∧ sizedMet enc Tryd.prog Tryd.f3 (OpenSpec.ofChange Rows.curveReadsSpec) false w args)
      (Rows.curveReadsSpec.post enc Tryd.prog Tryd.f3 false true false false) := by
  refine returnsInHanded_of_change_and (C := Tryd.checked) (X := fun w _ => laidMetH Tryd.prog laid1 w) (fun _ _ _ hh h => h.of_heap hh) own started (by kernel_rfl) Tryd.func3
    (ChangeSpec.witness_shaped (enc := enc) (C := Tryd.checked) (os := os) (X := fun w _ => laidMetH Tryd.prog laid1 w) false (World.doorLaid Tryd.prog 400 os) #[.agg (By (List.replicate 32 0)).toArray] 8 rfl (World.shaped_of_RefB (by kernel_rfl) (by kernel_rfl)) (by kernel_rfl) (by kernel_rfl) (by kernel_rfl) (door_met os _)) ?_
  intro W base args ds gs before hval0 hW _ _ hL _
  have hval : ∀ (j : Nat) t v, Tryd.f3.params[j]? = some t → args[j]? = some v → Value.okWide Tryd.prog W .any base t v := hval0
  have hW' : DataW.Whole enc Tryd.prog Tryd.f3.params.toList Rows.curveReadsSpec.vars false W args.toList ds gs before := hW
  obtain ⟨p, q, hA0, hV, rfl, hfz, hnd⟩ := hW
  have hA : DataW.TrodAll enc Tryd.prog W 0 (fun _ => true) true Tryd.f3.params.toList args.toList ds p := hA0
  rw [Tryd.params3] at hA hval
  obtain ⟨v0, d0, rfl, rfl, h0⟩ := trodAll_one hA
  obtain ⟨rfl, rfl⟩ := trodVars_none hV
  obtain ⟨b, lb, rfl⟩ := open_hash (hval 0 22 v0 rfl rfl) h0
  clear hA0 hval0
  refine (curveReads_walk lb W (of_laid hL)).mono fun e W' ⟨he, hb⟩ => ?_
  exact ⟨_, he, law_post (by kernel_rfl) rfl curveReads_types hW' rfl hb⟩

theorem curveReads_holds : Rows.CurveReadsSaid :=
  OpenClaim.holds_of_wide 3 Tryd.f3 rfl rfl rfl rfl rfl rfl rfl ⟨rfl, rfl, rfl, rfl, rfl⟩ rfl rfl rfl rfl rfl (by kernel_rfl) Tryd.func3 (by kernel_rfl)
    (of_decide_eq_true (by kernel_rfl)) (by unfold Func.isWrapper; first | (rw [if_pos (by decide +kernel)]; kernel_rfl) | (rw [if_neg (by decide +kernel)]; exact ⟨rfl, rfl⟩))
    (fun os started H enc _ => curveReads_lifted os started H enc)

theorem curveReads_card_holds : Rows.CurveReadsCardSaid :=
  Claim7.holds_tied_plain_at .later [] [.data] true Rows.curveReadsCard.stood.harness false
    curveReads_holds (fun _ h => by cases h) (by kernel_rfl) (fun _ h => by cases h) curveReads_row_tie rfl ⟨rfl, rfl⟩ (by kernel_rfl) rfl
    (fun f fn hf hfn => by
      obtain rfl : f = 3 := Option.some.inj ((show Tryd.prog.funcNamed "witan/witanlaw05.CurveReads" = some 3 by kernel_rfl).symm.trans hf) |>.symm
      obtain rfl : fn = Tryd.f3 := (Option.some.inj (Tryd.func3.symm.trans hfn)).symm
      exact ⟨by kernel_rfl, fun j t ht => by
        have hm := Array.mem_of_getElem? ht
        have hall : (Tryd.f3.params.toList.all fun u => !Tryd.prog.wantsStandIn u) = true := by kernel_rfl
        have h2 := List.all_eq_true.1 hall t (Array.mem_toList_iff.2 hm)
        show Tryd.prog.wantsStandIn t = false
        simpa using h2⟩)
    (by kernel_rfl)
#print axioms curveReads_card_holds
end Go.Proofs.YtgmiaaapaiccdaaDoor
