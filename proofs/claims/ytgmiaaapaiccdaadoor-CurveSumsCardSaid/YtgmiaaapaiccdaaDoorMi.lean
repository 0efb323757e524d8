/-
  SEVERAL TEXTS IN ONE: CpDbl, NumSteps, Pts, PAdd, PSmall, PBytes.
-/
import Derived.Test.YtgmiaaapaiccdaaDoorMh
import Derived.Test.YtgmiaaapaiccdaaDoorMc
import Derived.Test.YtgmiaaapaiccdaaDoorMg
import Derived.Test.YtgmiaaapaiccdaaDoorMa
/-
  THE PROGRAM'S POINTS: doubled.
-/
namespace Go.Proofs.YtgmiaaapaiccdaaDoor
open Go.RowKit Go.IntWalk Nums

theorem dbl_pow {A : Ed.Pt p} (hon : Ed.On dd A) {i : Nat} : Ed.mul dd (2 ^ (i + 1)) A = Ed.add dd (Ed.mul dd (2 ^ i) A) (Ed.mul dd (2 ^ i) A) := by
  rw [Nat.pow_succ, Nat.mul_two, Ed.mul_add good hon]
/-- Coordinates behind i of n doublings: T is told at the beginning and at the end. -/
def DC (n : Nat) (A : Ed.Pt p) (i : Nat) (l : List Nat) : Prop := ∃ X Y Z T x y z t, l = pc X Y Z T ∧ EB X x ∧ EB Y y ∧ EB Z z ∧ EB T t ∧ Ed.Rep x y z (Ed.mul dd (2 ^ i) A) ∧ (i = 0 ∨ i = n → t * z = x * y)
theorem DC.start {n : Nat} {A : Ed.Pt p} {l : List Nat} (h : QB l A) : DC n A 0 l := by
  obtain ⟨⟨X, Y, Z, T, x, y, z, t, e, hX, hY, hZ, hT, hR, ht⟩, _⟩ := h
  exact ⟨X, Y, Z, T, x, y, z, t, e, hX, hY, hZ, hT, by rw [Nat.pow_zero, Ed.mul_1 good]; exact hR, fun _ => ht⟩
theorem DC.len {n i : Nat} {A : Ed.Pt p} {l : List Nat} (h : DC n A i l) : l.length = 20 := by
  obtain ⟨X, Y, Z, T, x, y, z, t, rfl, hX, hY, hZ, hT, _⟩ := h
  exact pc_len hX.len hY.len hZ.len hT.len
theorem DC.fin {n : Nat} {A : Ed.Pt p} {l : List Nat} (h : DC n A n l) (hon : Ed.On dd A) : QB l (Ed.mul dd (2 ^ n) A) := by
  obtain ⟨X, Y, Z, T, x, y, z, t, e, hX, hY, hZ, hT, hR, ht⟩ := h
  exact ⟨⟨X, Y, Z, T, x, y, z, t, e, hX, hY, hZ, hT, hR, ht (.inr rfl)⟩, Ed.on_mul good hon _⟩
def DF (n g1 g2 : Nat) (s : Nat × List Nat) : List (Nat × Value) := [(1, .int .i64 (n : Int)), (2, .pointer (some ⟨g1, 0, none⟩)), (4, .pointer (some ⟨g2, 0, none⟩)), (18, .int .i64 (n : Int)), (19, .int .i64 (s.1 : Int))]
def DR (w : World) (n g1 g2 : Nat) (A : Ed.Pt p) (s : Nat × List Nat) (W : World) : Prop := s.1 ≤ n ∧ DC n A s.1 s.2 ∧ Up w W ∧ Tw W ∧ Blk W g1 29 (Us s.2).toArray ∧ Blk W g2 29 (Us pz).toArray

set_option maxRecDepth 100000 in
set_option maxHeartbeats 1000000 in
theorem doubled_f {l : List Nat} {A : Ed.Pt p} (hP : PB l A) (n : Nat) (hn : n < 4294967296) (w : World) (hT : Tw w) :
    Calls Tryd.prog 53 #[.agg (Us l).toArray, .int .i64 (n : Int)] w fun e w' => ∃ r, PB r (Ed.mul dd (2 ^ n) A) ∧ e = .returned (.agg (Us r).toArray) ∧ Below w.heap.size w w' := by
  refine calls_F (vs := [.agg (Us l).toArray, .int .i64 (n : Int)]) 76 Tryd.func53 rfl (by rw [Tryd.ntmps53]; rfl) ?_
  have hw0 := hT.lt
  have hl := hP.len
  refine c_seq fun K hK => ?_
  refine c_lit ?_
  refine l_boxA ((Us l).toArray) rfl rfl rfl rfl rfl fun W1 g1 hw1 hg1 b1 => ?_
  have q1 : w.heap.size ≤ g1 := by rw [hg1]; exact Nat.le_refl _
  clear hg1
  replace hT := hT.below hw1
  have hU : Up w _ := hw1
  refine l_allocA ((Us pz).toArray) rfl rfl rfl rfl (by kernel_rfl) fun W2 g2 hw2 hg2 b2 => ?_
  have q2 : w.heap.size ≤ g2 := by rw [hg2]; exact hU.size
  have n1_2 : g1 ≠ g2 := by have := b1.lt; omega
  clear hg2
  replace b1 := b1.later hw2
  replace hT := hT.below hw2
  replace hU := hU.step hw2
  refine l_nil ?_
  refine hK _ _ ?_
  clear hK K
  refine c_seq fun K0 hK0 => ?_
  refine c_seq fun K hK => ?_
  rcases hP with ⟨rfl, rfl⟩ | hQ
  · refine c_qF ?_
    refine f_pt g1 0 hl rfl rfl rfl rfl rfl (fun _ h1 => (h1.blk b1).range) ?_
    refine f_build [] (Us pz).toArray rfl rfl rfl rfl rfl builtP0 ?_
    refine f_eq (Us pz).toArray (Us pz).toArray rfl rfl rfl rfl rfl rfl (by kernel_rfl) eq_pz ?_
    refine f_end fun w9 hw9 => hK _ _ ?_
    clear hK K
    replace b1 := b1.later hw9
    replace b2 := b2.later hw9
    replace hT := hT.below hw9
    replace hU := hU.step hw9
    refine c_cond true rfl ?_
    rw [if_pos rfl]
    refine c_seq fun K2 hK2 => ?_
    refine c_tF 1 ?_
    refine f_pt g1 0 hl rfl rfl rfl rfl rfl (fun _ h1 => (h1.blk b1).range) ?_
    refine f_set g2 _ ((Us pz).toArray) rfl rfl rfl rfl rfl b2 (size_P pz_len) ((us_size pz_len).trans (us_size pz_len).symm) (Us_oneA _) fun w3 hw3 c3 => ?_
    replace b1 := (b1.later hw3).rowFar n1_2 ((Us pz).toArray)
    replace b2 := c3
    replace hT := (hT.below hw3).row (g := g2) (by have := hw0; omega) ((Us pz).toArray)
    replace hU := up_row (hU.step hw3) q2 ((Us pz).toArray)
    clear hw3 c3
    generalize w3.setRow g2 ((Us pz).toArray) = W3 at *
    refine l_nil ?_
    refine hK2 _ _ ?_
    clear hK2 K2
    refine c_ret (k_then_ret (k_ret_row g2 _ rfl rfl b2 Tryd.underlying29 rfl (size_P pz_len) ⟨_, .inl ⟨rfl, Ed.mul_zero good _⟩, rfl, hU⟩))
  · have hon := hQ.on
    refine c_qF ?_
    refine f_pt g1 0 hl rfl rfl rfl rfl rfl (fun _ h1 => (h1.blk b1).range) ?_
    refine f_build [] (Us pz).toArray rfl rfl rfl rfl rfl builtP0 ?_
    refine f_eq (Us l).toArray (Us pz).toArray rfl rfl rfl rfl rfl rfl (by kernel_rfl) (ne_pz hQ) ?_
    refine f_end fun w9 hw9 => hK _ _ ?_
    clear hK K
    replace b1 := b1.later hw9
    replace b2 := b2.later hw9
    replace hT := hT.below hw9
    replace hU := hU.step hw9
    refine c_cond false rfl ?_
    rw [if_neg (by decide)]
    refine c_skip ?_
    refine hK0 _ _ ?_
    clear hK0 K0
    refine c_seq fun K1 hK1 => ?_
    refine c_seq fun K hK => ?_
    refine c_qF ?_
    refine f_move (.int .i64 (n : Int)) rfl rfl rfl rfl rfl ?_
    refine f_move (.int .i64 0) rfl rfl rfl rfl rfl ?_
    refine f_end fun w10 hw10 => ?_
    replace b1 := b1.later hw10
    replace b2 := b2.later hw10
    replace hT := hT.below hw10
    replace hU := hU.step hw10
    refine k_sub (E' := DF n g1 g2 (0, l)) ⟨rfl, rfl, rfl, rfl, rfl, trivial⟩ ?_
    refine hK _ _ ?_
    clear hK K
    refine c_block ?_
    refine c_loop (m := fun s : Nat × List Nat => n - s.1) (F := DF n g1 g2) (R := DR w n g1 g2 A) ?_ (0, l) ⟨Nat.zero_le _, DC.start hQ, hU, hT, b1, b2⟩
    clear hU hT b1 b2 hw10 w10 hQ
    rintro ⟨i, m⟩ V0 ⟨hi, hD, hU, hT, b1, b2⟩
    simp only at hi hD b1
    refine c_seq fun K hK => ?_
    refine c_qF ?_
    by_cases hin : i < n
    · refine f_lssI (i : Int) (n : Int) true rfl rfl rfl rfl rfl rfl (decide_eq_true (by omega)) ?_
      refine f_end fun w11 hw11 => hK _ _ ?_
      clear hK K
      replace b1 := b1.later hw11
      replace b2 := b2.later hw11
      replace hT := hT.below hw11
      replace hU := hU.step hw11
      refine c_seq fun K hK => ?_
      refine c_cond true rfl ?_
      refine c_skip ?_
      refine hK _ _ ?_
      clear hK K
      refine c_seq fun K3 hK3 => ?_
      refine c_block ?_
      refine c_seq fun K hK => ?_
      refine c_qF ?_
      refine f_move (.int .i64 (i : Int)) rfl rfl rfl rfl rfl ?_
      refine f_assign (.int .i64 (i : Int)) rfl rfl rfl rfl rfl ?_
      refine f_end fun w12 hw12 => hK _ _ ?_
      clear hK K
      replace b1 := b1.later hw12
      replace b2 := b2.later hw12
      replace hT := hT.below hw12
      replace hU := hU.step hw12
      obtain ⟨X1, Y1, Z1, T1, x1, y1, z1, t1, rfl, hX1, hY1, hZ1, hT1, hR1, ht1⟩ := hD
      refine c_seq fun K hK => ?_
      refine c_new 20 [nvE 6, nvE 7, nvE 8, nvE 9] (by decide) (by decide) ⟨⟨rfl, rfl, rfl, rfl, by kernel_rfl⟩, ⟨rfl, rfl, rfl, rfl, by kernel_rfl⟩, ⟨rfl, rfl, rfl, rfl, by kernel_rfl⟩, ⟨rfl, rfl, rfl, rfl, by kernel_rfl⟩, trivial⟩ (by kernel_rfl) (tail_okD 8 (by kernel_rfl)) (by kernel_rfl) (fun _ _ d _ _ h => by cases d <;> exact h) ?_
      refine f_fld g1 0 0 rfl rfl rfl rfl rfl (fun w1 => cpf0 _ w1) ?_
      refine f_el g1 0 hX1.len rfl rfl rfl rfl rfl (fun _ h1 => (h1.blk b1).cx) ?_
      refine f_fld g1 0 0 rfl rfl rfl rfl rfl (fun w1 => cpf0 _ w1) ?_
      refine f_el g1 0 hX1.len rfl rfl rfl rfl rfl (fun _ h1 => (h1.blk b1).cx) ?_
      refine f_us #[.agg (Us X1).toArray, .agg (Us X1).toArray] (EB · (x1 * x1)) rfl rfl rfl own_elmul (fun w1 h1 => elmul_f hX1 hX1 w1) rfl rfl fun r26 v26 => ?_
      refine f_fld g1 0 5 rfl rfl rfl rfl rfl (fun w1 => cpf1 _ w1) ?_
      refine f_el g1 5 hY1.len rfl rfl rfl rfl rfl (fun _ h1 => (h1.blk b1).cy hX1.len) ?_
      refine f_fld g1 0 5 rfl rfl rfl rfl rfl (fun w1 => cpf1 _ w1) ?_
      refine f_el g1 5 hY1.len rfl rfl rfl rfl rfl (fun _ h1 => (h1.blk b1).cy hX1.len) ?_
      refine f_us #[.agg (Us Y1).toArray, .agg (Us Y1).toArray] (EB · (y1 * y1)) rfl rfl rfl own_elmul (fun w1 h1 => elmul_f hY1 hY1 w1) rfl rfl fun r31 v31 => ?_
      refine f_fld g1 0 10 rfl rfl rfl rfl rfl (fun w1 => cpf2 _ w1) ?_
      refine f_el g1 10 hZ1.len rfl rfl rfl rfl rfl (fun _ h1 => (h1.blk b1).cz hX1.len hY1.len) ?_
      refine f_fld g1 0 10 rfl rfl rfl rfl rfl (fun w1 => cpf2 _ w1) ?_
      refine f_el g1 10 hZ1.len rfl rfl rfl rfl rfl (fun _ h1 => (h1.blk b1).cz hX1.len hY1.len) ?_
      refine f_us #[.agg (Us Z1).toArray, .agg (Us Z1).toArray] (EB · (z1 * z1)) rfl rfl rfl own_elmul (fun w1 h1 => elmul_f hZ1 hZ1 w1) rfl rfl fun r36 v36 => ?_
      refine f_fld g1 0 0 rfl rfl rfl rfl rfl (fun w1 => cpf0 _ w1) ?_
      refine f_el g1 0 hX1.len rfl rfl rfl rfl rfl (fun _ h1 => (h1.blk b1).cx) ?_
      refine f_fld g1 0 5 rfl rfl rfl rfl rfl (fun w1 => cpf1 _ w1) ?_
      refine f_el g1 5 hY1.len rfl rfl rfl rfl rfl (fun _ h1 => (h1.blk b1).cy hX1.len) ?_
      refine f_us #[.agg (Us X1).toArray, .agg (Us Y1).toArray] (EB · (x1 * y1)) rfl rfl rfl own_elmul (fun w1 h1 => elmul_f hX1 hY1 w1) rfl rfl fun r41 v41 => ?_
      refine f_new [.tmp 26, .tmp 31, .tmp 36, .tmp 41] [(Us r26).toArray, (Us r31).toArray, (Us r36).toArray, (Us r41).toArray] ⟨rfl, rfl, rfl, rfl, trivial⟩ (by decide) ⟨⟨rfl, rfl, rfl⟩, ⟨rfl, rfl, rfl⟩, ⟨rfl, rfl, rfl⟩, ⟨rfl, rfl, rfl⟩, rfl⟩ ⟨⟨rfl, (us_size zl_len).trans (us_size v26.len).symm, size_E v26.len, Us_oneA _⟩, ⟨rfl, (us_size zl_len).trans (us_size v31.len).symm, size_E v31.len, Us_oneA _⟩, ⟨rfl, (us_size zl_len).trans (us_size v36.len).symm, size_E v36.len, Us_oneA _⟩, ⟨rfl, (us_size zl_len).trans (us_size v41.len).symm, size_E v41.len, Us_oneA _⟩, trivial⟩ fun f13 W13 hg13 hd13 hw13 hb13 => ?_
      have b1300 : Blk W13 (f13 0) 27 ((Us r26).toArray) := hb13.1
      have b1301 : Blk W13 (f13 1) 27 ((Us r31).toArray) := hb13.2.1
      have b1302 : Blk W13 (f13 2) 27 ((Us r36).toArray) := hb13.2.2.1
      have b1303 : Blk W13 (f13 3) 27 ((Us r41).toArray) := hb13.2.2.2.1
      clear hb13
      have q1300 : w.heap.size ≤ f13 0 := Nat.le_trans hU.size (hg13 0 (by decide))
      have n1_1300 : g1 ≠ f13 0 := by have := b1.lt; have := hg13 0 (by decide); omega
      have n2_1300 : g2 ≠ f13 0 := by have := b2.lt; have := hg13 0 (by decide); omega
      have q1301 : w.heap.size ≤ f13 1 := Nat.le_trans hU.size (hg13 1 (by decide))
      have n1_1301 : g1 ≠ f13 1 := by have := b1.lt; have := hg13 1 (by decide); omega
      have n2_1301 : g2 ≠ f13 1 := by have := b2.lt; have := hg13 1 (by decide); omega
      have n1300_1301 : f13 0 ≠ f13 1 := hd13 0 1 (by decide) (by decide) (by decide)
      have q1302 : w.heap.size ≤ f13 2 := Nat.le_trans hU.size (hg13 2 (by decide))
      have n1_1302 : g1 ≠ f13 2 := by have := b1.lt; have := hg13 2 (by decide); omega
      have n2_1302 : g2 ≠ f13 2 := by have := b2.lt; have := hg13 2 (by decide); omega
      have n1300_1302 : f13 0 ≠ f13 2 := hd13 0 2 (by decide) (by decide) (by decide)
      have n1301_1302 : f13 1 ≠ f13 2 := hd13 1 2 (by decide) (by decide) (by decide)
      have q1303 : w.heap.size ≤ f13 3 := Nat.le_trans hU.size (hg13 3 (by decide))
      have n1_1303 : g1 ≠ f13 3 := by have := b1.lt; have := hg13 3 (by decide); omega
      have n2_1303 : g2 ≠ f13 3 := by have := b2.lt; have := hg13 3 (by decide); omega
      have n1300_1303 : f13 0 ≠ f13 3 := hd13 0 3 (by decide) (by decide) (by decide)
      have n1301_1303 : f13 1 ≠ f13 3 := hd13 1 3 (by decide) (by decide) (by decide)
      have n1302_1303 : f13 2 ≠ f13 3 := hd13 2 3 (by decide) (by decide) (by decide)
      replace b1 := b1.later hw13
      replace b2 := b2.later hw13
      replace hT := hT.below hw13
      replace hU := hU.step hw13
      clear hg13 hd13 hw13
      generalize hf1300 : f13 0 = g1300 at *
      generalize hf1301 : f13 1 = g1301 at *
      generalize hf1302 : f13 2 = g1302 at *
      generalize hf1303 : f13 3 = g1303 at *
      simp only [ptrs, Nat.reduceAdd, hf1300, hf1301, hf1302, hf1303]
      clear hf1300 hf1301 hf1302 hf1303 f13
      refine l_nil ?_
      refine k_sub (E' := [(1, .int .i64 (n : Int)), (2, .pointer (some ⟨g1, 0, none⟩)), (4, .pointer (some ⟨g2, 0, none⟩)), (18, .int .i64 (n : Int)), (19, .int .i64 (i : Int)), (5, .int .i64 (i : Int)), (6, .pointer (some ⟨g1300, 0, none⟩)), (7, .pointer (some ⟨g1301, 0, none⟩)), (8, .pointer (some ⟨g1302, 0, none⟩)), (9, .pointer (some ⟨g1303, 0, none⟩))]) ⟨rfl, rfl, rfl, rfl, rfl, rfl, rfl, rfl, rfl, rfl, trivial⟩ ?_
      refine hK _ _ ?_
      clear hK K
      refine c_seq fun K hK => ?_
      refine c_new 9 [nvE 10, nvE 11, nvE 12] (by decide) (by decide) ⟨⟨rfl, rfl, rfl, rfl, by kernel_rfl⟩, ⟨rfl, rfl, rfl, rfl, by kernel_rfl⟩, ⟨rfl, rfl, rfl, rfl, by kernel_rfl⟩, trivial⟩ (by kernel_rfl) (tail_ok (by kernel_rfl)) (by kernel_rfl) (fun _ _ d _ _ h => by cases d <;> exact h) ?_
      refine f_el g1303 0 v41.len rfl rfl rfl rfl rfl (fun _ h1 => (h1.blk b1303).range) ?_
      refine f_el g1303 0 v41.len rfl rfl rfl rfl rfl (fun _ h1 => (h1.blk b1303).range) ?_
      refine f_us #[.agg (Us r41).toArray, .agg (Us r41).toArray] (EB · ((x1 * y1) + (x1 * y1))) rfl rfl rfl own_eladd (fun w1 h1 => eladd_f v41 v41 w1) rfl rfl fun r44 v44 => ?_
      refine f_el g1301 0 v31.len rfl rfl rfl rfl rfl (fun _ h1 => (h1.blk b1301).range) ?_
      refine f_el g1300 0 v26.len rfl rfl rfl rfl rfl (fun _ h1 => (h1.blk b1300).range) ?_
      refine f_us #[.agg (Us r31).toArray, .agg (Us r26).toArray] (EB · ((y1 * y1) - (x1 * x1))) rfl rfl rfl own_elsub (fun w1 h1 => elsub_f v31 v26 w1 (hT.below h1)) rfl rfl fun r47 v47 => ?_
      refine f_el g1301 0 v31.len rfl rfl rfl rfl rfl (fun _ h1 => (h1.blk b1301).range) ?_
      refine f_el g1300 0 v26.len rfl rfl rfl rfl rfl (fun _ h1 => (h1.blk b1300).range) ?_
      refine f_us #[.agg (Us r31).toArray, .agg (Us r26).toArray] (EB · ((y1 * y1) + (x1 * x1))) rfl rfl rfl own_eladd (fun w1 h1 => eladd_f v31 v26 w1) rfl rfl fun r50 v50 => ?_
      refine f_new [.tmp 44, .tmp 47, .tmp 50] [(Us r44).toArray, (Us r47).toArray, (Us r50).toArray] ⟨rfl, rfl, rfl, trivial⟩ (by decide) ⟨⟨rfl, rfl, rfl⟩, ⟨rfl, rfl, rfl⟩, ⟨rfl, rfl, rfl⟩, rfl⟩ ⟨⟨rfl, (us_size zl_len).trans (us_size v44.len).symm, size_E v44.len, Us_oneA _⟩, ⟨rfl, (us_size zl_len).trans (us_size v47.len).symm, size_E v47.len, Us_oneA _⟩, ⟨rfl, (us_size zl_len).trans (us_size v50.len).symm, size_E v50.len, Us_oneA _⟩, trivial⟩ fun f14 W14 hg14 hd14 hw14 hb14 => ?_
      have b1400 : Blk W14 (f14 0) 27 ((Us r44).toArray) := hb14.1
      have b1401 : Blk W14 (f14 1) 27 ((Us r47).toArray) := hb14.2.1
      have b1402 : Blk W14 (f14 2) 27 ((Us r50).toArray) := hb14.2.2.1
      clear hb14
      have q1400 : w.heap.size ≤ f14 0 := Nat.le_trans hU.size (hg14 0 (by decide))
      have n1_1400 : g1 ≠ f14 0 := by have := b1.lt; have := hg14 0 (by decide); omega
      have n2_1400 : g2 ≠ f14 0 := by have := b2.lt; have := hg14 0 (by decide); omega
      have n1300_1400 : g1300 ≠ f14 0 := by have := b1300.lt; have := hg14 0 (by decide); omega
      have n1301_1400 : g1301 ≠ f14 0 := by have := b1301.lt; have := hg14 0 (by decide); omega
      have n1302_1400 : g1302 ≠ f14 0 := by have := b1302.lt; have := hg14 0 (by decide); omega
      have n1303_1400 : g1303 ≠ f14 0 := by have := b1303.lt; have := hg14 0 (by decide); omega
      have q1401 : w.heap.size ≤ f14 1 := Nat.le_trans hU.size (hg14 1 (by decide))
      have n1_1401 : g1 ≠ f14 1 := by have := b1.lt; have := hg14 1 (by decide); omega
      have n2_1401 : g2 ≠ f14 1 := by have := b2.lt; have := hg14 1 (by decide); omega
      have n1300_1401 : g1300 ≠ f14 1 := by have := b1300.lt; have := hg14 1 (by decide); omega
      have n1301_1401 : g1301 ≠ f14 1 := by have := b1301.lt; have := hg14 1 (by decide); omega
      have n1302_1401 : g1302 ≠ f14 1 := by have := b1302.lt; have := hg14 1 (by decide); omega
      have n1303_1401 : g1303 ≠ f14 1 := by have := b1303.lt; have := hg14 1 (by decide); omega
      have n1400_1401 : f14 0 ≠ f14 1 := hd14 0 1 (by decide) (by decide) (by decide)
      have q1402 : w.heap.size ≤ f14 2 := Nat.le_trans hU.size (hg14 2 (by decide))
      have n1_1402 : g1 ≠ f14 2 := by have := b1.lt; have := hg14 2 (by decide); omega
      have n2_1402 : g2 ≠ f14 2 := by have := b2.lt; have := hg14 2 (by decide); omega
      have n1300_1402 : g1300 ≠ f14 2 := by have := b1300.lt; have := hg14 2 (by decide); omega
      have n1301_1402 : g1301 ≠ f14 2 := by have := b1301.lt; have := hg14 2 (by decide); omega
      have n1302_1402 : g1302 ≠ f14 2 := by have := b1302.lt; have := hg14 2 (by decide); omega
      have n1303_1402 : g1303 ≠ f14 2 := by have := b1303.lt; have := hg14 2 (by decide); omega
      have n1400_1402 : f14 0 ≠ f14 2 := hd14 0 2 (by decide) (by decide) (by decide)
      have n1401_1402 : f14 1 ≠ f14 2 := hd14 1 2 (by decide) (by decide) (by decide)
      replace b1 := b1.later hw14
      replace b2 := b2.later hw14
      replace b1300 := b1300.later hw14
      replace b1301 := b1301.later hw14
      replace b1302 := b1302.later hw14
      replace b1303 := b1303.later hw14
      replace hT := hT.below hw14
      replace hU := hU.step hw14
      clear hg14 hd14 hw14
      generalize hf1400 : f14 0 = g1400 at *
      generalize hf1401 : f14 1 = g1401 at *
      generalize hf1402 : f14 2 = g1402 at *
      simp only [ptrs, Nat.reduceAdd, hf1400, hf1401, hf1402]
      clear hf1400 hf1401 hf1402 f14
      refine l_nil ?_
      refine k_sub (E' := [(1, .int .i64 (n : Int)), (2, .pointer (some ⟨g1, 0, none⟩)), (4, .pointer (some ⟨g2, 0, none⟩)), (18, .int .i64 (n : Int)), (19, .int .i64 (i : Int)), (5, .int .i64 (i : Int)), (8, .pointer (some ⟨g1302, 0, none⟩)), (10, .pointer (some ⟨g1400, 0, none⟩)), (11, .pointer (some ⟨g1401, 0, none⟩)), (12, .pointer (some ⟨g1402, 0, none⟩))]) ⟨rfl, rfl, rfl, rfl, rfl, rfl, rfl, rfl, rfl, rfl, trivial⟩ ?_
      refine hK _ _ ?_
      clear hK K
      refine c_seq fun K hK => ?_
      refine c_new 5 [nvE 13] (by decide) (by decide) ⟨⟨rfl, rfl, rfl, rfl, by kernel_rfl⟩, trivial⟩ (by kernel_rfl) (tail_ok (by kernel_rfl)) (by kernel_rfl) (fun _ _ d _ _ h => by cases d <;> exact h) ?_
      refine f_el g1302 0 v36.len rfl rfl rfl rfl rfl (fun _ h1 => (h1.blk b1302).range) ?_
      refine f_el g1302 0 v36.len rfl rfl rfl rfl rfl (fun _ h1 => (h1.blk b1302).range) ?_
      refine f_us #[.agg (Us r36).toArray, .agg (Us r36).toArray] (EB · ((z1 * z1) + (z1 * z1))) rfl rfl rfl own_eladd (fun w1 h1 => eladd_f v36 v36 w1) rfl rfl fun r53 v53 => ?_
      refine f_el g1401 0 v47.len rfl rfl rfl rfl rfl (fun _ h1 => (h1.blk b1401).range) ?_
      refine f_us #[.agg (Us r53).toArray, .agg (Us r47).toArray] (EB · (((z1 * z1) + (z1 * z1)) - ((y1 * y1) - (x1 * x1)))) rfl rfl rfl own_elsub (fun w1 h1 => elsub_f v53 v47 w1 (hT.below h1)) rfl rfl fun r55 v55 => ?_
      refine f_new [.tmp 55] [(Us r55).toArray] ⟨rfl, trivial⟩ (by decide) ⟨⟨rfl, rfl, rfl⟩, rfl⟩ ⟨⟨rfl, (us_size zl_len).trans (us_size v55.len).symm, size_E v55.len, Us_oneA _⟩, trivial⟩ fun f15 W15 hg15 hd15 hw15 hb15 => ?_
      have b1500 : Blk W15 (f15 0) 27 ((Us r55).toArray) := hb15.1
      clear hb15
      have q1500 : w.heap.size ≤ f15 0 := Nat.le_trans hU.size (hg15 0 (by decide))
      have n1_1500 : g1 ≠ f15 0 := by have := b1.lt; have := hg15 0 (by decide); omega
      have n2_1500 : g2 ≠ f15 0 := by have := b2.lt; have := hg15 0 (by decide); omega
      have n1300_1500 : g1300 ≠ f15 0 := by have := b1300.lt; have := hg15 0 (by decide); omega
      have n1301_1500 : g1301 ≠ f15 0 := by have := b1301.lt; have := hg15 0 (by decide); omega
      have n1302_1500 : g1302 ≠ f15 0 := by have := b1302.lt; have := hg15 0 (by decide); omega
      have n1303_1500 : g1303 ≠ f15 0 := by have := b1303.lt; have := hg15 0 (by decide); omega
      have n1400_1500 : g1400 ≠ f15 0 := by have := b1400.lt; have := hg15 0 (by decide); omega
      have n1401_1500 : g1401 ≠ f15 0 := by have := b1401.lt; have := hg15 0 (by decide); omega
      have n1402_1500 : g1402 ≠ f15 0 := by have := b1402.lt; have := hg15 0 (by decide); omega
      replace b1 := b1.later hw15
      replace b2 := b2.later hw15
      replace b1300 := b1300.later hw15
      replace b1301 := b1301.later hw15
      replace b1302 := b1302.later hw15
      replace b1303 := b1303.later hw15
      replace b1400 := b1400.later hw15
      replace b1401 := b1401.later hw15
      replace b1402 := b1402.later hw15
      replace hT := hT.below hw15
      replace hU := hU.step hw15
      clear hg15 hd15 hw15
      generalize hf1500 : f15 0 = g1500 at *
      simp only [ptrs, hf1500]
      clear hf1500 f15
      refine l_nil ?_
      refine k_sub (E' := [(1, .int .i64 (n : Int)), (2, .pointer (some ⟨g1, 0, none⟩)), (4, .pointer (some ⟨g2, 0, none⟩)), (18, .int .i64 (n : Int)), (19, .int .i64 (i : Int)), (5, .int .i64 (i : Int)), (10, .pointer (some ⟨g1400, 0, none⟩)), (11, .pointer (some ⟨g1401, 0, none⟩)), (12, .pointer (some ⟨g1402, 0, none⟩)), (13, .pointer (some ⟨g1500, 0, none⟩))]) ⟨rfl, rfl, rfl, rfl, rfl, rfl, rfl, rfl, rfl, rfl, trivial⟩ ?_
      refine hK _ _ ?_
      clear hK K
      refine c_seq fun K hK => ?_
      refine c_t 10 (by decide) (by kernel_rfl) (tail_ok (by kernel_rfl)) (fun _ _ d _ _ h => by cases d <;> exact h) ?_
      refine f_el g1400 0 v44.len rfl rfl rfl rfl rfl (fun _ h1 => (h1.blk b1400).range) ?_
      refine f_el g1500 0 v55.len rfl rfl rfl rfl rfl (fun _ h1 => (h1.blk b1500).range) ?_
      refine f_us #[.agg (Us r44).toArray, .agg (Us r55).toArray] (EB · (((x1 * y1) + (x1 * y1)) * (((z1 * z1) + (z1 * z1)) - ((y1 * y1) - (x1 * x1))))) rfl rfl rfl own_elmul (fun w1 h1 => elmul_f v44 v55 w1) rfl rfl fun r58 v58 => ?_
      refine f_el g1401 0 v47.len rfl rfl rfl rfl rfl (fun _ h1 => (h1.blk b1401).range) ?_
      refine f_el g1402 0 v50.len rfl rfl rfl rfl rfl (fun _ h1 => (h1.blk b1402).range) ?_
      refine f_us #[.agg (Us r47).toArray, .agg (Us r50).toArray] (EB · (((y1 * y1) - (x1 * x1)) * ((y1 * y1) + (x1 * x1)))) rfl rfl rfl own_elmul (fun w1 h1 => elmul_f v47 v50 w1) rfl rfl fun r61 v61 => ?_
      refine f_el g1500 0 v55.len rfl rfl rfl rfl rfl (fun _ h1 => (h1.blk b1500).range) ?_
      refine f_el g1401 0 v47.len rfl rfl rfl rfl rfl (fun _ h1 => (h1.blk b1401).range) ?_
      refine f_us #[.agg (Us r55).toArray, .agg (Us r47).toArray] (EB · ((((z1 * z1) + (z1 * z1)) - ((y1 * y1) - (x1 * x1))) * ((y1 * y1) - (x1 * x1)))) rfl rfl rfl own_elmul (fun w1 h1 => elmul_f v55 v47 w1) rfl rfl fun r64 v64 => ?_
      refine f_build [(0, .agg (Us r58).toArray), (1, .agg (Us r61).toArray), (2, .agg (Us r64).toArray)] (Us (pc r58 r61 r64 zl)).toArray rfl rfl rfl rfl rfl (builtP3 v58.len v61.len v64.len) ?_
      refine f_set g1 _ ((Us (pc r58 r61 r64 zl)).toArray) rfl rfl rfl rfl rfl b1 (size_P (pc_len v58.len v61.len v64.len zl_len)) ((us_size (pc_len hX1.len hY1.len hZ1.len hT1.len)).trans (us_size (pc_len v58.len v61.len v64.len zl_len)).symm) (Us_oneA _) fun w16 hw16 c16 => ?_
      replace b2 := (b2.later hw16).rowFar (Ne.symm n1_2) ((Us (pc r58 r61 r64 zl)).toArray)
      replace b1300 := (b1300.later hw16).rowFar (Ne.symm n1_1300) ((Us (pc r58 r61 r64 zl)).toArray)
      replace b1301 := (b1301.later hw16).rowFar (Ne.symm n1_1301) ((Us (pc r58 r61 r64 zl)).toArray)
      replace b1302 := (b1302.later hw16).rowFar (Ne.symm n1_1302) ((Us (pc r58 r61 r64 zl)).toArray)
      replace b1303 := (b1303.later hw16).rowFar (Ne.symm n1_1303) ((Us (pc r58 r61 r64 zl)).toArray)
      replace b1400 := (b1400.later hw16).rowFar (Ne.symm n1_1400) ((Us (pc r58 r61 r64 zl)).toArray)
      replace b1401 := (b1401.later hw16).rowFar (Ne.symm n1_1401) ((Us (pc r58 r61 r64 zl)).toArray)
      replace b1402 := (b1402.later hw16).rowFar (Ne.symm n1_1402) ((Us (pc r58 r61 r64 zl)).toArray)
      replace b1500 := (b1500.later hw16).rowFar (Ne.symm n1_1500) ((Us (pc r58 r61 r64 zl)).toArray)
      replace b1 := c16
      replace hT := (hT.below hw16).row (g := g1) (by have := hw0; omega) ((Us (pc r58 r61 r64 zl)).toArray)
      replace hU := up_row (hU.step hw16) q1 ((Us (pc r58 r61 r64 zl)).toArray)
      clear hw16 c16
      generalize w16.setRow g1 ((Us (pc r58 r61 r64 zl)).toArray) = W16 at *
      refine l_nil ?_
      refine hK _ _ ?_
      clear hK K
      have hE := Ed.Rep.dbl good (Ed.on_mul good hon (2 ^ i)) hR1 rfl rfl rfl rfl rfl rfl rfl rfl
      rw [← dbl_pow hon] at hE
      refine c_seq fun K hK => ?_
      refine c_qF ?_
      refine f_move (.int .i64 (i : Int)) rfl rfl rfl rfl rfl ?_
      refine f_move (.int .i64 (n : Int)) rfl rfl rfl rfl rfl ?_
      refine f_subI (n : Int) (1 : Int) ((n - 1 : Nat) : Int) rfl rfl rfl rfl rfl rfl (subI n 1 (by omega) (by omega)) ?_
      by_cases hlast : i = n - 1
      · refine f_eqlI (i : Int) ((n - 1 : Nat) : Int) true rfl rfl rfl rfl rfl rfl (decide_eq_true (by omega)) ?_
        refine f_end fun w18 hw18 => hK _ _ ?_
        clear hK K
        replace b1 := b1.later hw18
        replace b2 := b2.later hw18
        replace b1300 := b1300.later hw18
        replace b1301 := b1301.later hw18
        replace b1302 := b1302.later hw18
        replace b1303 := b1303.later hw18
        replace b1400 := b1400.later hw18
        replace b1401 := b1401.later hw18
        replace b1402 := b1402.later hw18
        replace b1500 := b1500.later hw18
        replace hT := hT.below hw18
        replace hU := hU.step hw18
        refine c_cond true rfl ?_
        refine c_tF 4 ?_
        refine f_el g1400 0 v44.len rfl rfl rfl rfl rfl (fun _ h1 => (h1.blk b1400).range) ?_
        refine f_el g1402 0 v50.len rfl rfl rfl rfl rfl (fun _ h1 => (h1.blk b1402).range) ?_
        refine f_us #[.agg (Us r44).toArray, .agg (Us r50).toArray] (EB · (((x1 * y1) + (x1 * y1)) * ((y1 * y1) + (x1 * x1)))) rfl rfl rfl own_elmul (fun w1 h1 => elmul_f v44 v50 w1) rfl rfl fun r72 v72 => ?_
        refine f_fld g1 0 15 rfl rfl rfl rfl rfl (fun w1 => cpf3 _ w1) ?_
        refine f_tail fun w19 hw19 => ?_
        replace b1 := b1.later hw19
        replace b2 := b2.later hw19
        replace hT := hT.below hw19
        replace hU := hU.step hw19
        have c1 : Blk w19 g1 29 ((Us r58 ++ (Us r61 ++ Us r64)) ++ (Us zl ++ [])).toArray := by simpa [Us_pc] using b1
        refine l_midA g1 15 _ (Us zl) [] (Us r72) rfl rfl rfl rfl rfl c1 (by simp [Us_len, v58.len, v61.len, v64.len]) (by rw [Us_len, Us_len, v72.len]; rfl) (size_e v72.len) (Us_one _) fun W' hO c2 => ?_
        have e2 : ((Us r58 ++ (Us r61 ++ Us r64)) ++ (Us r72 ++ [])).toArray = (Us (pc r58 r61 r64 r72)).toArray := by simp [Us_pc]
        rw [e2] at c2
        replace b2 := hO.blk _ _ _ (Ne.symm n1_2) b2
        replace hT := hT.only hO (by omega)
        replace hU := hO.up _ q1 hU
        clear b1
        have b1 := c2
        refine l_nil ?_
        refine hK3 _ _ ?_
        clear hK3 K3
        refine c_qF ?_
        refine f_addI (i : Int) 1 ((i + 1 : Nat) : Int) rfl rfl rfl rfl rfl rfl (addI i 1 (by omega)) ?_
        refine f_move (.int .i64 ((i + 1 : Nat) : Int)) rfl rfl rfl rfl rfl ?_
        refine f_end fun w20 hw20 => ?_
        replace b1 := b1.later hw20
        replace b2 := b2.later hw20
        replace hT := hT.below hw20
        replace hU := hU.step hw20
        exact k_round (m := fun s : Nat × List Nat => n - s.1) (F := DF n g1 g2) (R := DR w n g1 g2 A) (s := (i, _)) (i + 1, pc r58 r61 r64 r72) ⟨rfl, rfl, rfl, rfl, rfl, trivial⟩ ⟨hin, ⟨_, _, _, _, _, _, _, _, rfl, v58, v61, v64, v72, hE.1, fun _ => hE.2⟩, hU, hT, b1, b2⟩ (by show n - (i + 1) < n - i; omega)
      · refine f_eqlI (i : Int) ((n - 1 : Nat) : Int) false rfl rfl rfl rfl rfl rfl (decide_eq_false (by omega)) ?_
        refine f_end fun w18 hw18 => hK _ _ ?_
        clear hK K
        replace b1 := b1.later hw18
        replace b2 := b2.later hw18
        replace b1300 := b1300.later hw18
        replace b1301 := b1301.later hw18
        replace b1302 := b1302.later hw18
        replace b1303 := b1303.later hw18
        replace b1400 := b1400.later hw18
        replace b1401 := b1401.later hw18
        replace b1402 := b1402.later hw18
        replace b1500 := b1500.later hw18
        replace hT := hT.below hw18
        replace hU := hU.step hw18
        refine c_cond false rfl ?_
        refine c_skip ?_
        refine hK3 _ _ ?_
        clear hK3 K3
        refine c_qF ?_
        refine f_addI (i : Int) 1 ((i + 1 : Nat) : Int) rfl rfl rfl rfl rfl rfl (addI i 1 (by omega)) ?_
        refine f_move (.int .i64 ((i + 1 : Nat) : Int)) rfl rfl rfl rfl rfl ?_
        refine f_end fun w20 hw20 => ?_
        replace b1 := b1.later hw20
        replace b2 := b2.later hw20
        replace b1300 := b1300.later hw20
        replace b1301 := b1301.later hw20
        replace b1302 := b1302.later hw20
        replace b1303 := b1303.later hw20
        replace b1400 := b1400.later hw20
        replace b1401 := b1401.later hw20
        replace b1402 := b1402.later hw20
        replace b1500 := b1500.later hw20
        replace hT := hT.below hw20
        replace hU := hU.step hw20
        exact k_round (m := fun s : Nat × List Nat => n - s.1) (F := DF n g1 g2) (R := DR w n g1 g2 A) (s := (i, _)) (i + 1, pc r58 r61 r64 zl) ⟨rfl, rfl, rfl, rfl, rfl, trivial⟩ ⟨hin, ⟨_, _, _, _, _, _, _, _, rfl, v58, v61, v64, eb_zero, hE.1, fun h => by omega⟩, hU, hT, b1, b2⟩ (by show n - (i + 1) < n - i; omega)
    · refine f_lssI (i : Int) (n : Int) false rfl rfl rfl rfl rfl rfl (decide_eq_false (by omega)) ?_
      refine f_end fun w11 hw11 => hK _ _ ?_
      clear hK K
      replace b1 := b1.later hw11
      replace b2 := b2.later hw11
      replace hT := hT.below hw11
      replace hU := hU.step hw11
      refine c_seq fun K hK => ?_
      refine c_cond false rfl ?_
      refine c_exit ?_
      show kF K1 76 _ _
      refine hK1 _ _ ?_
      clear hK1 K1 hK K
      obtain rfl : i = n := by omega
      have hml := hD.len
      refine c_seq fun K hK => ?_
      refine c_tF 1 ?_
      refine f_pt g1 0 hml rfl rfl rfl rfl rfl (fun _ h1 => (h1.blk b1).range) ?_
      refine f_set g2 _ ((Us m).toArray) rfl rfl rfl rfl rfl b2 (size_P hml) ((us_size pz_len).trans (us_size hml).symm) (Us_oneA _) fun w31 hw31 c31 => ?_
      replace b1 := (b1.later hw31).rowFar n1_2 ((Us m).toArray)
      replace b2 := c31
      replace hT := (hT.below hw31).row (g := g2) (by have := hw0; omega) ((Us m).toArray)
      replace hU := up_row (hU.step hw31) q2 ((Us m).toArray)
      clear hw31 c31
      generalize w31.setRow g2 ((Us m).toArray) = W31 at *
      refine l_nil ?_
      refine hK _ _ ?_
      clear hK K
      refine c_ret (k_ret_row g2 _ rfl rfl b2 Tryd.underlying29 rfl (size_P hml) ⟨_, .inr (hD.fin hon), rfl, hU⟩)
end Go.Proofs.YtgmiaaapaiccdaaDoor
/-
  THE DOCUMENT'S OWN NUMBERS: the steps of a walk at them; Add, Sub, Of as numbers modulo p.
-/
namespace Go.Proofs.YtgmiaaapaiccdaaDoor
open Go.RowKit Go.IntWalk Nums

theorem own_load : Own 43 := fun _ _ => by go_simp
theorem own_pack : Own 45 := fun _ _ => by go_simp
theorem own_add : Own 59 := fun _ _ => by go_simp
theorem own_sub : Own 47 := fun _ _ => by go_simp
theorem own_mul : Own 46 := fun _ _ => by go_simp
theorem own_good : Own 42 := fun _ _ => by go_simp
theorem own_of : Own 48 := fun _ _ => by go_simp
theorem own_inv : Own 56 := fun _ _ => by go_simp
theorem own_power : Own 70 := fun _ _ => by go_simp

section
variable {ops : Array Oper} {C0 : World → Prop} {Q : Act → Prop} {a : Act} {o : Oper} {rest : List Oper}
/-- A call that hands back a number. -/
theorem b_num {f : FuncId} {xs : Array Operand} {ats : Array TypeId} {args : Array Value} {B : Int} {x : F} (hg : Region.wanted o (yielded ops a.tmps) = true)
    (hf : Own f) (hc : ∀ w, Calls Tryd.prog f args w (fun e w' => ∃ r, NB B r x ∧ e = .returned (.agg (Is r).toArray) ∧ Below w.heap.size w w'))
    (ho : o.op = .call { callee := .value (.func f), args := xs, argTypes := ats }) (hx : xs.toList.map a.eval = args.toList) (hk : ∀ r, NB B r x → wpB Tryd.prog ops C0 Q rest (a.put o.dst (.agg (Is r).toArray))) : wpB Tryd.prog ops C0 Q (o :: rest) a := by
  refine b_call (f := f) (args := args) (fun v => ∃ r, NB B r x ∧ v = .agg (Is r).toArray) hg (by rw [ho]; rfl) (fun w _ => (hc w).mono ?_) (fun w => by rw [run_call_fn hf ho, map_eval hx]) ?_
  · rintro e w2 ⟨r, hr, rfl, hw2⟩
    exact ⟨_, rfl, ⟨r, hr, rfl⟩, hw2⟩
  · rintro _ ⟨r, hr, rfl⟩
    exact hk r hr
/-- A number is read. -/
theorem b_ld {l : List Int} (g off : Nat) (hl : l.length = 16) (x : Operand) (hg : Region.wanted o (yielded ops a.tmps) = true) (ho : o.op = .load 34 x) (hx : a.eval x = .pointer (some ⟨g, off, none⟩))
    (hc : ∀ w, C0 w → w.rangeAt g off (Is l)) (hk : wpB Tryd.prog ops C0 Q rest (a.put o.dst (.agg (Is l).toArray))) : wpB Tryd.prog ops C0 Q (o :: rest) a :=
  b_mid hg 34 x ho g off hx (Is l) _ hc Tryd.underlying34 rfl (size_num (Is l).toArray (by rw [List.size_toArray, Is_len, hl])) hk
theorem eqd (x y : F) (w : World) : (Op.equalIn 10000 22 (.agg (By (enc x)).toArray) (.agg (By (enc y)).toArray)).run Tryd.prog w = .ok (decide (x = y)) w := by
  rw [equal32 _ _ (enc_len _) (enc_len _)]
  congr 1
  exact decide_eq_decide.2 ⟨enc_inj, congrArg enc⟩
end

/-! ### Sums and small numbers as numbers modulo p -/
theorem add_f {B C : Int} {a b : List Int} {x y : F} (ha : NB B a x) (hb : NB C b y) (hB : B ≤ 2305843009213693952) (hC : C ≤ 2305843009213693952) (w : World) :
    Calls Tryd.prog 59 #[.agg (Is a).toArray, .agg (Is b).toArray] w fun e w' => ∃ r, NB (B + C) r (x + y) ∧ e = .returned (.agg (Is r).toArray) ∧ Below w.heap.size w w' :=
  (add_any a b w ha.len hb.len (ha.bnd.mono hB) (hb.bnd.mono hC)).mono fun _ _ ⟨h1, h2⟩ => ⟨_, ha.adds hb, h1, h2⟩
theorem sub_f {B C : Int} {a b : List Int} {x y : F} (ha : NB B a x) (hb : NB C b y) (hB : B ≤ 2305843009213693952) (hC : C ≤ 2305843009213693952) (w : World) :
    Calls Tryd.prog 47 #[.agg (Is a).toArray, .agg (Is b).toArray] w fun e w' => ∃ r, NB (B + C) r (x - y) ∧ e = .returned (.agg (Is r).toArray) ∧ Below w.heap.size w w' :=
  (sub_any a b w ha.len hb.len (ha.bnd.mono hB) (hb.bnd.mono hC)).mono fun _ _ ⟨h1, h2⟩ => ⟨_, ha.subs hb, h1, h2⟩
theorem of_f (v : Nat) (hv : v < 18446744073709551616) (w : World) :
    Calls Tryd.prog 48 #[.int .u64 v] w fun e w' => ∃ r, NB 65535 r (fof v) ∧ e = .returned (.agg (Is r).toArray) ∧ Below w.heap.size w w' :=
  (of_any v w hv).mono fun _ _ ⟨h1, h2⟩ => ⟨_, NB.of hv, h1, h2⟩

end Go.Proofs.YtgmiaaapaiccdaaDoor
/-
  THE DOCUMENT'S OWN POINTS: what their cells are; the steps of a walk at numbers and points; Dee, New, Zero, on.
-/
namespace Go.Proofs.YtgmiaaapaiccdaaDoor
open Go.RowKit Go.IntWalk Nums

/-- A point's cells: x, y, z, t. -/
def pt (X Y Z T : List Int) : List Value := Is X ++ (Is Y ++ (Is Z ++ Is T))
def n16 : List Int := List.replicate 16 0
theorem n16_len : n16.length = 16 := rfl

theorem size_pt (cs : Array Value) (h : cs.size = 64) : (Tryd.prog.info? 39).map (·.size) = some cs.size := by
  rw [h]
  kernel_rfl
theorem size_curve (cs : Array Value) (h : cs.size = 16) : (Tryd.prog.info? 36).map (·.size) = some cs.size := by
  rw [h]
  kernel_rfl
theorem pt_len {X Y Z T : List Int} (hx : X.length = 16) (hy : Y.length = 16) (hz : Z.length = 16) (ht : T.length = 16) : (pt X Y Z T).toArray.size = 64 := by
  simp [pt, Is_len, hx, hy, hz, ht]
theorem pt_one (X Y Z T : List Int) : ∀ v ∈ (pt X Y Z T).toArray.toList, v.oneCell' = true := by
  intro v hv
  simp only [pt, List.mem_append] at hv
  rcases hv with hv | hv | hv | hv <;> exact Is_one _ _ hv

theorem Blk.mid {w : World} {g t off : Nat} {A V Z : List Value} (h : Blk w g t (A ++ (V ++ Z)).toArray) (ho : off = A.length) : w.rangeAt g off V := fun j v hv => by
  rw [h.cell (off + j), ho]
  have hj := (List.getElem?_eq_some_iff.1 hv).1
  simp only [List.getElem?_toArray]
  rw [List.getElem?_append_right (by omega), Nat.add_sub_cancel_left, List.getElem?_append_left hj]
  exact hv

section
variable {w : World} {g t : Nat} {X Y Z T : List Int}
theorem Blk.ptX (h : Blk w g t (pt X Y Z T).toArray) : w.rangeAt g 0 (Is X) := Blk.mid (A := []) h rfl
theorem Blk.ptY (h : Blk w g t (pt X Y Z T).toArray) (hx : X.length = 16) : w.rangeAt g 16 (Is Y) := Blk.mid (A := Is X) h (by rw [Is_len, hx])
theorem Blk.ptZ (h : Blk w g t (pt X Y Z T).toArray) (hx : X.length = 16) (hy : Y.length = 16) : w.rangeAt g 32 (Is Z) := by
  unfold pt at h
  rw [← List.append_assoc] at h
  exact Blk.mid h (by simp [Is_len, hx, hy])
end

/-! ### The steps -/
theorem own_dee : Own 41 := fun _ _ => by go_simp
theorem own_same : Own 71 := fun _ _ => by go_simp

section
variable {ops : Array Oper} {C0 : World → Prop} {Q : Act → Prop} {a : Act} {o : Oper} {rest : List Oper}
/-- A point is read. -/
theorem b_ldp {X Y Z T : List Int} (g : Nat) (hx : X.length = 16) (hy : Y.length = 16) (hz : Z.length = 16) (ht : T.length = 16) (x : Operand) (hg : Region.wanted o (yielded ops a.tmps) = true) (ho : o.op = .load 39 x) (hxx : a.eval x = .pointer (some ⟨g, 0, none⟩))
    (hc : ∀ w, C0 w → w.rangeAt g 0 (pt X Y Z T)) (hk : wpB Tryd.prog ops C0 Q rest (a.put o.dst (.agg (pt X Y Z T).toArray))) : wpB Tryd.prog ops C0 Q (o :: rest) a :=
  b_mid hg 39 x ho g 0 hxx (pt X Y Z T) _ hc Tryd.underlying39 rfl (size_pt (pt X Y Z T).toArray (pt_len hx hy hz ht)) hk
theorem b_ldc {D : List Int} (g : Nat) (hD : D.length = 16) (x : Operand) (hg : Region.wanted o (yielded ops a.tmps) = true) (ho : o.op = .load 36 x) (hxx : a.eval x = .pointer (some ⟨g, 0, none⟩))
    (hc : ∀ w, C0 w → w.rangeAt g 0 (Is D)) (hk : wpB Tryd.prog ops C0 Q rest (a.put o.dst (.agg (Is D).toArray))) : wpB Tryd.prog ops C0 Q (o :: rest) a :=
  b_mid hg 36 x ho g 0 hxx (Is D) _ hc Tryd.underlying36 rfl (size_curve (Is D).toArray (by rw [List.size_toArray, Is_len, hD])) hk
end

theorem fld0 (b : Nat) (w : World) : (Instr.fieldAt 39 (.pointer (some ⟨b, 0, none⟩)) 0).run Tryd.prog w = .ok (.pointer (some ⟨b, 0, none⟩)) w := by go_simp
theorem fld1 (b : Nat) (w : World) : (Instr.fieldAt 39 (.pointer (some ⟨b, 0, none⟩)) 1).run Tryd.prog w = .ok (.pointer (some ⟨b, 16, none⟩)) w := by go_simp
theorem fld2 (b : Nat) (w : World) : (Instr.fieldAt 39 (.pointer (some ⟨b, 0, none⟩)) 2).run Tryd.prog w = .ok (.pointer (some ⟨b, 32, none⟩)) w := by go_simp
theorem fldc (b : Nat) (w : World) : (Instr.fieldAt 36 (.pointer (some ⟨b, 0, none⟩)) 0).run Tryd.prog w = .ok (.pointer (some ⟨b, 0, none⟩)) w := by go_simp

/-! ### Points and curves, built -/
theorem built_pt (parts : List (Nat × Value)) : Tryd.prog.built 39 parts = Instr.fill (#[(0, 16), (16, 16), (32, 16), (48, 16)][·]?) (pt n16 n16 n16 n16).toArray parts :=
  built_of (t := 39) (z := (pt n16 n16 n16 n16).toArray) (pl := [(0, 16), (16, 16), (32, 16), (48, 16)]) (by kernel_rfl)
theorem built_curve (parts : List (Nat × Value)) : Tryd.prog.built 36 parts = Instr.fill (#[(0, 16)][·]?) (Is n16).toArray parts :=
  built_of (t := 36) (z := (Is n16).toArray) (pl := [(0, 16)]) (by kernel_rfl)

section
variable {X Y Z T : List Int}
theorem put_X (X' : List Int) (hX : X.length = 16) (hX' : X'.length = 16) (rest : List (Nat × Value)) :
    Instr.fill (#[(0, 16), (16, 16), (32, 16), (48, 16)][·]?) (pt X Y Z T).toArray ((0, .agg (Is X').toArray) :: rest) = Instr.fill (#[(0, 16), (16, 16), (32, 16), (48, 16)][·]?) (pt X' Y Z T).toArray rest :=
  fill_put _ 0 16 [] (Is X) (Is Y ++ (Is Z ++ Is T)) (Is X') rest rfl (by rw [Is_len, hX']) (by rw [Is_len, hX])
theorem put_Y (Y' : List Int) (hX : X.length = 16) (hY : Y.length = 16) (hY' : Y'.length = 16) (rest : List (Nat × Value)) :
    Instr.fill (#[(0, 16), (16, 16), (32, 16), (48, 16)][·]?) (pt X Y Z T).toArray ((1, .agg (Is Y').toArray) :: rest) = Instr.fill (#[(0, 16), (16, 16), (32, 16), (48, 16)][·]?) (pt X Y' Z T).toArray rest :=
  fill_put _ 1 16 (Is X) (Is Y) (Is Z ++ Is T) (Is Y') rest (by rw [Is_len, hX]; rfl) (by rw [Is_len, hY']) (by rw [Is_len, hY])
theorem put_Z (Z' : List Int) (hX : X.length = 16) (hY : Y.length = 16) (hZ : Z.length = 16) (hZ' : Z'.length = 16) (rest : List (Nat × Value)) :
    Instr.fill (#[(0, 16), (16, 16), (32, 16), (48, 16)][·]?) (pt X Y Z T).toArray ((2, .agg (Is Z').toArray) :: rest) = Instr.fill (#[(0, 16), (16, 16), (32, 16), (48, 16)][·]?) (pt X Y Z' T).toArray rest := by
  have h := fill_put (#[(0, 16), (16, 16), (32, 16), (48, 16)][·]?) 2 16 (Is X ++ Is Y) (Is Z) (Is T) (Is Z') rest (by simp [Is_len, hX, hY]) (by rw [Is_len, hZ']) (by rw [Is_len, hZ])
  rw [List.append_assoc, List.append_assoc] at h
  exact h
theorem put_T (T' : List Int) (hX : X.length = 16) (hY : Y.length = 16) (hZ : Z.length = 16) (hT : T.length = 16) (hT' : T'.length = 16) (rest : List (Nat × Value)) :
    Instr.fill (#[(0, 16), (16, 16), (32, 16), (48, 16)][·]?) (pt X Y Z T).toArray ((3, .agg (Is T').toArray) :: rest) = Instr.fill (#[(0, 16), (16, 16), (32, 16), (48, 16)][·]?) (pt X Y Z T').toArray rest := by
  have h := fill_put (#[(0, 16), (16, 16), (32, 16), (48, 16)][·]?) 3 16 (Is X ++ (Is Y ++ Is Z)) (Is T) [] (Is T') rest (by simp [Is_len, hX, hY, hZ]) (by rw [Is_len, hT']) (by rw [Is_len, hT])
  rw [List.append_assoc, List.append_assoc, List.append_nil, List.append_nil, List.append_assoc, List.append_assoc] at h
  exact h
end
theorem put_D (D : List Int) (hD : D.length = 16) : Tryd.prog.built 36 [(0, .agg (Is D).toArray)] = some (Is D).toArray := by
  rw [built_curve]
  have h := fill_put (#[(0, 16)][·]?) 0 16 [] (Is n16) [] (Is D) [] rfl (by rw [Is_len, hD]) (by rw [Is_len, n16_len])
  rw [List.append_nil, List.append_nil] at h
  exact h
theorem built3 {X Y Z : List Int} (hX : X.length = 16) (hY : Y.length = 16) (hZ : Z.length = 16) : Tryd.prog.built 39 [(0, .agg (Is X).toArray), (1, .agg (Is Y).toArray), (2, .agg (Is Z).toArray)] = some (pt X Y Z n16).toArray := by
  rw [built_pt, put_X X rfl hX, put_Y Y hX rfl hY, put_Z Z hX hY rfl hZ]
  rfl
theorem built12 {Y Z : List Int} (hY : Y.length = 16) (hZ : Z.length = 16) : Tryd.prog.built 39 [(1, .agg (Is Y).toArray), (2, .agg (Is Z).toArray)] = some (pt n16 Y Z n16).toArray := by
  rw [built_pt, put_Y Y rfl rfl hY, put_Z Z rfl hY rfl hZ]
  rfl
theorem built4 {X Y Z T : List Int} (hX : X.length = 16) (hY : Y.length = 16) (hZ : Z.length = 16) (hT : T.length = 16) :
    Tryd.prog.built 39 [(0, .agg (Is X).toArray), (1, .agg (Is Y).toArray), (2, .agg (Is Z).toArray), (3, .agg (Is T).toArray)] = some (pt X Y Z T).toArray := by
  rw [built_pt, put_X X rfl hX, put_Y Y hX rfl hY, put_Z Z hX hY rfl hZ, put_T T hX hY hZ rfl hT]
  rfl

theorem nb_n16 : NB 65573 n16 0 := by
  refine ⟨rfl, ?_, ?_⟩
  · intro x hx
    obtain rfl := List.eq_of_mem_replicate hx
    omega
  · have h : V n16 = 0 := by decide
    rw [h]
    rfl
theorem rep_zero : Ed.Rep (0 : F) (fof 1) (fof 1) Ed.zero := by
  rw [fof_one]
  exact Ed.Rep.zero prime_p
/-- The cells are a point of the curve. -/
structure PR (X Y Z T : List Int) (A : Ed.Pt p) : Prop where
  ex : ∃ x y z, NB 65573 X x ∧ NB 65573 Y y ∧ NB 65573 Z z ∧ Ed.Rep x y z A
  on : Ed.On dd A
  t : T.length = 16
end Go.Proofs.YtgmiaaapaiccdaaDoor
/-
  THE DOCUMENT'S OWN POINTS: Add.
-/
namespace Go.Proofs.YtgmiaaapaiccdaaDoor
open Go.RowKit Go.IntWalk Nums

set_option maxRecDepth 100000 in
set_option maxHeartbeats 2000000 in
theorem padd_f {D X1 Y1 Z1 T1 X2 Y2 Z2 T2 : List Int} {A B : Ed.Pt p} (hD : NB 65573 D dd) (h1 : PR X1 Y1 Z1 T1 A) (h2 : PR X2 Y2 Z2 T2 B) (w : World) :
    Calls Tryd.prog 24 #[.agg (Is D).toArray, .agg (pt X1 Y1 Z1 T1).toArray, .agg (pt X2 Y2 Z2 T2).toArray] w fun e w' =>
      ∃ X Y Z T, PR X Y Z T (Ed.add dd A B) ∧ e = .returned (.agg (pt X Y Z T).toArray) ∧ Below w.heap.size w w' := by
  obtain ⟨⟨x1, y1, z1, nx1, ny1, nz1, r1⟩, o1, t1⟩ := h1
  obtain ⟨⟨x2, y2, z2, nx2, ny2, nz2, r2⟩, o2, t2⟩ := h2
  have HR := Lib.hid (Ed.Rep.add good o1 o2 r1 r2 rfl rfl)
  have HO := Lib.hid (Ed.on_add good o1 o2)
  clear r1 r2
  go_enter Tryd.func24, Tryd.ntmps24
  refine wp_seq_k fun K hK => ?_
  refine wp_region_lit ?_
  refine wpl_box (Is D).toArray rfl rfl rfl ?_
  refine wpl_box (pt X1 Y1 Z1 T1).toArray rfl rfl rfl ?_
  refine wpl_box (pt X2 Y2 Z2 T2).toArray rfl rfl rfl ?_
  refine wpl_alloc (zs := (pt n16 n16 n16 n16).toArray) rfl rfl (by kernel_rfl) ?_
  refine wpl_nil ?_
  go_simp
  refine hK _ _ ?_
  clear hK K
  refine wp_at (fun W => Blk W w.heap.size 36 (Is D).toArray ∧ Blk W (w.heap.size + 1) 39 (pt X1 Y1 Z1 T1).toArray ∧ Blk W (w.heap.size + 1 + 1) 39 (pt X2 Y2 Z2 T2).toArray ∧
    Blk W (w.heap.size + 1 + 1 + 1) 39 (pt n16 n16 n16 n16).toArray ∧ Below w.heap.size w W) ⟨blk4_0 w _ _ _ _ _, blk4_1 w _ _ _ _ _, blk4_2 w _ _ _ _ _, blk4_3 w _ _ _ _ _, below4 _ _ _ _ _⟩ ?_
  rintro W ⟨hc, hp, hq, ho, hbe⟩
  -- walk add
  refine wp_seq_k fun K hK => ?_
  refine reg_varF 5 7 34 (.tmp 18) z16 rfl rfl rfl rfl rfl rfl rfl (exec_alloc rfl (by kernel_rfl)) ?_
  simp only [List.take_succ_cons, List.take_zero]
  refine b_field (w.heap.size + 1) 0 32 rfl rfl rfl (fld2 _) ?_
  simp only [Act.put, List.setIfInBounds_toArray, List.set_cons_zero, List.set_cons_succ]
  refine b_ld (w.heap.size + 1) 32 nz1.len _ rfl rfl rfl (fun _ h => (h.blk hp).ptZ nx1.len ny1.len) ?_
  simp only [Act.put, List.setIfInBounds_toArray, List.set_cons_zero, List.set_cons_succ]
  refine b_field (w.heap.size + 1 + 1) 0 32 rfl rfl rfl (fld2 _) ?_
  simp only [Act.put, List.setIfInBounds_toArray, List.set_cons_zero, List.set_cons_succ]
  refine b_ld (w.heap.size + 1 + 1) 32 nz2.len _ rfl rfl rfl (fun _ h => (h.blk hq).ptZ nx2.len ny2.len) ?_
  simp only [Act.put, List.setIfInBounds_toArray, List.set_cons_zero, List.set_cons_succ]
  refine b_num rfl own_mul (fun w1 => mul_f (nz1.mono (by omega)) (nz2.mono (by omega)) w1) rfl rfl ?_
  intro r1 v1
  simp only [Act.put, List.setIfInBounds_toArray, List.set_cons_zero, List.set_cons_succ]
  refine wpB_nil ⟨(Is r1).toArray, fun _ => rfl, fun _ => rfl, (len_is v1.len).symm, size_num _ (len_is v1.len), Is_one _, fun gz W1 hgz hw1 hbz => ?_⟩
  simp only [Exit.then, Act.put, List.setIfInBounds_toArray, List.set_cons_zero, List.set_cons_succ]
  refine hK _ _ ?_
  clear hK K
  have hc := hw1.blk hc
  have hp := hw1.blk hp
  have hq := hw1.blk hq
  have ho := hw1.blk ho
  have hbe := below_up hbe hw1
  clear hw1
  refine wp_seq_k fun K hK => ?_
  refine reg_varF 3 8 34 (.tmp 21) z16 rfl rfl rfl rfl rfl rfl rfl (exec_alloc rfl (by kernel_rfl)) ?_
  simp only [List.take_succ_cons, List.take_zero]
  refine b_ld gz 0 v1.len _ rfl rfl rfl (fun _ h => (h.blk hbz).range) ?_
  simp only [Act.put, List.setIfInBounds_toArray, List.set_cons_zero, List.set_cons_succ]
  refine b_ld gz 0 v1.len _ rfl rfl rfl (fun _ h => (h.blk hbz).range) ?_
  simp only [Act.put, List.setIfInBounds_toArray, List.set_cons_zero, List.set_cons_succ]
  refine b_num rfl own_mul (fun w1 => mul_f (v1.mono (by omega)) (v1.mono (by omega)) w1) rfl rfl ?_
  intro r2 v2
  simp only [Act.put, List.setIfInBounds_toArray, List.set_cons_zero, List.set_cons_succ]
  refine wpB_nil ⟨(Is r2).toArray, fun _ => rfl, fun _ => rfl, (len_is v2.len).symm, size_num _ (len_is v2.len), Is_one _, fun gzz W1 hgzz hw1 hbzz => ?_⟩
  simp only [Exit.then, Act.put, List.setIfInBounds_toArray, List.set_cons_zero, List.set_cons_succ]
  refine hK _ _ ?_
  clear hK K
  have hc := hw1.blk hc
  have hp := hw1.blk hp
  have hq := hw1.blk hq
  have hbz := hw1.blk hbz
  have ho := hw1.blk ho
  have hbe := below_up hbe hw1
  clear hw1
  refine wp_seq_k fun K hK => ?_
  refine reg_var 14 9 34 (.tmp 35) z16 rfl rfl rfl rfl rfl rfl rfl (by kernel_rfl) (by kernel_rfl) (by kernel_rfl) (fun _ _ d _ _ h => by cases d <;> exact h) (exec_alloc rfl (by kernel_rfl)) ?_
  simp only [List.take_succ_cons, List.take_zero]
  refine b_field w.heap.size 0 0 rfl rfl rfl (fldc _) ?_
  simp only [Act.put, List.setIfInBounds_toArray, List.set_cons_zero, List.set_cons_succ]
  refine b_ld w.heap.size 0 hD.len _ rfl rfl rfl (fun _ h => (h.blk hc).range) ?_
  simp only [Act.put, List.setIfInBounds_toArray, List.set_cons_zero, List.set_cons_succ]
  refine b_field (w.heap.size + 1) 0 0 rfl rfl rfl (fld0 _) ?_
  simp only [Act.put, List.setIfInBounds_toArray, List.set_cons_zero, List.set_cons_succ]
  refine b_ld (w.heap.size + 1) 0 nx1.len _ rfl rfl rfl (fun _ h => (h.blk hp).ptX) ?_
  simp only [Act.put, List.setIfInBounds_toArray, List.set_cons_zero, List.set_cons_succ]
  refine b_field (w.heap.size + 1 + 1) 0 0 rfl rfl rfl (fld0 _) ?_
  simp only [Act.put, List.setIfInBounds_toArray, List.set_cons_zero, List.set_cons_succ]
  refine b_ld (w.heap.size + 1 + 1) 0 nx2.len _ rfl rfl rfl (fun _ h => (h.blk hq).ptX) ?_
  simp only [Act.put, List.setIfInBounds_toArray, List.set_cons_zero, List.set_cons_succ]
  refine b_num rfl own_mul (fun w1 => mul_f (nx1.mono (by omega)) (nx2.mono (by omega)) w1) rfl rfl ?_
  intro r3 v3
  simp only [Act.put, List.setIfInBounds_toArray, List.set_cons_zero, List.set_cons_succ]
  refine b_field (w.heap.size + 1) 0 16 rfl rfl rfl (fld1 _) ?_
  simp only [Act.put, List.setIfInBounds_toArray, List.set_cons_zero, List.set_cons_succ]
  refine b_ld (w.heap.size + 1) 16 ny1.len _ rfl rfl rfl (fun _ h => (h.blk hp).ptY nx1.len) ?_
  simp only [Act.put, List.setIfInBounds_toArray, List.set_cons_zero, List.set_cons_succ]
  refine b_field (w.heap.size + 1 + 1) 0 16 rfl rfl rfl (fld1 _) ?_
  simp only [Act.put, List.setIfInBounds_toArray, List.set_cons_zero, List.set_cons_succ]
  refine b_ld (w.heap.size + 1 + 1) 16 ny2.len _ rfl rfl rfl (fun _ h => (h.blk hq).ptY nx2.len) ?_
  simp only [Act.put, List.setIfInBounds_toArray, List.set_cons_zero, List.set_cons_succ]
  refine b_num rfl own_mul (fun w1 => mul_f (ny1.mono (by omega)) (ny2.mono (by omega)) w1) rfl rfl ?_
  intro r4 v4
  simp only [Act.put, List.setIfInBounds_toArray, List.set_cons_zero, List.set_cons_succ]
  refine b_num rfl own_mul (fun w1 => mul_f (v3.mono (by omega)) (v4.mono (by omega)) w1) rfl rfl ?_
  intro r5 v5
  simp only [Act.put, List.setIfInBounds_toArray, List.set_cons_zero, List.set_cons_succ]
  refine b_num rfl own_mul (fun w1 => mul_f (hD.mono (by omega)) (v5.mono (by omega)) w1) rfl rfl ?_
  intro r6 v6
  simp only [Act.put, List.setIfInBounds_toArray, List.set_cons_zero, List.set_cons_succ]
  refine wpB_nil ⟨(Is r6).toArray, fun _ => rfl, fun _ => rfl, (len_is v6.len).symm, size_num _ (len_is v6.len), Is_one _, fun gm W1 hgm hw1 hbm => ?_⟩
  simp only [Exit.then, Act.put, List.setIfInBounds_toArray, List.set_cons_zero, List.set_cons_succ]
  refine hK _ _ ?_
  clear hK K
  have hc := hw1.blk hc
  have hp := hw1.blk hp
  have hq := hw1.blk hq
  have hbz := hw1.blk hbz
  have hbzz := hw1.blk hbzz
  have ho := hw1.blk ho
  have hbe := below_up hbe hw1
  clear hw1
  refine wp_seq_k fun K hK => ?_
  refine reg_var 11 10 34 (.tmp 46) z16 rfl rfl rfl rfl rfl rfl rfl (by kernel_rfl) (by kernel_rfl) (by kernel_rfl) (fun _ _ d _ _ h => by cases d <;> exact h) (exec_alloc rfl (by kernel_rfl)) ?_
  simp only [List.take_succ_cons, List.take_zero]
  refine b_field (w.heap.size + 1) 0 0 rfl rfl rfl (fld0 _) ?_
  simp only [Act.put, List.setIfInBounds_toArray, List.set_cons_zero, List.set_cons_succ]
  refine b_ld (w.heap.size + 1) 0 nx1.len _ rfl rfl rfl (fun _ h => (h.blk hp).ptX) ?_
  simp only [Act.put, List.setIfInBounds_toArray, List.set_cons_zero, List.set_cons_succ]
  refine b_field (w.heap.size + 1 + 1) 0 16 rfl rfl rfl (fld1 _) ?_
  simp only [Act.put, List.setIfInBounds_toArray, List.set_cons_zero, List.set_cons_succ]
  refine b_ld (w.heap.size + 1 + 1) 16 ny2.len _ rfl rfl rfl (fun _ h => (h.blk hq).ptY nx2.len) ?_
  simp only [Act.put, List.setIfInBounds_toArray, List.set_cons_zero, List.set_cons_succ]
  refine b_num rfl own_mul (fun w1 => mul_f (nx1.mono (by omega)) (ny2.mono (by omega)) w1) rfl rfl ?_
  intro r7 v7
  simp only [Act.put, List.setIfInBounds_toArray, List.set_cons_zero, List.set_cons_succ]
  refine b_field (w.heap.size + 1) 0 16 rfl rfl rfl (fld1 _) ?_
  simp only [Act.put, List.setIfInBounds_toArray, List.set_cons_zero, List.set_cons_succ]
  refine b_ld (w.heap.size + 1) 16 ny1.len _ rfl rfl rfl (fun _ h => (h.blk hp).ptY nx1.len) ?_
  simp only [Act.put, List.setIfInBounds_toArray, List.set_cons_zero, List.set_cons_succ]
  refine b_field (w.heap.size + 1 + 1) 0 0 rfl rfl rfl (fld0 _) ?_
  simp only [Act.put, List.setIfInBounds_toArray, List.set_cons_zero, List.set_cons_succ]
  refine b_ld (w.heap.size + 1 + 1) 0 nx2.len _ rfl rfl rfl (fun _ h => (h.blk hq).ptX) ?_
  simp only [Act.put, List.setIfInBounds_toArray, List.set_cons_zero, List.set_cons_succ]
  refine b_num rfl own_mul (fun w1 => mul_f (ny1.mono (by omega)) (nx2.mono (by omega)) w1) rfl rfl ?_
  intro r8 v8
  simp only [Act.put, List.setIfInBounds_toArray, List.set_cons_zero, List.set_cons_succ]
  refine b_num rfl own_add (fun w1 => add_f v7 v8 (by omega) (by omega) w1) rfl rfl ?_
  intro r9 v9
  simp only [Act.put, List.setIfInBounds_toArray, List.set_cons_zero, List.set_cons_succ]
  refine wpB_nil ⟨(Is r9).toArray, fun _ => rfl, fun _ => rfl, (len_is v9.len).symm, size_num _ (len_is v9.len), Is_one _, fun gnx W1 hgnx hw1 hbnx => ?_⟩
  simp only [Exit.then, Act.put, List.setIfInBounds_toArray, List.set_cons_zero, List.set_cons_succ]
  refine hK _ _ ?_
  clear hK K
  have hc := hw1.blk hc
  have hp := hw1.blk hp
  have hq := hw1.blk hq
  have hbz := hw1.blk hbz
  have hbzz := hw1.blk hbzz
  have hbm := hw1.blk hbm
  have ho := hw1.blk ho
  have hbe := below_up hbe hw1
  clear hw1
  refine wp_seq_k fun K hK => ?_
  refine reg_var 11 11 34 (.tmp 57) z16 rfl rfl rfl rfl rfl rfl rfl (by kernel_rfl) (by kernel_rfl) (by kernel_rfl) (fun _ _ d _ _ h => by cases d <;> exact h) (exec_alloc rfl (by kernel_rfl)) ?_
  simp only [List.take_succ_cons, List.take_zero]
  refine b_field (w.heap.size + 1) 0 16 rfl rfl rfl (fld1 _) ?_
  simp only [Act.put, List.setIfInBounds_toArray, List.set_cons_zero, List.set_cons_succ]
  refine b_ld (w.heap.size + 1) 16 ny1.len _ rfl rfl rfl (fun _ h => (h.blk hp).ptY nx1.len) ?_
  simp only [Act.put, List.setIfInBounds_toArray, List.set_cons_zero, List.set_cons_succ]
  refine b_field (w.heap.size + 1 + 1) 0 16 rfl rfl rfl (fld1 _) ?_
  simp only [Act.put, List.setIfInBounds_toArray, List.set_cons_zero, List.set_cons_succ]
  refine b_ld (w.heap.size + 1 + 1) 16 ny2.len _ rfl rfl rfl (fun _ h => (h.blk hq).ptY nx2.len) ?_
  simp only [Act.put, List.setIfInBounds_toArray, List.set_cons_zero, List.set_cons_succ]
  refine b_num rfl own_mul (fun w1 => mul_f (ny1.mono (by omega)) (ny2.mono (by omega)) w1) rfl rfl ?_
  intro r10 v10
  simp only [Act.put, List.setIfInBounds_toArray, List.set_cons_zero, List.set_cons_succ]
  refine b_field (w.heap.size + 1) 0 0 rfl rfl rfl (fld0 _) ?_
  simp only [Act.put, List.setIfInBounds_toArray, List.set_cons_zero, List.set_cons_succ]
  refine b_ld (w.heap.size + 1) 0 nx1.len _ rfl rfl rfl (fun _ h => (h.blk hp).ptX) ?_
  simp only [Act.put, List.setIfInBounds_toArray, List.set_cons_zero, List.set_cons_succ]
  refine b_field (w.heap.size + 1 + 1) 0 0 rfl rfl rfl (fld0 _) ?_
  simp only [Act.put, List.setIfInBounds_toArray, List.set_cons_zero, List.set_cons_succ]
  refine b_ld (w.heap.size + 1 + 1) 0 nx2.len _ rfl rfl rfl (fun _ h => (h.blk hq).ptX) ?_
  simp only [Act.put, List.setIfInBounds_toArray, List.set_cons_zero, List.set_cons_succ]
  refine b_num rfl own_mul (fun w1 => mul_f (nx1.mono (by omega)) (nx2.mono (by omega)) w1) rfl rfl ?_
  intro r11 v11
  simp only [Act.put, List.setIfInBounds_toArray, List.set_cons_zero, List.set_cons_succ]
  refine b_num rfl own_add (fun w1 => add_f v10 v11 (by omega) (by omega) w1) rfl rfl ?_
  intro r12 v12
  simp only [Act.put, List.setIfInBounds_toArray, List.set_cons_zero, List.set_cons_succ]
  refine wpB_nil ⟨(Is r12).toArray, fun _ => rfl, fun _ => rfl, (len_is v12.len).symm, size_num _ (len_is v12.len), Is_one _, fun gny W1 hgny hw1 hbny => ?_⟩
  simp only [Exit.then, Act.put, List.setIfInBounds_toArray, List.set_cons_zero, List.set_cons_succ]
  refine hK _ _ ?_
  clear hK K
  have hc := hw1.blk hc
  have hp := hw1.blk hp
  have hq := hw1.blk hq
  have hbz := hw1.blk hbz
  have hbzz := hw1.blk hbzz
  have hbm := hw1.blk hbm
  have hbnx := hw1.blk hbnx
  have ho := hw1.blk ho
  have hbe := below_up hbe hw1
  clear hw1
  refine wp_seq_k fun K hK => ?_
  refine reg_var2 6 12 13 34 34 (.tmp 60) (.tmp 63) z16 z16 rfl rfl rfl rfl rfl rfl rfl rfl rfl rfl rfl rfl rfl (by decide) (by kernel_rfl) (by kernel_rfl) (by kernel_rfl) (by kernel_rfl) (by kernel_rfl) (fun _ _ d _ _ h => by cases d <;> exact h) (exec_alloc rfl (by kernel_rfl)) (exec_alloc rfl (by kernel_rfl)) ?_
  simp only [List.take_succ_cons, List.take_zero]
  refine b_ld gzz 0 v2.len _ rfl rfl rfl (fun _ h => (h.blk hbzz).range) ?_
  simp only [Act.put, List.setIfInBounds_toArray, List.set_cons_zero, List.set_cons_succ]
  refine b_ld gm 0 v6.len _ rfl rfl rfl (fun _ h => (h.blk hbm).range) ?_
  simp only [Act.put, List.setIfInBounds_toArray, List.set_cons_zero, List.set_cons_succ]
  refine b_num rfl own_add (fun w1 => add_f v2 v6 (by omega) (by omega) w1) rfl rfl ?_
  intro r13 v13
  simp only [Act.put, List.setIfInBounds_toArray, List.set_cons_zero, List.set_cons_succ]
  refine b_ld gzz 0 v2.len _ rfl rfl rfl (fun _ h => (h.blk hbzz).range) ?_
  simp only [Act.put, List.setIfInBounds_toArray, List.set_cons_zero, List.set_cons_succ]
  refine b_ld gm 0 v6.len _ rfl rfl rfl (fun _ h => (h.blk hbm).range) ?_
  simp only [Act.put, List.setIfInBounds_toArray, List.set_cons_zero, List.set_cons_succ]
  refine b_num rfl own_sub (fun w1 => sub_f v2 v6 (by omega) (by omega) w1) rfl rfl ?_
  intro r14 v14
  simp only [Act.put, List.setIfInBounds_toArray, List.set_cons_zero, List.set_cons_succ]
  refine wpB_nil ⟨(Is r13).toArray, (Is r14).toArray, fun _ _ => rfl, fun _ _ => rfl, fun _ _ => rfl, fun _ _ => rfl, (len_is v13.len).symm, (len_is v14.len).symm, size_num _ (len_is v13.len), size_num _ (len_is v14.len), Is_one _, Is_one _, fun gplus gminus W1 hgplus hgminus hw1 hbplus hbminus => ?_⟩
  simp only [Exit.then, Act.put, List.setIfInBounds_toArray, List.set_cons_zero, List.set_cons_succ]
  refine hK _ _ ?_
  clear hK K
  have hc := hw1.blk hc
  have hp := hw1.blk hp
  have hq := hw1.blk hq
  have hbz := hw1.blk hbz
  have hbzz := hw1.blk hbzz
  have hbm := hw1.blk hbm
  have hbnx := hw1.blk hbnx
  have hbny := hw1.blk hbny
  have ho := hw1.blk ho
  have hbe := below_up hbe hw1
  clear hw1
  refine wp_seq_k fun K hK => ?_
  refine reg_set 14 (.tmp 6) 39 (.tmp 77) rfl rfl rfl rfl (by kernel_rfl) (by kernel_rfl) (fun _ _ d _ _ h => by cases d <;> exact h) ?_
  simp only [List.take_succ_cons, List.take_zero]
  refine b_ld gnx 0 v9.len _ rfl rfl rfl (fun _ h => (h.blk hbnx).range) ?_
  simp only [Act.put, List.setIfInBounds_toArray, List.set_cons_zero, List.set_cons_succ]
  refine b_ld gz 0 v1.len _ rfl rfl rfl (fun _ h => (h.blk hbz).range) ?_
  simp only [Act.put, List.setIfInBounds_toArray, List.set_cons_zero, List.set_cons_succ]
  refine b_num rfl own_mul (fun w1 => mul_f (v9.mono (by omega)) (v1.mono (by omega)) w1) rfl rfl ?_
  intro r15 v15
  simp only [Act.put, List.setIfInBounds_toArray, List.set_cons_zero, List.set_cons_succ]
  refine b_ld gminus 0 v14.len _ rfl rfl rfl (fun _ h => (h.blk hbminus).range) ?_
  simp only [Act.put, List.setIfInBounds_toArray, List.set_cons_zero, List.set_cons_succ]
  refine b_num rfl own_mul (fun w1 => mul_f (v15.mono (by omega)) (v14.mono (by omega)) w1) rfl rfl ?_
  intro r16 v16
  simp only [Act.put, List.setIfInBounds_toArray, List.set_cons_zero, List.set_cons_succ]
  refine b_ld gny 0 v12.len _ rfl rfl rfl (fun _ h => (h.blk hbny).range) ?_
  simp only [Act.put, List.setIfInBounds_toArray, List.set_cons_zero, List.set_cons_succ]
  refine b_ld gz 0 v1.len _ rfl rfl rfl (fun _ h => (h.blk hbz).range) ?_
  simp only [Act.put, List.setIfInBounds_toArray, List.set_cons_zero, List.set_cons_succ]
  refine b_num rfl own_mul (fun w1 => mul_f (v12.mono (by omega)) (v1.mono (by omega)) w1) rfl rfl ?_
  intro r17 v17
  simp only [Act.put, List.setIfInBounds_toArray, List.set_cons_zero, List.set_cons_succ]
  refine b_ld gplus 0 v13.len _ rfl rfl rfl (fun _ h => (h.blk hbplus).range) ?_
  simp only [Act.put, List.setIfInBounds_toArray, List.set_cons_zero, List.set_cons_succ]
  refine b_num rfl own_mul (fun w1 => mul_f (v17.mono (by omega)) (v13.mono (by omega)) w1) rfl rfl ?_
  intro r18 v18
  simp only [Act.put, List.setIfInBounds_toArray, List.set_cons_zero, List.set_cons_succ]
  refine b_ld gplus 0 v13.len _ rfl rfl rfl (fun _ h => (h.blk hbplus).range) ?_
  simp only [Act.put, List.setIfInBounds_toArray, List.set_cons_zero, List.set_cons_succ]
  refine b_ld gminus 0 v14.len _ rfl rfl rfl (fun _ h => (h.blk hbminus).range) ?_
  simp only [Act.put, List.setIfInBounds_toArray, List.set_cons_zero, List.set_cons_succ]
  refine b_num rfl own_mul (fun w1 => mul_f (v13.mono (by omega)) (v14.mono (by omega)) w1) rfl rfl ?_
  intro r19 v19
  simp only [Act.put, List.setIfInBounds_toArray, List.set_cons_zero, List.set_cons_succ]
  refine b_build [(0, .agg (Is r16).toArray), (1, .agg (Is r18).toArray), (2, .agg (Is r19).toArray)] _ rfl rfl rfl (built3 v16.len v18.len v19.len) ?_
  simp only [Act.put, List.setIfInBounds_toArray, List.set_cons_zero, List.set_cons_succ]
  refine wpB_nil ⟨w.heap.size + 1 + 1 + 1, _, _, rfl, rfl, ho, (pt_len rfl rfl rfl rfl).trans (pt_len v16.len v18.len v19.len rfl).symm, size_pt _ (pt_len v16.len v18.len v19.len rfl), pt_one _ _ _ _, fun W1 hw1 => ?_⟩
  simp only [Exit.then]
  refine hK _ _ ?_
  clear hK K
  have ho := hw1.blk ho
  have hbe := below_up hbe hw1
  refine wp_ret ?_
  refine bodyPost_ret (results_cell_row rfl _ _ (w.heap.size + 1 + 1 + 1) 39 (pt r16 r18 r19 n16).toArray (0, 0) _ rfl (ho.row _) Tryd.underlying39 rfl (size_pt _ (pt_len v16.len v18.len v19.len rfl))) rfl ⟨r16, r18, r19, n16, ⟨⟨_, _, _, v16, v18, v19, HR.out⟩, HO.out, rfl⟩, rfl, ?_⟩
  exact below_setRow hbe (by omega) _
  -- end add
end Go.Proofs.YtgmiaaapaiccdaaDoor
/-
  THE DOCUMENT'S OWN POINTS: Dee, New, Zero, on, Neg.
-/
namespace Go.Proofs.YtgmiaaapaiccdaaDoor
open Go.RowKit Go.IntWalk Nums

set_option maxRecDepth 100000 in
set_option maxHeartbeats 2000000 in
theorem dee_f (w : World) : Calls Tryd.prog 41 #[] w fun e w' => ∃ r, NB 65573 r dd ∧ e = .returned (.agg (Is r).toArray) ∧ Below w.heap.size w w' := by
  go_enter Tryd.func41, Tryd.ntmps41
  refine wp_seq_k fun K hK => ?_
  refine wp_region_lit ?_
  refine wpl_alloc (zs := z16) rfl rfl (by kernel_rfl) ?_
  refine wpl_nil ?_
  simp only [Exit.then, Act.put, List.setIfInBounds_toArray, List.set_cons_zero]
  refine hK _ _ ?_
  clear hK K
  refine wp_at (fun W => Blk W w.heap.size 34 z16 ∧ Below w.heap.size w W) ⟨Blk.new w _ _, (Below.refl _ _).alloc (Nat.le_refl _) _⟩ ?_
  rintro W ⟨ho, hbe⟩
  -- walk dee
  refine wp_seq_k fun K hK => ?_
  refine reg_setF 6 (.tmp 0) 34 (.tmp 6) rfl rfl rfl rfl ?_
  simp only [List.take_succ_cons, List.take_zero]
  refine b_num rfl own_of (fun w1 => of_f 0 (by omega) w1) rfl rfl ?_
  intro r1 v1
  simp only [Act.put, List.setIfInBounds_toArray, List.set_cons_zero, List.set_cons_succ]
  refine b_num rfl own_of (fun w1 => of_f 121665 (by omega) w1) rfl rfl ?_
  intro r2 v2
  simp only [Act.put, List.setIfInBounds_toArray, List.set_cons_zero, List.set_cons_succ]
  refine b_num rfl own_sub (fun w1 => sub_f v1 v2 (by omega) (by omega) w1) rfl rfl ?_
  intro r3 v3
  simp only [Act.put, List.setIfInBounds_toArray, List.set_cons_zero, List.set_cons_succ]
  refine b_num rfl own_of (fun w1 => of_f 121666 (by omega) w1) rfl rfl ?_
  intro r4 v4
  simp only [Act.put, List.setIfInBounds_toArray, List.set_cons_zero, List.set_cons_succ]
  refine b_num rfl own_inv (fun w1 => inv_f (v4.mono (by omega)) w1) rfl rfl ?_
  intro r5 v5
  simp only [Act.put, List.setIfInBounds_toArray, List.set_cons_zero, List.set_cons_succ]
  refine b_num rfl own_mul (fun w1 => mul_f (v3.mono (by omega)) (v5.mono (by omega)) w1) rfl rfl ?_
  intro r6 v6
  simp only [Act.put, List.setIfInBounds_toArray, List.set_cons_zero, List.set_cons_succ]
  rw [fof_zero, ← dd_def] at v6
  refine wpB_nil ⟨w.heap.size, _, _, rfl, rfl, ho, (len_is v6.len).symm, size_num _ (len_is v6.len), Is_one _, fun W1 hw1 => ?_⟩
  simp only [Exit.then]
  refine hK _ _ ?_
  clear hK K
  have ho := hw1.blk ho
  have hbe := below_up hbe hw1
  refine wp_ret ?_
  refine bodyPost_ret (results_cell_row rfl _ _ (w.heap.size) 34 (Is r6).toArray (0, 0) _ rfl (ho.row _) Tryd.underlying34 rfl (size_num _ (len_is v6.len))) rfl ⟨r6, v6, rfl, ?_⟩
  exact below_setRow hbe (by omega) _
  -- end dee

set_option maxRecDepth 100000 in
set_option maxHeartbeats 2000000 in
theorem rnew_f (w : World) : Calls Tryd.prog 12 #[] w fun e w' => ∃ r, NB 65573 r dd ∧ e = .returned (.agg (Is r).toArray) ∧ Below w.heap.size w w' := by
  go_enter Tryd.func12, Tryd.ntmps12
  refine wp_seq_k fun K hK => ?_
  refine wp_region_lit ?_
  refine wpl_alloc (zs := z16) rfl rfl (by kernel_rfl) ?_
  refine wpl_nil ?_
  simp only [Exit.then, Act.put, List.setIfInBounds_toArray, List.set_cons_zero]
  refine hK _ _ ?_
  clear hK K
  refine wp_at (fun W => Blk W w.heap.size 36 z16 ∧ Below w.heap.size w W) ⟨Blk.new w _ _, (Below.refl _ _).alloc (Nat.le_refl _) _⟩ ?_
  rintro W ⟨ho, hbe⟩
  -- walk new
  refine wp_seq_k fun K hK => ?_
  refine reg_setF 2 (.tmp 0) 36 (.tmp 2) rfl rfl rfl rfl ?_
  simp only [List.take_succ_cons, List.take_zero]
  refine b_num rfl own_dee (fun w1 => dee_f w1) rfl rfl ?_
  intro r1 v1
  simp only [Act.put, List.setIfInBounds_toArray, List.set_cons_zero, List.set_cons_succ]
  refine b_build [(0, .agg (Is r1).toArray)] _ rfl rfl rfl (put_D r1 v1.len) ?_
  simp only [Act.put, List.setIfInBounds_toArray, List.set_cons_zero, List.set_cons_succ]
  refine wpB_nil ⟨w.heap.size, _, _, rfl, rfl, ho, (len_is v1.len).symm, size_curve _ (len_is v1.len), Is_one _, fun W1 hw1 => ?_⟩
  simp only [Exit.then]
  refine hK _ _ ?_
  clear hK K
  have ho := hw1.blk ho
  have hbe := below_up hbe hw1
  refine wp_ret ?_
  refine bodyPost_ret (results_cell_row rfl _ _ (w.heap.size) 36 (Is r1).toArray (0, 0) _ rfl (ho.row _) Tryd.underlying36 rfl (size_curve _ (len_is v1.len))) rfl ⟨r1, v1, rfl, ?_⟩
  exact below_setRow hbe (by omega) _
  -- end new

set_option maxRecDepth 100000 in
set_option maxHeartbeats 2000000 in
theorem zero_f (w : World) : Calls Tryd.prog 17 #[] w fun e w' => ∃ X Y Z T, PR X Y Z T Ed.zero ∧ e = .returned (.agg (pt X Y Z T).toArray) ∧ Below w.heap.size w w' := by
  go_enter Tryd.func17, Tryd.ntmps17
  refine wp_seq_k fun K hK => ?_
  refine wp_region_lit ?_
  refine wpl_alloc (zs := (pt n16 n16 n16 n16).toArray) rfl rfl (by kernel_rfl) ?_
  refine wpl_nil ?_
  simp only [Exit.then, Act.put, List.setIfInBounds_toArray, List.set_cons_zero]
  refine hK _ _ ?_
  clear hK K
  refine wp_at (fun W => Blk W w.heap.size 39 (pt n16 n16 n16 n16).toArray ∧ Below w.heap.size w W) ⟨Blk.new w _ _, (Below.refl _ _).alloc (Nat.le_refl _) _⟩ ?_
  rintro W ⟨ho, hbe⟩
  -- walk zero
  refine wp_seq_k fun K hK => ?_
  refine reg_setF 3 (.tmp 0) 39 (.tmp 3) rfl rfl rfl rfl ?_
  simp only [List.take_succ_cons, List.take_zero]
  refine b_num rfl own_of (fun w1 => of_f 1 (by omega) w1) rfl rfl ?_
  intro r1 v1
  simp only [Act.put, List.setIfInBounds_toArray, List.set_cons_zero, List.set_cons_succ]
  refine b_num rfl own_of (fun w1 => of_f 1 (by omega) w1) rfl rfl ?_
  intro r2 v2
  simp only [Act.put, List.setIfInBounds_toArray, List.set_cons_zero, List.set_cons_succ]
  refine b_build [(1, .agg (Is r1).toArray), (2, .agg (Is r2).toArray)] _ rfl rfl rfl (built12 v1.len v2.len) ?_
  simp only [Act.put, List.setIfInBounds_toArray, List.set_cons_zero, List.set_cons_succ]
  refine wpB_nil ⟨w.heap.size, _, _, rfl, rfl, ho, (pt_len rfl rfl rfl rfl).trans (pt_len rfl v1.len v2.len rfl).symm, size_pt _ (pt_len rfl v1.len v2.len rfl), pt_one _ _ _ _, fun W1 hw1 => ?_⟩
  simp only [Exit.then]
  refine hK _ _ ?_
  clear hK K
  have ho := hw1.blk ho
  have hbe := below_up hbe hw1
  refine wp_ret ?_
  refine bodyPost_ret (results_cell_row rfl _ _ (w.heap.size) 39 (pt n16 r1 r2 n16).toArray (0, 0) _ rfl (ho.row _) Tryd.underlying39 rfl (size_pt _ (pt_len rfl v1.len v2.len rfl))) rfl ⟨n16, r1, r2, n16, ⟨⟨0, fof 1, fof 1, nb_n16, v1.mono (by omega), v2.mono (by omega), rep_zero⟩, Ed.on_zero, rfl⟩, rfl, ?_⟩
  exact below_setRow hbe (by omega) _
  -- end zero

/-- A point of its two coordinates. -/
theorem rep_on {x y : F} : Ed.Rep x y (fof 1) ⟨x, y⟩ := by
  rw [fof_one]
  exact ⟨ne_one prime_p |>.symm, (by show x = x * 1; grind only), (by show y = y * 1; grind only)⟩

set_option maxRecDepth 100000 in
set_option maxHeartbeats 2000000 in
theorem on_f {X Y : List Int} {x y : F} (hX : NB 65573 X x) (hY : NB 65573 Y y) (hon : Ed.On dd ⟨x, y⟩) (w : World) :
    Calls Tryd.prog 49 #[.agg (Is X).toArray, .agg (Is Y).toArray] w fun e w' => ∃ X Y Z T, PR X Y Z T ⟨x, y⟩ ∧ e = .returned (.agg (pt X Y Z T).toArray) ∧ Below w.heap.size w w' := by
  have HO := Lib.hid hon
  clear hon
  go_enter Tryd.func49, Tryd.ntmps49
  refine wp_seq_k fun K hK => ?_
  refine wp_region_lit ?_
  refine wpl_box (Is X).toArray rfl rfl rfl ?_
  refine wpl_box (Is Y).toArray rfl rfl rfl ?_
  refine wpl_alloc (zs := (pt n16 n16 n16 n16).toArray) rfl rfl (by kernel_rfl) ?_
  refine wpl_nil ?_
  go_simp
  refine hK _ _ ?_
  clear hK K
  refine wp_at (fun W => Blk W w.heap.size 34 (Is X).toArray ∧ Blk W (w.heap.size + 1) 34 (Is Y).toArray ∧ Blk W (w.heap.size + 1 + 1) 39 (pt n16 n16 n16 n16).toArray ∧ Below w.heap.size w W)
    ⟨blk3_0 w _ _ _ _, blk3_1 w _ _ _ _, blk3_2 w _ _ _ _, (((Below.refl _ _).alloc (Nat.le_refl _) _).alloc (by simp) _).alloc (by simp; omega) _⟩ ?_
  rintro W ⟨hp, hq, ho, hbe⟩
  -- walk on
  refine wp_seq_k fun K hK => ?_
  refine reg_set 7 (.tmp 4) 39 (.tmp 11) rfl rfl rfl rfl (by kernel_rfl) (by kernel_rfl) (fun _ _ d _ _ h => by cases d <;> exact h) ?_
  simp only [List.take_succ_cons, List.take_zero]
  refine b_ld w.heap.size 0 hX.len _ rfl rfl rfl (fun _ h => (h.blk hp).range) ?_
  simp only [Act.put, List.setIfInBounds_toArray, List.set_cons_zero, List.set_cons_succ]
  refine b_ld (w.heap.size + 1) 0 hY.len _ rfl rfl rfl (fun _ h => (h.blk hq).range) ?_
  simp only [Act.put, List.setIfInBounds_toArray, List.set_cons_zero, List.set_cons_succ]
  refine b_num rfl own_of (fun w1 => of_f 1 (by omega) w1) rfl rfl ?_
  intro r1 v1
  simp only [Act.put, List.setIfInBounds_toArray, List.set_cons_zero, List.set_cons_succ]
  refine b_ld w.heap.size 0 hX.len _ rfl rfl rfl (fun _ h => (h.blk hp).range) ?_
  simp only [Act.put, List.setIfInBounds_toArray, List.set_cons_zero, List.set_cons_succ]
  refine b_ld (w.heap.size + 1) 0 hY.len _ rfl rfl rfl (fun _ h => (h.blk hq).range) ?_
  simp only [Act.put, List.setIfInBounds_toArray, List.set_cons_zero, List.set_cons_succ]
  refine b_num rfl own_mul (fun w1 => mul_f (hX.mono (by omega)) (hY.mono (by omega)) w1) rfl rfl ?_
  intro r2 v2
  simp only [Act.put, List.setIfInBounds_toArray, List.set_cons_zero, List.set_cons_succ]
  refine b_build [(0, .agg (Is X).toArray), (1, .agg (Is Y).toArray), (2, .agg (Is r1).toArray), (3, .agg (Is r2).toArray)] _ rfl rfl rfl (built4 hX.len hY.len v1.len v2.len) ?_
  simp only [Act.put, List.setIfInBounds_toArray, List.set_cons_zero, List.set_cons_succ]
  refine wpB_nil ⟨w.heap.size + 1 + 1, _, _, rfl, rfl, ho, (pt_len rfl rfl rfl rfl).trans (pt_len hX.len hY.len v1.len v2.len).symm, size_pt _ (pt_len hX.len hY.len v1.len v2.len), pt_one _ _ _ _, fun W1 hw1 => ?_⟩
  simp only [Exit.then]
  refine hK _ _ ?_
  clear hK K
  have ho := hw1.blk ho
  have hbe := below_up hbe hw1
  refine wp_ret ?_
  refine bodyPost_ret (results_cell_row rfl _ _ (w.heap.size + 1 + 1) 39 (pt X Y r1 r2).toArray (0, 0) _ rfl (ho.row _) Tryd.underlying39 rfl (size_pt _ (pt_len hX.len hY.len v1.len v2.len))) rfl ⟨X, Y, r1, r2, ⟨⟨x, y, fof 1, hX, hY, v1.mono (by omega), rep_on⟩, HO.out, v2.len⟩, rfl, ?_⟩
  exact below_setRow hbe (by omega) _
  -- end on

theorem neg_num (x : F) : (fof 0 - x) * fof 1 = -x := by
  rw [fof_zero, fof_one]
  grind only

set_option maxRecDepth 100000 in
set_option maxHeartbeats 2000000 in
theorem pneg_f {X1 Y1 Z1 T1 : List Int} {A : Ed.Pt p} (h1 : PR X1 Y1 Z1 T1 A) (w : World) :
    Calls Tryd.prog 27 #[.agg (pt X1 Y1 Z1 T1).toArray] w fun e w' => ∃ X Y Z T, PR X Y Z T (Ed.neg A) ∧ e = .returned (.agg (pt X Y Z T).toArray) ∧ Below w.heap.size w w' := by
  obtain ⟨⟨x1, y1, z1, nx1, ny1, nz1, r1⟩, o1, t1⟩ := h1
  have HR := Lib.hid r1.neg
  have HO := Lib.hid (Ed.on_neg o1)
  rw [← neg_num] at HR
  clear r1
  go_enter Tryd.func27, Tryd.ntmps27
  refine wp_seq_k fun K hK => ?_
  refine wp_region_lit ?_
  refine wpl_box (pt X1 Y1 Z1 T1).toArray rfl rfl rfl ?_
  refine wpl_alloc (zs := (pt n16 n16 n16 n16).toArray) rfl rfl (by kernel_rfl) ?_
  refine wpl_nil ?_
  go_simp
  refine hK _ _ ?_
  clear hK K
  refine wp_at (fun W => Blk W w.heap.size 39 (pt X1 Y1 Z1 T1).toArray ∧ Blk W (w.heap.size + 1) 39 (pt n16 n16 n16 n16).toArray ∧ Below w.heap.size w W)
    ⟨heap_alloc2_old w _ _, heap_alloc2_new w _ _, ((Below.refl _ _).alloc (Nat.le_refl _) _).alloc (by simp) _⟩ ?_
  rintro W ⟨hp, ho, hbe⟩
  -- walk neg
  refine wp_seq_k fun K hK => ?_
  refine reg_set 11 (.tmp 2) 39 (.tmp 13) rfl rfl rfl rfl (by kernel_rfl) (by kernel_rfl) (fun _ _ d _ _ h => by cases d <;> exact h) ?_
  simp only [List.take_succ_cons, List.take_zero]
  refine b_num rfl own_of (fun w1 => of_f 0 (by omega) w1) rfl rfl ?_
  intro r1 v1
  simp only [Act.put, List.setIfInBounds_toArray, List.set_cons_zero, List.set_cons_succ]
  refine b_field w.heap.size 0 0 rfl rfl rfl (fld0 _) ?_
  simp only [Act.put, List.setIfInBounds_toArray, List.set_cons_zero, List.set_cons_succ]
  refine b_ld w.heap.size 0 nx1.len _ rfl rfl rfl (fun _ h => (h.blk hp).ptX) ?_
  simp only [Act.put, List.setIfInBounds_toArray, List.set_cons_zero, List.set_cons_succ]
  refine b_num rfl own_sub (fun w1 => sub_f v1 nx1 (by omega) (by omega) w1) rfl rfl ?_
  intro r2 v2
  simp only [Act.put, List.setIfInBounds_toArray, List.set_cons_zero, List.set_cons_succ]
  refine b_num rfl own_of (fun w1 => of_f 1 (by omega) w1) rfl rfl ?_
  intro r3 v3
  simp only [Act.put, List.setIfInBounds_toArray, List.set_cons_zero, List.set_cons_succ]
  refine b_num rfl own_mul (fun w1 => mul_f (v2.mono (by omega)) (v3.mono (by omega)) w1) rfl rfl ?_
  intro r4 v4
  simp only [Act.put, List.setIfInBounds_toArray, List.set_cons_zero, List.set_cons_succ]
  refine b_field w.heap.size 0 16 rfl rfl rfl (fld1 _) ?_
  simp only [Act.put, List.setIfInBounds_toArray, List.set_cons_zero, List.set_cons_succ]
  refine b_ld w.heap.size 16 ny1.len _ rfl rfl rfl (fun _ h => (h.blk hp).ptY nx1.len) ?_
  simp only [Act.put, List.setIfInBounds_toArray, List.set_cons_zero, List.set_cons_succ]
  refine b_field w.heap.size 0 32 rfl rfl rfl (fld2 _) ?_
  simp only [Act.put, List.setIfInBounds_toArray, List.set_cons_zero, List.set_cons_succ]
  refine b_ld w.heap.size 32 nz1.len _ rfl rfl rfl (fun _ h => (h.blk hp).ptZ nx1.len ny1.len) ?_
  simp only [Act.put, List.setIfInBounds_toArray, List.set_cons_zero, List.set_cons_succ]
  refine b_build [(0, .agg (Is r4).toArray), (1, .agg (Is Y1).toArray), (2, .agg (Is Z1).toArray)] _ rfl rfl rfl (built3 v4.len ny1.len nz1.len) ?_
  simp only [Act.put, List.setIfInBounds_toArray, List.set_cons_zero, List.set_cons_succ]
  refine wpB_nil ⟨w.heap.size + 1, _, _, rfl, rfl, ho, (pt_len rfl rfl rfl rfl).trans (pt_len v4.len ny1.len nz1.len rfl).symm, size_pt _ (pt_len v4.len ny1.len nz1.len rfl), pt_one _ _ _ _, fun W1 hw1 => ?_⟩
  simp only [Exit.then]
  refine hK _ _ ?_
  clear hK K
  have ho := hw1.blk ho
  have hbe := below_up hbe hw1
  refine wp_ret ?_
  refine bodyPost_ret (results_cell_row rfl _ _ (w.heap.size + 1) 39 (pt r4 Y1 Z1 n16).toArray (0, 0) _ rfl (ho.row _) Tryd.underlying39 rfl (size_pt _ (pt_len v4.len ny1.len nz1.len rfl))) rfl ⟨r4, Y1, Z1, n16, ⟨⟨_, _, _, v4, ny1, nz1, HR.out⟩, HO.out, rfl⟩, rfl, ?_⟩
  exact below_setRow hbe (by omega) _
  -- end neg
end Go.Proofs.YtgmiaaapaiccdaaDoor
/-
  THE DOCUMENT'S OWN POINTS: Bytes.
-/
namespace Go.Proofs.YtgmiaaapaiccdaaDoor
open Go.RowKit Go.IntWalk Nums

set_option maxRecDepth 100000 in
set_option maxHeartbeats 2000000 in
theorem pbytes_f {X1 Y1 Z1 T1 : List Int} {A : Ed.Pt p} (h1 : PR X1 Y1 Z1 T1 A) (w : World) :
    Calls Tryd.prog 22 #[.agg (pt X1 Y1 Z1 T1).toArray] w fun e w' => e = .returned (.agg (By (encP A)).toArray) ∧ Below w.heap.size w w' := by
  obtain ⟨⟨x1, y1, z1, nx1, ny1, nz1, r1⟩, o1, t1⟩ := h1
  obtain ⟨ex, ey⟩ := r1.aff prime_p
  clear r1 o1
  go_enter Tryd.func22, Tryd.ntmps22
  refine wp_seq_k fun K hK => ?_
  refine wp_region_lit ?_
  refine wpl_box (pt X1 Y1 Z1 T1).toArray rfl rfl rfl ?_
  refine wpl_alloc (zs := z32) rfl rfl (by kernel_rfl) ?_
  refine wpl_nil ?_
  go_simp
  refine hK _ _ ?_
  clear hK K
  refine wp_at (fun W => Blk W w.heap.size 39 (pt X1 Y1 Z1 T1).toArray ∧ Blk W (w.heap.size + 1) 22 z32 ∧ Below w.heap.size w W)
    ⟨heap_alloc2_old w _ _, heap_alloc2_new w _ _, ((Below.refl _ _).alloc (Nat.le_refl _) _).alloc (by simp) _⟩ ?_
  rintro W ⟨hp, ho, hbe⟩
  -- walk bytes
  refine wp_seq_k fun K hK => ?_
  refine reg_varF 3 3 34 (.tmp 7) z16 rfl rfl rfl rfl rfl rfl rfl (exec_alloc rfl (by kernel_rfl)) ?_
  simp only [List.take_succ_cons, List.take_zero]
  refine b_field w.heap.size 0 32 rfl rfl rfl (fld2 _) ?_
  simp only [Act.put, List.setIfInBounds_toArray, List.set_cons_zero, List.set_cons_succ]
  refine b_ld w.heap.size 32 nz1.len _ rfl rfl rfl (fun _ h => (h.blk hp).ptZ nx1.len ny1.len) ?_
  simp only [Act.put, List.setIfInBounds_toArray, List.set_cons_zero, List.set_cons_succ]
  refine b_num rfl own_inv (fun w1 => inv_f (nz1.mono (by omega)) w1) rfl rfl ?_
  intro r1 v1
  simp only [Act.put, List.setIfInBounds_toArray, List.set_cons_zero, List.set_cons_succ]
  refine wpB_nil ⟨(Is r1).toArray, fun _ => rfl, fun _ => rfl, (len_is v1.len).symm, size_num _ (len_is v1.len), Is_one _, fun gi W1 hgi hw1 hbi => ?_⟩
  simp only [Exit.then, Act.put, List.setIfInBounds_toArray, List.set_cons_zero, List.set_cons_succ]
  refine hK _ _ ?_
  clear hK K
  have hp := hw1.blk hp
  have ho := hw1.blk ho
  have hbe := below_up hbe hw1
  clear hw1
  refine wp_seq_k fun K hK => ?_
  refine reg_varF 5 4 22 (.tmp 12) z32 rfl rfl rfl rfl rfl rfl rfl (exec_alloc rfl (by kernel_rfl)) ?_
  simp only [List.take_succ_cons, List.take_zero]
  refine b_field w.heap.size 0 16 rfl rfl rfl (fld1 _) ?_
  simp only [Act.put, List.setIfInBounds_toArray, List.set_cons_zero, List.set_cons_succ]
  refine b_ld w.heap.size 16 ny1.len _ rfl rfl rfl (fun _ h => (h.blk hp).ptY nx1.len) ?_
  simp only [Act.put, List.setIfInBounds_toArray, List.set_cons_zero, List.set_cons_succ]
  refine b_ld gi 0 v1.len _ rfl rfl rfl (fun _ h => (h.blk hbi).range) ?_
  simp only [Act.put, List.setIfInBounds_toArray, List.set_cons_zero, List.set_cons_succ]
  refine b_num rfl own_mul (fun w1 => mul_f (ny1.mono (by omega)) (v1.mono (by omega)) w1) rfl rfl ?_
  intro r2 v2
  simp only [Act.put, List.setIfInBounds_toArray, List.set_cons_zero, List.set_cons_succ]
  rw [ey] at v2
  refine b_one rfl own_pack (fun w1 => pack_f (v2.mono (by omega)) w1) rfl rfl ?_
  simp only [Act.put, List.setIfInBounds_toArray, List.set_cons_zero, List.set_cons_succ]
  refine wpB_nil ⟨(By (enc A.y)).toArray, fun _ => rfl, fun _ => rfl, (len_by (enc_len _)).symm, size_hash _ (len_by (enc_len _)), By_one _, fun gb W1 hgb hw1 hbb => ?_⟩
  simp only [Exit.then, Act.put, List.setIfInBounds_toArray, List.set_cons_zero, List.set_cons_succ]
  refine hK _ _ ?_
  clear hK K
  have hne : w.heap.size + 1 ≠ gb := Nat.ne_of_lt (Nat.lt_of_lt_of_le ho.lt hgb)
  have hwg : w.heap.size ≤ gb := Nat.le_trans hbe.size hgb
  clear hgb
  have hp := hw1.blk hp
  have hbi := hw1.blk hbi
  have ho := hw1.blk ho
  have hbe := below_up hbe hw1
  clear hw1
  refine wp_seq_k fun K hK => ?_
  refine wp_seq_k fun K2 hK2 => ?_
  refine reg_qF ?_
  refine b_field w.heap.size 0 0 rfl rfl rfl (fld0 _) ?_
  simp only [Act.put, List.setIfInBounds_toArray, List.set_cons_zero, List.set_cons_succ]
  refine b_ld w.heap.size 0 nx1.len _ rfl rfl rfl (fun _ h => (h.blk hp).ptX) ?_
  simp only [Act.put, List.setIfInBounds_toArray, List.set_cons_zero, List.set_cons_succ]
  refine b_ld gi 0 v1.len _ rfl rfl rfl (fun _ h => (h.blk hbi).range) ?_
  simp only [Act.put, List.setIfInBounds_toArray, List.set_cons_zero, List.set_cons_succ]
  refine b_num rfl own_mul (fun w1 => mul_f (nx1.mono (by omega)) (v1.mono (by omega)) w1) rfl rfl ?_
  intro r3 v3
  simp only [Act.put, List.setIfInBounds_toArray, List.set_cons_zero, List.set_cons_succ]
  rw [ex] at v3
  refine b_one rfl own_pack (fun w1 => pack_f (v3.mono (by omega)) w1) rfl rfl ?_
  simp only [Act.put, List.setIfInBounds_toArray, List.set_cons_zero, List.set_cons_succ]
  refine b_index (enc (A.x)) (by rw [enc_len]; omega) rfl rfl rfl ?_
  simp only [Act.put, List.setIfInBounds_toArray, List.set_cons_zero, List.set_cons_succ]
  refine b_rem2 _ ((enc (A.x))[0]!).toNat_lt rfl rfl rfl ?_
  simp only [Act.put, List.setIfInBounds_toArray, List.set_cons_zero, List.set_cons_succ]
  rw [le_low (b := enc (A.x)) (by rw [enc_len]; omega), le_enc]
  refine b_is1 _ rfl rfl rfl ?_
  simp only [Act.put, List.setIfInBounds_toArray, List.set_cons_zero, List.set_cons_succ]
  refine wpB_nil ?_
  intro W1 hw1
  simp only [Exit.then]
  refine hK2 _ _ ?_
  clear hK2 K2
  have hp := hw1.blk hp
  have hbi := hw1.blk hbi
  have ho := hw1.blk ho
  have hbb := hw1.blk hbb
  have hbe := below_up hbe hw1
  clear hw1
  -- end bytes
  have hu := enc_top A.y
  have hul := enc_len A.y
  have c31 := (hbb.cell 31).trans (By_get (l := enc A.y) (by rw [enc_len]; omega))
  have f31 := hbb.free 31
  have hz := len_by hul
  by_cases hpar : A.x.val % 2 = 1
  · refine wp_cond (t := true) (congrArg Value.bool (decide_eq_true hpar)) ?_
    rw [encP_odd hpar] at hK
    have hb2 := hbb.set 31 (.int .u8 ((UInt8.ofNat (((enc A.y)[31]!).toNat + 128)).toNat : Int))
    rw [By_set] at hb2
    have ho2 := ho.far (p := ⟨gb, 31, none⟩) hne (.int .u8 ((UInt8.ofNat (((enc A.y)[31]!).toNat + 128)).toNat : Int))
    have hbe2 := hbe.setCell (p := ⟨gb, 31, none⟩) hwg (.int .u8 ((UInt8.ofNat (((enc A.y)[31]!).toNat + 128)).toNat : Int))
    have hz2 : (By ((enc A.y).set 31 (UInt8.ofNat (((enc A.y)[31]!).toNat + 128)))).toArray.size = 32 := len_by (by rw [List.length_set, enc_len])
    have hv : ((UInt8.ofNat (((enc A.y)[31]!).toNat + 128)).toNat : Int) = (((enc A.y)[31]!).toNat : Int) + 128 := by
      rw [UInt8.toNat_ofNat_of_lt' (by show _ < 256; omega)]; rfl
    generalize (enc A.y).set 31 (UInt8.ofNat (((enc A.y)[31]!).toNat + 128)) = u2 at *
    rw [hv] at hb2 ho2 hbe2
    generalize ((enc A.y)[31]!).toNat = hi at *
    clear hv hbb ho hpar
    go_wp2_with (first
      | (refine wpList_load_row rfl 22 _ rfl gb rfl 22 (By u2).toArray (0, 0) _ hb2 Tryd.underlying22 rfl (size_hash _ hz2) ?_)
      | (refine wpList_store_row rfl 22 _ _ rfl (w.heap.size + 1) rfl (By u2).toArray rfl 22 _ ho2 (size_hash _ hz2) (by rw [hz2]; rfl) (By_one _) ?_))
    refine bodyPost_ret (results_cell_row rfl _ _ (w.heap.size + 1) 22 (By u2).toArray (0, 0) _ rfl (ho2.row _) Tryd.underlying22 rfl (size_hash _ hz2)) rfl ⟨rfl, ?_⟩
    exact below_setRow hbe2 (by omega) _
  · refine wp_cond (t := false) (congrArg Value.bool (decide_eq_false hpar)) ?_
    rw [encP_even hpar] at hK
    rw [if_neg (by decide)]
    refine wp_skip ?_
    simp only [Exit.then]
    refine hK _ _ ?_
    clear hK K
    generalize enc A.y = u2 at *
    refine wp_seq_k fun K hK => ?_
    refine reg_setF 1 (.tmp 2) 22 (.tmp 25) rfl rfl rfl rfl ?_
    simp only [List.take_succ_cons, List.take_zero]
    refine b_mid rfl 22 _ rfl gb 0 rfl (By u2) _ (fun _ h => (h.blk hbb).range) Tryd.underlying22 rfl (size_hash (By u2).toArray hz) ?_
    simp only [Act.put, List.setIfInBounds_toArray, List.set_cons_zero, List.set_cons_succ]
    refine wpB_nil ⟨w.heap.size + 1, _, _, rfl, rfl, ho, (by rw [hz]; rfl), size_hash _ hz, By_one _, fun W1 hw1 => ?_⟩
    simp only [Exit.then]
    refine hK _ _ ?_
    clear hK K
    have ho := hw1.blk ho
    have hbe := below_up hbe hw1
    refine wp_ret ?_
    refine bodyPost_ret (results_cell_row rfl _ _ (w.heap.size + 1) 22 (By u2).toArray (0, 0) _ rfl (ho.row _) Tryd.underlying22 rfl (size_hash _ hz)) rfl ⟨rfl, ?_⟩
    exact below_setRow hbe (by omega) _
end Go.Proofs.YtgmiaaapaiccdaaDoor
