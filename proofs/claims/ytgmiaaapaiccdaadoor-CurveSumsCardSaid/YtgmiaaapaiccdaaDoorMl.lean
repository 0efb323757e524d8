/-
  SEVERAL TEXTS IN ONE: CpHash, CpTup, CpDec, LawC, LawF, LawM, Law, Law3.
-/
import Derived.Test.YtgmiaaapaiccdaaDoorMj
import Derived.Test.YtgmiaaapaiccdaaDoorMk
import Derived.Test.YtgmiaaapaiccdaaDoorRows
import Derived.Test.YtgmiaaapaiccdaaDoorMc
import Derived.ProofKit
import Derived.OpenShut
import Derived.SizedLaws
import Derived.Test.YtgmiaaapaiccdaaDoorCards
import Derived.Test.YtgmiaaapaiccdaaDoorTie
import Derived.Test.YtgmiaaapaiccdaaDoorMd
import Derived.LaidMore
import Derived.SevenTiedAt
import Derived.Stop.Joined
/-
  THE PROGRAM'S POINTS: Small, Hash.
-/
namespace Go.Proofs.YtgmiaaapaiccdaaDoor
open Go.RowKit Go.IntWalk Nums

set_option maxRecDepth 100000 in
set_option maxHeartbeats 1000000 in
theorem csmall_f {l : List Nat} {A : Ed.Pt p} (hP : PB l A) (w : World) (hT : Tw w) :
    Calls Tryd.prog 15 #[.agg (Us l).toArray] w fun e w' => e = .returned (.bool (decide (encP (Ed.mul dd 8 A) = encP Ed.zero))) ∧ Below w.heap.size w w' := by
  refine calls_F (vs := [.agg (Us l).toArray]) 12 Tryd.func15 rfl (by rw [Tryd.ntmps15]; rfl) ?_
  have hw0 := hT.lt
  refine c_seq fun K hK => ?_
  refine c_lit ?_
  refine l_boxA ((Us l).toArray) rfl rfl rfl rfl rfl fun W1 g1 hw1 hg1 b1 => ?_
  have q1 : w.heap.size ≤ g1 := by rw [hg1]; exact Nat.le_refl _
  clear hg1
  replace hT := hT.below hw1
  have hU : Up w _ := hw1
  refine l_assign (.bool false) rfl rfl rfl rfl rfl ?_
  refine l_nil ?_
  refine hK _ _ ?_
  clear hK K
  refine c_seq fun K hK => ?_
  refine c_tF 2 ?_
  refine f_pt g1 0 hP.len rfl rfl rfl rfl rfl (fun _ h1 => (h1.blk b1).range) ?_
  refine f_us #[.agg (Us l).toArray, .int .i64 3] (PB · (Ed.mul dd 8 A)) rfl rfl rfl own_doubled (fun w1 h1 => doubled_f hP 3 (by decide) w1 (hT.below h1)) rfl rfl fun r4 v4 => ?_
  refine f_set g1 _ ((Us r4).toArray) rfl rfl rfl rfl rfl b1 (size_P v4.len) ((us_size hP.len).trans (us_size v4.len).symm) (Us_oneA _) fun w2 hw2 c2 => ?_
  replace b1 := c2
  replace hT := (hT.below hw2).row (g := g1) (by have := hw0; omega) ((Us r4).toArray)
  replace hU := up_row (hU.step hw2) q1 ((Us r4).toArray)
  clear hw2 c2
  generalize w2.setRow g1 ((Us r4).toArray) = W2 at *
  have hon8 := v4.on
  obtain ⟨X1, Y1, Z1, T1, x1, y1, z1, t1, rfl, hX1, hY1, hZ1, hT1, hiff⟩ := v4.yz
  have hiff2 : y1 = z1 ↔ encP (Ed.mul dd 8 A) = encP Ed.zero := hiff.trans ⟨congrArg encP, encP_inj hon8 Ed.on_zero⟩
  refine l_nil ?_
  refine hK _ _ ?_
  clear hK K
  refine c_seq fun K hK => ?_
  refine c_q (by kernel_rfl) (tail_ok (by kernel_rfl)) (fun _ _ d _ _ h => by cases d <;> exact h) ?_
  refine f_fld g1 0 5 rfl rfl rfl rfl rfl (fun w1 => cpf1 _ w1) ?_
  refine f_el g1 5 hY1.len rfl rfl rfl rfl rfl (fun _ h1 => (h1.blk b1).cy hX1.len) ?_
  refine f_call #[.agg (Us Y1).toArray] (.agg (By (enc y1)).toArray) rfl rfl rfl own_hash (fun w1 _ => hash_f hY1 w1) rfl rfl ?_
  refine f_fld g1 0 10 rfl rfl rfl rfl rfl (fun w1 => cpf2 _ w1) ?_
  refine f_el g1 10 hZ1.len rfl rfl rfl rfl rfl (fun _ h1 => (h1.blk b1).cz hX1.len hY1.len) ?_
  refine f_call #[.agg (Us Z1).toArray] (.agg (By (enc z1)).toArray) rfl rfl rfl own_hash (fun w1 _ => hash_f hZ1 w1) rfl rfl ?_
  refine f_eq (By (enc y1)).toArray (By (enc z1)).toArray rfl rfl rfl rfl rfl rfl (by kernel_rfl) (eqd y1 z1) ?_
  refine f_assign (.bool (decide (y1 = z1))) rfl rfl rfl rfl rfl ?_
  refine f_end fun w9 hw9 => hK _ _ ?_
  clear hK K
  replace b1 := b1.later hw9
  replace hT := hT.below hw9
  replace hU := hU.step hw9
  rw [decide_eq_decide.2 hiff2]
  exact c_ret fun a ha => bodyPost_ret (results_tmp rfl _ _ _) ha.defers ⟨congrArg Ending.returned (ha.get 2 _ rfl), hU⟩

set_option maxRecDepth 100000 in
set_option maxHeartbeats 1000000 in
theorem chash_f {l : List Nat} {A : Ed.Pt p} (hP : PB l A) (w : World) (hT : Tw w) :
    Calls Tryd.prog 14 #[.agg (Us l).toArray] w fun e w' => e = .returned (.agg (By (encP A)).toArray) ∧ Below w.heap.size w w' := by
  refine calls_F (vs := [.agg (Us l).toArray]) 25 Tryd.func14 rfl (by rw [Tryd.ntmps14]; rfl) ?_
  have hw0 := hT.lt
  refine c_seq fun K hK => ?_
  refine c_lit ?_
  refine l_boxA ((Us l).toArray) rfl rfl rfl rfl rfl fun W1 g1 hw1 hg1 b1 => ?_
  have q1 : w.heap.size ≤ g1 := by rw [hg1]; exact Nat.le_refl _
  clear hg1
  replace hT := hT.below hw1
  have hU : Up w _ := hw1
  refine l_allocA z32 rfl rfl rfl rfl (by kernel_rfl) fun W2 g2 hw2 hg2 b2 => ?_
  have q2 : w.heap.size ≤ g2 := by rw [hg2]; exact hU.size
  have n1_2 : g1 ≠ g2 := by have := b1.lt; omega
  clear hg2
  replace b1 := b1.later hw2
  replace hT := hT.below hw2
  replace hU := hU.step hw2
  refine l_nil ?_
  refine hK _ _ ?_
  clear hK K
  refine c_seq fun K hK => ?_
  refine c_tF 2 ?_
  refine f_pt g1 0 hP.len rfl rfl rfl rfl rfl (fun _ h1 => (h1.blk b1).range) ?_
  refine f_us #[.agg (Us l).toArray] (QB · A) rfl rfl rfl own_pwhole (fun w1 h1 => pwhole_f hP w1) rfl rfl fun r6 v6 => ?_
  refine f_set g1 _ ((Us r6).toArray) rfl rfl rfl rfl rfl b1 (size_P v6.len) ((us_size hP.len).trans (us_size v6.len).symm) (Us_oneA _) fun w3 hw3 c3 => ?_
  replace b2 := (b2.later hw3).rowFar (Ne.symm n1_2) ((Us r6).toArray)
  replace b1 := c3
  replace hT := (hT.below hw3).row (g := g1) (by have := hw0; omega) ((Us r6).toArray)
  replace hU := up_row (hU.step hw3) q1 ((Us r6).toArray)
  clear hw3 c3
  generalize w3.setRow g1 ((Us r6).toArray) = W3 at *
  obtain ⟨⟨X1, Y1, Z1, T1, x1, y1, z1, t1, rfl, hX1, hY1, hZ1, hT1, hR1, ht1⟩, hon1⟩ := v6
  have haf := hR1.aff prime_p
  refine l_nil ?_
  refine hK _ _ ?_
  clear hK K
  refine c_seq fun K hK => ?_
  refine c_newF 3 [nvE 3] (by decide) ⟨⟨rfl, rfl, rfl, rfl, by kernel_rfl⟩, trivial⟩ ?_
  refine f_fld g1 0 10 rfl rfl rfl rfl rfl (fun w1 => cpf2 _ w1) ?_
  refine f_el g1 10 hZ1.len rfl rfl rfl rfl rfl (fun _ h1 => (h1.blk b1).cz hX1.len hY1.len) ?_
  refine f_us #[.agg (Us Z1).toArray] (EB · (finv z1)) rfl rfl rfl own_inv3 (fun w1 h1 => elinv_f hZ1 w1) rfl rfl fun r9 v9 => ?_
  refine f_new [.tmp 9] [(Us r9).toArray] ⟨rfl, trivial⟩ (by decide) ⟨⟨rfl, rfl, rfl⟩, rfl⟩ ⟨⟨rfl, (us_size zl_len).trans (us_size v9.len).symm, size_E v9.len, Us_oneA _⟩, trivial⟩ fun f4 W4 hg4 hd4 hw4 hb4 => ?_
  have b400 : Blk W4 (f4 0) 27 ((Us r9).toArray) := hb4.1
  clear hb4
  have q400 : w.heap.size ≤ f4 0 := Nat.le_trans hU.size (hg4 0 (by decide))
  have n1_400 : g1 ≠ f4 0 := by have := b1.lt; have := hg4 0 (by decide); omega
  have n2_400 : g2 ≠ f4 0 := by have := b2.lt; have := hg4 0 (by decide); omega
  replace b1 := b1.later hw4
  replace b2 := b2.later hw4
  replace hT := hT.below hw4
  replace hU := hU.step hw4
  clear hg4 hd4 hw4
  generalize hf400 : f4 0 = g400 at *
  simp only [ptrs, hf400]
  clear hf400 f4
  refine l_nil ?_
  refine k_sub (E' := [(1, .pointer (some ⟨g1, 0, none⟩)), (2, .pointer (some ⟨g2, 0, none⟩)), (3, .pointer (some ⟨g400, 0, none⟩))]) ⟨rfl, rfl, rfl, trivial⟩ ?_
  refine hK _ _ ?_
  clear hK K
  refine c_seq fun K hK => ?_
  refine c_newF 5 [nvH 4] (by decide) ⟨⟨rfl, rfl, rfl, rfl, by kernel_rfl⟩, trivial⟩ ?_
  refine f_fld g1 0 5 rfl rfl rfl rfl rfl (fun w1 => cpf1 _ w1) ?_
  refine f_el g1 5 hY1.len rfl rfl rfl rfl rfl (fun _ h1 => (h1.blk b1).cy hX1.len) ?_
  refine f_el g400 0 v9.len rfl rfl rfl rfl rfl (fun _ h1 => (h1.blk b400).range) ?_
  refine f_us #[.agg (Us Y1).toArray, .agg (Us r9).toArray] (EB · A.y) rfl rfl rfl own_elmul (fun w1 h1 => (by have := elmul_f hY1 v9 w1; rwa [haf.2] at this)) rfl rfl fun r13 v13 => ?_
  refine f_call #[.agg (Us r13).toArray] (.agg (By (enc A.y)).toArray) rfl rfl rfl own_hash (fun w1 _ => hash_f v13 w1) rfl rfl ?_
  refine f_new [.tmp 14] [(By (enc A.y)).toArray] ⟨rfl, trivial⟩ (by decide) ⟨⟨rfl, rfl, rfl⟩, rfl⟩ ⟨⟨rfl, (len_by (l := List.replicate 32 0) rfl).trans (len_by (enc_len _)).symm, size_H (enc_len _), By_oneA _⟩, trivial⟩ fun f5 W5 hg5 hd5 hw5 hb5 => ?_
  have b500 : Blk W5 (f5 0) 22 ((By (enc A.y)).toArray) := hb5.1
  clear hb5
  have q500 : w.heap.size ≤ f5 0 := Nat.le_trans hU.size (hg5 0 (by decide))
  have n1_500 : g1 ≠ f5 0 := by have := b1.lt; have := hg5 0 (by decide); omega
  have n2_500 : g2 ≠ f5 0 := by have := b2.lt; have := hg5 0 (by decide); omega
  have n400_500 : g400 ≠ f5 0 := by have := b400.lt; have := hg5 0 (by decide); omega
  replace b1 := b1.later hw5
  replace b2 := b2.later hw5
  replace b400 := b400.later hw5
  replace hT := hT.below hw5
  replace hU := hU.step hw5
  clear hg5 hd5 hw5
  generalize hf500 : f5 0 = g500 at *
  simp only [ptrs, hf500]
  clear hf500 f5
  refine l_nil ?_
  refine k_sub (E' := [(1, .pointer (some ⟨g1, 0, none⟩)), (2, .pointer (some ⟨g2, 0, none⟩)), (3, .pointer (some ⟨g400, 0, none⟩)), (4, .pointer (some ⟨g500, 0, none⟩))]) ⟨rfl, rfl, rfl, rfl, trivial⟩ ?_
  refine hK _ _ ?_
  clear hK K
  refine c_seq fun K0 hK0 => ?_
  refine c_seq fun K hK => ?_
  refine c_qF ?_
  refine f_fld g1 0 0 rfl rfl rfl rfl rfl (fun w1 => cpf0 _ w1) ?_
  refine f_el g1 0 hX1.len rfl rfl rfl rfl rfl (fun _ h1 => (h1.blk b1).cx) ?_
  refine f_el g400 0 v9.len rfl rfl rfl rfl rfl (fun _ h1 => (h1.blk b400).range) ?_
  refine f_us #[.agg (Us X1).toArray, .agg (Us r9).toArray] (EB · A.x) rfl rfl rfl own_elmul (fun w1 h1 => (by have := elmul_f hX1 v9 w1; rwa [haf.1] at this)) rfl rfl fun r18 v18 => ?_
  refine f_call #[.agg (Us r18).toArray] (.bool (decide (A.x.val % 2 = 1))) rfl rfl rfl own_odd (fun w1 _ => odd_f v18 w1) rfl rfl ?_
  refine f_end fun w9 hw9 => hK _ _ ?_
  clear hK K
  replace b1 := b1.later hw9
  replace b2 := b2.later hw9
  replace b400 := b400.later hw9
  replace b500 := b500.later hw9
  replace hT := hT.below hw9
  replace hU := hU.step hw9
  have h31 := enc_top A.y
  by_cases hodd : A.x.val % 2 = 1
  · refine c_cond (decide (A.x.val % 2 = 1)) rfl ?_
    rw [decide_eq_true hodd, if_pos rfl]
    have e31 : ((UInt8.ofNat (((enc A.y)[31]!).toNat + 128)).toNat : Int) = ((((enc A.y)[31]!).toNat + 128 : Nat) : Int) := by rw [UInt8.toNat_ofNat_of_lt' (by show _ < 256; omega)]
    have c31 := (b500.cell 31).trans (By_get (l := enc A.y) (j := 31) (by rw [enc_len]; decide))
    refine c_tF 4 ?_
    refine f_ix _ 31 ⟨g500, 31, none⟩ rfl rfl rfl rfl rfl rfl (ixH _ 31 (by decide)) ?_
    refine f_load ⟨g500, 31, none⟩ (.int .u8 (((enc A.y)[31]!).toNat : Int)) (by decide) rfl rfl rfl rfl rfl (fun _ h1 => (h1.cell b500.lt).trans c31) ?_
    refine f_orB _ 128 ((((enc A.y)[31]!).toNat + 128 : Nat) : Int) rfl rfl rfl rfl rfl rfl (bit7 _ h31) ?_
    refine f_ix _ 31 ⟨g500, 31, none⟩ rfl rfl rfl rfl rfl rfl (ixH _ 31 (by decide)) ?_
    refine f_store ⟨g500, 31, none⟩ ((((enc A.y)[31]!).toNat + 128 : Nat) : Int) _ (.inr ⟨rfl, rfl⟩) rfl rfl rfl rfl rfl c31 (b500.free 31) b500.lt fun w8 hw8 => ?_
    replace b1 := b1.later hw8
    replace b2 := b2.later hw8
    replace b500 := b500.later hw8
    replace hT := hT.below hw8
    replace hU := hU.step hw8
    replace b2 := b2.far (p := ⟨g500, 31, none⟩) n2_500 (.int .u8 ((((enc A.y)[31]!).toNat + 128 : Nat) : Int))
    replace b500 := b500.set 31 (.int .u8 ((((enc A.y)[31]!).toNat + 128 : Nat) : Int))
    rw [← e31, By_set, ← encP_odd hodd] at b500
    rw [← e31] at b2 ⊢
    replace hU : Up w _ := hU.setCell (p := ⟨g500, 31, none⟩) q500 (.int .u8 ((UInt8.ofNat (((enc A.y)[31]!).toNat + 128)).toNat : Int))
    generalize w8.setCell ⟨g500, 31, none⟩ (.int .u8 ((UInt8.ofNat (((enc A.y)[31]!).toNat + 128)).toNat : Int)) = W8 at *
    refine hK0 _ _ ?_
    clear hK0 K0
    refine c_seq fun K hK => ?_
    refine c_tF 1 ?_
    refine f_by g500 0 (encP_len A) rfl rfl rfl rfl rfl (fun _ h1 => (h1.blk b500).range) ?_
    refine f_set g2 _ ((By (encP A)).toArray) rfl rfl rfl rfl rfl b2 (size_H (encP_len A)) ((len_by (l := List.replicate 32 0) rfl).trans (len_by (encP_len A)).symm) (By_oneA _) fun w6 hw6 c6 => ?_
    replace b500 := (b500.later hw6).rowFar (Ne.symm n2_500) ((By (encP A)).toArray)
    replace b2 := c6
    replace hU := up_row (hU.step hw6) q2 ((By (encP A)).toArray)
    clear hw6 c6
    generalize w6.setRow g2 ((By (encP A)).toArray) = W6 at *
    refine l_nil ?_
    refine hK _ _ ?_
    clear hK K
    refine c_ret (k_ret_row g2 _ rfl rfl b2 Tryd.underlying22 rfl (size_H (encP_len A)) ⟨rfl, hU⟩)
  · refine c_cond (decide (A.x.val % 2 = 1)) rfl ?_
    rw [decide_eq_false hodd, if_neg (by decide)]
    refine c_skip ?_
    refine hK0 _ _ ?_
    clear hK0 K0
    rw [← encP_even hodd] at b500
    refine c_seq fun K hK => ?_
    refine c_tF 1 ?_
    refine f_by g500 0 (encP_len A) rfl rfl rfl rfl rfl (fun _ h1 => (h1.blk b500).range) ?_
    refine f_set g2 _ ((By (encP A)).toArray) rfl rfl rfl rfl rfl b2 (size_H (encP_len A)) ((len_by (l := List.replicate 32 0) rfl).trans (len_by (encP_len A)).symm) (By_oneA _) fun w6 hw6 c6 => ?_
    replace b500 := (b500.later hw6).rowFar (Ne.symm n2_500) ((By (encP A)).toArray)
    replace b2 := c6
    replace hU := up_row (hU.step hw6) q2 ((By (encP A)).toArray)
    clear hw6 c6
    generalize w6.setRow g2 ((By (encP A)).toArray) = W6 at *
    refine l_nil ?_
    refine hK _ _ ?_
    clear hK K
    refine c_ret (k_ret_row g2 _ rfl rfl b2 Tryd.underlying22 rfl (size_H (encP_len A)) ⟨rfl, hU⟩)
end Go.Proofs.YtgmiaaapaiccdaaDoor
/-
  'x, ok := f(..)' OVER FRAMES BY WHAT IS KNOWN OF THEM, the order drawn; the program's Root, by the curve's equation.
-/
namespace Go.Proofs.YtgmiaaapaiccdaaDoor
open Go.RowKit Go.IntWalk Nums

section
variable {P : Program} {Q : Exit → Act → World → Prop} {N : Nat} {E : List (Nat × Value)} {w : World}
theorem c_tup {id : Nat} {l : List Oper} {oa os ot : Oper} (n : Nat) (t t2 : Tmp) (ty : TypeId) (x y : Operand) (zs : Array Value) (hl : l = l.take n ++ [oa, os, ot]) (hn : (l.take n).length = n)
    (hop : os.op = .store ty (.tmp t) x) (hot : ot.op = .assign y) (hsg : os.guard = none) (htg : ot.guard = none) (hsd : os.dst = none) (htd : ot.dst = some t2) (hag : oa.guard = none) (had : oa.dst = some t) (hm : P.follows .mixedOrders = true)
    (hs : Region.noSelect l.toArray = true) (hh : headC .any l.toArray n l 0 = true) (hch : chainB .any l 0 none = true)
    (hr0 : Region.ready .any l.toArray (marks n 0 (Array.replicate l.toArray.size false)) = [n])
    (hr1 : Region.ready .any l.toArray ((marks n 0 (Array.replicate l.toArray.size false)).setIfInBounds n true) = [n + 1])
    (hr2 : Region.ready .any l.toArray (((marks n 0 (Array.replicate l.toArray.size false)).setIfInBounds n true).setIfInBounds (n + 1) true) = [n + 2])
    (hr3 : Region.ready .any l.toArray ((((marks n 0 (Array.replicate l.toArray.size false)).setIfInBounds n true).setIfInBounds (n + 1) true).setIfInBounds (n + 2) true) = [])
    (hQ : ∀ c a d v w, Q (.panic c) (a.put d v) w → Q (.panic c) a w) (hoa : oa.op = .alloc ty) (hz : (P.info? ty).bind (fun i => i.zero.map (·.cells)) = some zs)
    (h : bF P l.toArray (Up w) (tupEnd P Q w t t2 ty x y zs.size) (l.take n) N E) : cF P (.region id l.toArray true) Q N E w := fun a ha =>
  reg_tup n t t2 ty x y zs hl hn hop hot hsg htg hsd htd hag had hm hs hh hch hr0 hr1 hr2 hr3 hQ (exec_alloc hoa hz) (h a ha)
theorem f_tupEnd {ops : Array Oper} {t t2 : Tmp} {ty : TypeId} {x y : Operand} {n : Nat} (cells : Array Value) (v2 : Value) (ht : Nat.blt t N = true) (ht2 : Nat.blt t2 N = true) (hx : ∀ v, ev ((t, v) :: E) x = some (.agg cells)) (hy : ∀ v, ev ((t, v) :: E) y = some v2) (hn : n = cells.size)
    (hi : (P.info? ty).map (·.size) = some cells.size) (h1 : ∀ v ∈ cells.toList, v.oneCell' = true) (h : ∀ g w', w.heap.size ≤ g → Up w w' → Blk w' g ty cells → kF (Q .normal) N ((t2, v2) :: (t, .pointer (some ⟨g, 0, none⟩)) :: E) w') :
    bF P ops (Up w) (tupEnd P Q w t t2 ty x y n) [] N E := fun a ha => wpB_nil ⟨cells, v2, fun v => (ha.put ht v).get t v (by rw [look_cons, if_pos rfl]), fun v => (ha.put ht v).eval (hx v), fun v => (ha.put ht v).eval (hy v), hn, hi, h1,
      fun g w' hg hU hb => h g w' hg hU hb _ ((ha.put ht _).put ht2 _)⟩
end
/-- A call of Root. -/
theorem croot_f {a b : List Nat} {y : F} (hA : EB a (y * y - 1)) (hB : EB b (y * y * dd + 1)) :
    ((∃ x, x.val % 2 = 0 ∧ Ed.On dd ⟨x, y⟩ ∧ ∀ w, Tw w → Calls Tryd.prog 35 #[.agg (Us a).toArray, .agg (Us b).toArray] w fun e w' => ∃ r, EB r x ∧ e = .returned (.tuple #[.agg (Us r).toArray, .bool true]) ∧ Below w.heap.size w w') ∨
      ((∀ x, ¬ Ed.On dd ⟨x, y⟩) ∧ ∀ w, Tw w → Calls Tryd.prog 35 #[.agg (Us a).toArray, .agg (Us b).toArray] w fun e w' => e = .returned (.tuple #[.agg z5, .bool false]) ∧ Below w.heap.size w w')) := by
  have hv := vv_ne y
  by_cases hx : ∃ x, Ed.On dd ⟨x, y⟩
  · left
    obtain ⟨x0, h0⟩ := hx
    have key : ∀ x : F, (y * y * dd + 1) * x * x = y * y - 1 ∧ x.val % 2 = 0 → x = evenOf x0 := fun x hx => by
      have h1 := on_vxx.1 h0
      have h2 : x * x = x0 * x0 := by
        refine cancel prime_p hv ?_
        have e1 : x * x * (y * y * dd + 1) = (y * y * dd + 1) * x * x := by grind only
        have e2 : x0 * x0 * (y * y * dd + 1) = (y * y * dd + 1) * x0 * x0 := by grind only
        rw [e1, e2, hx.1, h1]
      exact root_one (h2.trans (evenOf_sq x0).symm) (by rw [hx.2, evenOf_even])
    refine ⟨evenOf x0, evenOf_even x0, ?_, fun w hT => (elroot_f hA hB w hT).mono fun e w' ⟨h, hw⟩ => ?_⟩
    · rw [on_iff, evenOf_sq]
      exact (on_iff _ _).1 h0
    · rcases h with ⟨r, x, hr, _, hx, he⟩ | ⟨h, _⟩
      · exact ⟨r, key x hx ▸ hr, he, hw⟩
      · rcases h with h | h
        · exact absurd h hv
        · exact absurd (on_vxx.1 h0) (h x0)
  · right
    refine ⟨fun x h => hx ⟨x, h⟩, fun w hT => (elroot_f hA hB w hT).mono fun e w' ⟨h, hw⟩ => ?_⟩
    rcases h with ⟨r, x, _, _, h, _⟩ | ⟨_, he⟩
    · exact absurd ⟨x, on_vxx.2 h.1⟩ hx
    · exact ⟨he, hw⟩
end Go.Proofs.YtgmiaaapaiccdaaDoor
/-
  THE PROGRAM'S POINTS: Decode.
-/
namespace Go.Proofs.YtgmiaaapaiccdaaDoor
open Go.RowKit Go.IntWalk Nums

set_option maxRecDepth 100000 in
set_option maxHeartbeats 4000000 in
theorem cdecode_f {b : List UInt8} (hb : b.length = 32) (w : World) (hT : Tw w) :
    Calls Tryd.prog 11 #[.agg (By b).toArray] w fun e w' => ((∃ l A, QB l A ∧ encP A = b ∧ e = .returned (.tuple #[.agg (Us l).toArray, .int .i64 0])) ∨ ((¬ ∃ A, Ed.On dd A ∧ encP A = b) ∧ e = .returned (.tuple #[.agg (Us pz).toArray, .int .i64 50]))) ∧ Below w.heap.size w w' := by
  refine calls_F (vs := [.agg (By b).toArray]) 57 Tryd.func11 rfl (by rw [Tryd.ntmps11]; rfl) ?_
  have hw0 := hT.lt
  have hle := le_cutb hb
  have hng := not_good hb
  have hgc := good_cutb hb
  have hcl := cutb_len hb
  have hlt := (b[31]!).toNat_lt
  have h31 := By_get (l := b) (j := 31) (by omega)
  have hcut : (By b).toArray.setIfInBounds 31 (.int .u8 (((b[31]!).toNat % 128 : Nat) : Int)) = (By (cutb b)).toArray := by rw [cutb, ← By_set, UInt8.toNat_ofNat_of_lt' (by show _ < 256; omega)]
  generalize (b[31]!).toNat = hi at *
  refine c_seq fun K hK => ?_
  refine c_lit ?_
  refine l_boxA ((By b).toArray) rfl rfl rfl rfl rfl fun W1 g1 hw1 hg1 b1 => ?_
  have q1 : w.heap.size ≤ g1 := by rw [hg1]; exact Nat.le_refl _
  clear hg1
  replace hT := hT.below hw1
  have hU : Up w _ := hw1
  refine l_allocA ((Us pz).toArray) rfl rfl rfl rfl (by kernel_rfl) fun W2 g2 hw2 hg2 b2 => ?_
  have q2 : w.heap.size ≤ g2 := by rw [hg2]; exact hU.size
  have n1_2 : g1 ≠ g2 := by have := b1.lt; omega
  clear hg2
  replace b1 := b1.later hw2
  replace hT := hT.below hw2
  replace hU := hU.step hw2
  refine l_assign (.int .i64 0) rfl rfl rfl rfl rfl ?_
  refine l_nil ?_
  refine hK _ _ ?_
  clear hK K
  have c31 := (b1.cell 31).trans h31
  refine c_seq fun K hK => ?_
  refine c_qF ?_
  refine f_ix _ 31 ⟨g1, 31, none⟩ rfl rfl rfl rfl rfl rfl (ixH _ 31 (by decide)) ?_
  refine f_load ⟨g1, 31, none⟩ (.int .u8 (hi : Int)) (by decide) rfl rfl rfl rfl rfl (fun _ h1 => (h1.cell b1.lt).trans c31) ?_
  refine f_shrB .u64 (.inr rfl) (hi : Int) 7 ((hi / 128 : Nat) : Int) (by decide) rfl rfl rfl rfl rfl rfl (by show (hi : Int) / 128 = _; omega) ?_
  refine f_eqlB _ 1 (decide (hi / 128 = 1)) rfl rfl rfl rfl rfl rfl (by rw [decide_eq_decide]; omega) ?_
  refine f_assign (.bool (decide (hi / 128 = 1))) rfl rfl rfl rfl rfl ?_
  refine f_end fun w9 hw9 => hK _ _ ?_
  clear hK K
  replace b1 := b1.later hw9
  replace b2 := b2.later hw9
  replace hT := hT.below hw9
  replace hU := hU.step hw9
  have c31 := (b1.cell 31).trans h31
  refine c_seq fun K hK => ?_
  refine c_tF 4 ?_
  refine f_ix _ 31 ⟨g1, 31, none⟩ rfl rfl rfl rfl rfl rfl (ixH _ 31 (by decide)) ?_
  refine f_load ⟨g1, 31, none⟩ (.int .u8 (hi : Int)) (by decide) rfl rfl rfl rfl rfl (fun _ h1 => (h1.cell b1.lt).trans c31) ?_
  refine f_andB _ 127 ((hi % 128 : Nat) : Int) rfl rfl rfl rfl rfl rfl (low7 _ (by omega)) ?_
  refine f_ix _ 31 ⟨g1, 31, none⟩ rfl rfl rfl rfl rfl rfl (ixH _ 31 (by decide)) ?_
  refine f_store ⟨g1, 31, none⟩ ((hi % 128 : Nat) : Int) _ (.inr ⟨rfl, rfl⟩) rfl rfl rfl rfl rfl c31 (b1.free 31) b1.lt fun w8 hw8 => ?_
  replace b1 := b1.later hw8
  replace b2 := b2.later hw8
  replace hT := hT.below hw8
  replace hU := hU.step hw8
  replace b2 := b2.far (p := ⟨g1, 31, none⟩) (Ne.symm n1_2) (.int .u8 ((hi % 128 : Nat) : Int))
  replace b1 := b1.set 31 (.int .u8 ((hi % 128 : Nat) : Int))
  rw [hcut] at b1
  replace hU : Up w _ := hU.setCell (p := ⟨g1, 31, none⟩) q1 (.int .u8 ((hi % 128 : Nat) : Int))
  replace hT := hT.only ((OnlyG.refl w8 g1).set 31 (.int .u8 ((hi % 128 : Nat) : Int))) (by omega)
  generalize w8.setCell ⟨g1, 31, none⟩ (.int .u8 ((hi % 128 : Nat) : Int)) = W8 at *
  clear c31 h31 hcut
  refine hK _ _ ?_
  clear hK K
  refine c_seq fun K hK => ?_
  by_cases hg : le (cutb b) < p
  · have hgd : isGood (cutb b) = true := by rw [hgc, decide_eq_true hg]
    have hval : fof (le (cutb b) % 57896044618658097711785492504343953926634992332820282019728792003956564819968) = fof (le (cutb b)) := by rw [Nat.mod_eq_of_lt hle.2]
    have hle2 : le b = (fof (le (cutb b))).val + 57896044618658097711785492504343953926634992332820282019728792003956564819968 * (hi / 128) := by rw [fof_val, Nat.mod_eq_of_lt hg]; exact hle.1
    have hNew := fun w1 => new_const hcl hgd hval w1
    clear hgd hval hgc hng hle hg
    generalize fof (le (cutb b)) = y at *
    refine c_newF 5 [nvE 5] (by decide) ⟨⟨rfl, rfl, rfl, rfl, by kernel_rfl⟩, trivial⟩ ?_
    refine f_by g1 0 hcl rfl rfl rfl rfl rfl (fun _ h1 => (h1.blk b1).range) ?_
    refine f_tup #[.agg (By (cutb b)).toArray] y rfl rfl rfl own_elnew (fun w1 _ => hNew w1) rfl rfl fun r20 v20 => ?_
    refine f_move (.tuple #[.agg (Us r20).toArray, .bool true]) rfl rfl rfl rfl rfl ?_
    refine f_extract (.agg (Us r20).toArray) rfl rfl rfl rfl rfl rfl ?_
    refine f_extract (.bool true) rfl rfl rfl rfl rfl rfl ?_
    refine f_new [.tmp 21] [(Us r20).toArray] ⟨rfl, trivial⟩ (by decide) ⟨⟨rfl, rfl, rfl⟩, rfl⟩ ⟨⟨rfl, (us_size zl_len).trans (us_size v20.len).symm, size_E v20.len, Us_oneA _⟩, trivial⟩ fun f11 W11 hg11 hd11 hw11 hb11 => ?_
    have b1100 : Blk W11 (f11 0) 27 ((Us r20).toArray) := hb11.1
    clear hb11
    have q1100 : w.heap.size ≤ f11 0 := Nat.le_trans hU.size (hg11 0 (by decide))
    have n1_1100 : g1 ≠ f11 0 := by have := b1.lt; have := hg11 0 (by decide); omega
    have n2_1100 : g2 ≠ f11 0 := by have := b2.lt; have := hg11 0 (by decide); omega
    replace b1 := b1.later hw11
    replace b2 := b2.later hw11
    replace hT := hT.below hw11
    replace hU := hU.step hw11
    clear hg11 hd11 hw11
    generalize hf1100 : f11 0 = g1100 at *
    simp only [ptrs, hf1100]
    clear hf1100 f11
    refine l_assign (.bool true) rfl rfl rfl rfl rfl ?_
    refine l_nil ?_
    refine k_sub (E' := [(1, .pointer (some ⟨g1, 0, none⟩)), (2, .pointer (some ⟨g2, 0, none⟩)), (3, .int .i64 0), (4, .bool (decide (hi / 128 = 1))), (5, .pointer (some ⟨g1100, 0, none⟩)), (6, .bool true)]) ⟨rfl, rfl, rfl, rfl, rfl, rfl, trivial⟩ ?_
    refine hK _ _ ?_
    clear hK K
    refine c_seq fun K0 hK0 => ?_
    refine c_seq fun K hK => ?_
    refine c_qF ?_
    refine f_move (.bool true) rfl rfl rfl rfl rfl ?_
    refine f_not true false rfl rfl rfl rfl rfl rfl ?_
    refine f_end fun w12 hw12 => hK _ _ ?_
    clear hK K
    replace b1 := b1.later hw12
    replace b2 := b2.later hw12
    replace b1100 := b1100.later hw12
    replace hT := hT.below hw12
    replace hU := hU.step hw12
    refine c_cond false rfl ?_
    rw [if_neg (by decide)]
    refine c_skip ?_
    refine hK0 _ _ ?_
    clear hK0 K0
    refine c_seq fun K hK => ?_
    refine c_new 4 [nvE 7, nvE 8] (by decide) (by decide) ⟨⟨rfl, rfl, rfl, rfl, by kernel_rfl⟩, ⟨rfl, rfl, rfl, rfl, by kernel_rfl⟩, trivial⟩ (by kernel_rfl) (tail_ok (by kernel_rfl)) (by kernel_rfl) (fun _ _ d _ _ h => by cases d <;> exact h) ?_
    refine f_us #[.int .u64 1] (EB · 1) rfl rfl rfl own_small (fun w1 _ => small1_f w1) rfl rfl fun r26 v26 => ?_
    refine f_el g1100 0 v20.len rfl rfl rfl rfl rfl (fun _ h1 => (h1.blk b1100).range) ?_
    refine f_el g1100 0 v20.len rfl rfl rfl rfl rfl (fun _ h1 => (h1.blk b1100).range) ?_
    refine f_us #[.agg (Us r20).toArray, .agg (Us r20).toArray] (EB · (y * y)) rfl rfl rfl own_elmul (fun w1 h1 => elmul_f v20 v20 w1) rfl rfl fun r29 v29 => ?_
    refine f_new [.tmp 26, .tmp 29] [(Us r26).toArray, (Us r29).toArray] ⟨rfl, rfl, trivial⟩ (by decide) ⟨⟨rfl, rfl, rfl⟩, ⟨rfl, rfl, rfl⟩, rfl⟩ ⟨⟨rfl, (us_size zl_len).trans (us_size v26.len).symm, size_E v26.len, Us_oneA _⟩, ⟨rfl, (us_size zl_len).trans (us_size v29.len).symm, size_E v29.len, Us_oneA _⟩, trivial⟩ fun f13 W13 hg13 hd13 hw13 hb13 => ?_
    have b1300 : Blk W13 (f13 0) 27 ((Us r26).toArray) := hb13.1
    have b1301 : Blk W13 (f13 1) 27 ((Us r29).toArray) := hb13.2.1
    clear hb13
    have q1300 : w.heap.size ≤ f13 0 := Nat.le_trans hU.size (hg13 0 (by decide))
    have n1_1300 : g1 ≠ f13 0 := by have := b1.lt; have := hg13 0 (by decide); omega
    have n2_1300 : g2 ≠ f13 0 := by have := b2.lt; have := hg13 0 (by decide); omega
    have n1100_1300 : g1100 ≠ f13 0 := by have := b1100.lt; have := hg13 0 (by decide); omega
    have q1301 : w.heap.size ≤ f13 1 := Nat.le_trans hU.size (hg13 1 (by decide))
    have n1_1301 : g1 ≠ f13 1 := by have := b1.lt; have := hg13 1 (by decide); omega
    have n2_1301 : g2 ≠ f13 1 := by have := b2.lt; have := hg13 1 (by decide); omega
    have n1100_1301 : g1100 ≠ f13 1 := by have := b1100.lt; have := hg13 1 (by decide); omega
    have n1300_1301 : f13 0 ≠ f13 1 := hd13 0 1 (by decide) (by decide) (by decide)
    replace b1 := b1.later hw13
    replace b2 := b2.later hw13
    replace b1100 := b1100.later hw13
    replace hT := hT.below hw13
    replace hU := hU.step hw13
    clear hg13 hd13 hw13
    generalize hf1300 : f13 0 = g1300 at *
    generalize hf1301 : f13 1 = g1301 at *
    simp only [ptrs, Nat.reduceAdd, hf1300, hf1301]
    clear hf1300 hf1301 f13
    refine l_nil ?_
    refine k_sub (E' := [(1, .pointer (some ⟨g1, 0, none⟩)), (2, .pointer (some ⟨g2, 0, none⟩)), (3, .int .i64 0), (4, .bool (decide (hi / 128 = 1))), (5, .pointer (some ⟨g1100, 0, none⟩)), (6, .bool true), (7, .pointer (some ⟨g1300, 0, none⟩)), (8, .pointer (some ⟨g1301, 0, none⟩))]) ⟨rfl, rfl, rfl, rfl, rfl, rfl, rfl, rfl, trivial⟩ ?_
    refine hK _ _ ?_
    clear hK K
    refine c_seq fun K hK => ?_
    refine c_tup 12 9 6 27 (.tmp 40) (.tmp 41) z5 rfl rfl rfl rfl rfl rfl rfl rfl rfl rfl (by kernel_rfl) (by kernel_rfl) (by kernel_rfl) (by kernel_rfl) (by kernel_rfl) (by kernel_rfl) (by kernel_rfl) (by kernel_rfl) (fun _ _ d _ _ h => by cases d <;> exact h) rfl (by kernel_rfl) ?_
    refine f_el g1301 0 v29.len rfl rfl rfl rfl rfl (fun _ h1 => (h1.blk b1301).range) ?_
    refine f_el g1300 0 v26.len rfl rfl rfl rfl rfl (fun _ h1 => (h1.blk b1300).range) ?_
    refine f_us #[.agg (Us r29).toArray, .agg (Us r26).toArray] (EB · ((y * y) - 1)) rfl rfl rfl own_elsub (fun w1 h1 => elsub_f v29 v26 w1 (hT.below h1)) rfl rfl fun r33 v33 => ?_
    refine f_el g1301 0 v29.len rfl rfl rfl rfl rfl (fun _ h1 => (h1.blk b1301).range) ?_
    refine f_us #[] (EB · dd) rfl rfl rfl own_factor (fun w1 h1 => factor_f w1) rfl rfl fun r35 v35 => ?_
    refine f_us #[.agg (Us r29).toArray, .agg (Us r35).toArray] (EB · ((y * y) * dd)) rfl rfl rfl own_elmul (fun w1 h1 => elmul_f v29 v35 w1) rfl rfl fun r36 v36 => ?_
    refine f_el g1300 0 v26.len rfl rfl rfl rfl rfl (fun _ h1 => (h1.blk b1300).range) ?_
    refine f_us #[.agg (Us r36).toArray, .agg (Us r26).toArray] (EB · (((y * y) * dd) + 1)) rfl rfl rfl own_eladd (fun w1 h1 => eladd_f v36 v26 w1) rfl rfl fun r38 v38 => ?_
    have hRt := croot_f v33 v38
    rcases hRt with ⟨x, hev, hon, hRoot⟩ | ⟨hnone, hRoot⟩
    · refine f_tup #[.agg (Us r33).toArray, .agg (Us r38).toArray] x rfl rfl rfl own_root3 (fun w1 h1 => hRoot w1 (hT.below h1)) rfl rfl fun r39 v39 => ?_
      refine f_move (.tuple #[.agg (Us r39).toArray, .bool true]) rfl rfl rfl rfl rfl ?_
      refine f_extract (.agg (Us r39).toArray) rfl rfl rfl rfl rfl rfl ?_
      refine f_extract (.bool true) rfl rfl rfl rfl rfl rfl ?_
      refine f_tupEnd (Us r39).toArray (.bool true) rfl rfl (fun _ => rfl) (fun _ => rfl) (us_size (l := zl) rfl |>.trans (us_size v39.len).symm) (size_E v39.len) (Us_oneA _) fun g14 W14 hg14 hw14 b14 => ?_
      have q14 : w.heap.size ≤ g14 := Nat.le_trans hU.size hg14
      have n1_14 : g1 ≠ g14 := by have := b1.lt; omega
      have n2_14 : g2 ≠ g14 := by have := b2.lt; omega
      have n1100_14 : g1100 ≠ g14 := by have := b1100.lt; omega
      have n1300_14 : g1300 ≠ g14 := by have := b1300.lt; omega
      have n1301_14 : g1301 ≠ g14 := by have := b1301.lt; omega
      replace b1 := b1.later hw14
      replace b2 := b2.later hw14
      replace b1100 := b1100.later hw14
      replace b1300 := b1300.later hw14
      replace b1301 := b1301.later hw14
      replace hT := hT.below hw14
      replace hU := hU.step hw14
      refine k_sub (E' := [(1, .pointer (some ⟨g1, 0, none⟩)), (2, .pointer (some ⟨g2, 0, none⟩)), (3, .int .i64 0), (4, .bool (decide (hi / 128 = 1))), (5, .pointer (some ⟨g1100, 0, none⟩)), (6, .bool true), (9, .pointer (some ⟨g14, 0, none⟩))]) ⟨rfl, rfl, rfl, rfl, rfl, rfl, rfl, trivial⟩ ?_
      refine hK _ _ ?_
      clear hK K
      refine c_seq fun K0 hK0 => ?_
      refine c_seq fun K hK => ?_
      refine c_qF ?_
      refine f_move (.bool true) rfl rfl rfl rfl rfl ?_
      refine f_not true false rfl rfl rfl rfl rfl rfl ?_
      refine f_end fun w15 hw15 => hK _ _ ?_
      clear hK K
      replace b1 := b1.later hw15
      replace b2 := b2.later hw15
      replace b1100 := b1100.later hw15
      replace b1300 := b1300.later hw15
      replace b1301 := b1301.later hw15
      replace b14 := b14.later hw15
      replace hT := hT.below hw15
      replace hU := hU.step hw15
      refine c_cond false rfl ?_
      rw [if_neg (by decide)]
      refine c_skip ?_
      refine hK0 _ _ ?_
      clear hK0 K0
      refine c_seq fun K0 hK0 => ?_
      refine c_seq fun K hK => ?_
      refine c_qF ?_
      refine f_move (.bool (decide (hi / 128 = 1))) rfl rfl rfl rfl rfl ?_
      refine f_end fun w16 hw16 => hK _ _ ?_
      clear hK K
      replace b1 := b1.later hw16
      replace b2 := b2.later hw16
      replace b1100 := b1100.later hw16
      replace b1300 := b1300.later hw16
      replace b1301 := b1301.later hw16
      replace b14 := b14.later hw16
      replace hT := hT.below hw16
      replace hU := hU.step hw16
      by_cases hodd : hi / 128 = 1
      · rw [decide_eq_true hodd]
        refine c_cond true rfl ?_
        rw [if_pos rfl]
        refine c_tF 3 ?_
        refine f_build [] (Us zl).toArray rfl rfl rfl rfl rfl built_zero ?_
        refine f_el g14 0 v39.len rfl rfl rfl rfl rfl (fun _ h1 => (h1.blk b14).range) ?_
        refine f_us #[.agg (Us zl).toArray, .agg (Us r39).toArray] (EB · (0 - x)) rfl rfl rfl own_elsub (fun w1 h1 => elsub_f eb_zero v39 w1 (hT.below h1)) rfl rfl fun r48 v48 => ?_
        refine f_set g14 _ ((Us r48).toArray) rfl rfl rfl rfl rfl b14 (size_E v48.len) ((us_size v39.len).trans (us_size v48.len).symm) (Us_oneA _) fun w17 hw17 c17 => ?_
        replace b1 := (b1.later hw17).rowFar n1_14 ((Us r48).toArray)
        replace b2 := (b2.later hw17).rowFar n2_14 ((Us r48).toArray)
        replace b1100 := (b1100.later hw17).rowFar n1100_14 ((Us r48).toArray)
        replace b1300 := (b1300.later hw17).rowFar n1300_14 ((Us r48).toArray)
        replace b1301 := (b1301.later hw17).rowFar n1301_14 ((Us r48).toArray)
        replace b14 := c17
        replace hT := (hT.below hw17).row (g := g14) (by have := hw0; omega) ((Us r48).toArray)
        replace hU := up_row (hU.step hw17) q14 ((Us r48).toArray)
        clear hw17 c17
        generalize w17.setRow g14 ((Us r48).toArray) = W17 at *
        refine l_nil ?_
        refine hK0 _ _ ?_
        clear hK0 K0
        by_cases hx0 : x = 0
        · have hp0 : decide ((0 - x : F).val % 2 = 1) = false := by rw [hx0]; decide
          refine c_seq fun K0 hK0 => ?_
          refine c_seq fun K hK => ?_
          refine c_qF ?_
          refine f_el g14 0 v48.len rfl rfl rfl rfl rfl (fun _ h1 => (h1.blk b14).range) ?_
          refine f_call #[.agg (Us r48).toArray] (.bool (decide ((0 - x).val % 2 = 1))) rfl rfl rfl own_odd (fun w1 _ => odd_f v48 w1) rfl rfl ?_
          refine f_move (.bool true) rfl rfl rfl rfl rfl ?_
          refine f_neqb (decide ((0 - x).val % 2 = 1)) true true rfl rfl rfl rfl rfl rfl (by rw [hp0]; rfl) ?_
          refine f_end fun w18 hw18 => hK _ _ ?_
          clear hK K
          replace b1 := b1.later hw18
          replace b2 := b2.later hw18
          replace b1100 := b1100.later hw18
          replace b1300 := b1300.later hw18
          replace b1301 := b1301.later hw18
          replace b14 := b14.later hw18
          replace hT := hT.below hw18
          replace hU := hU.step hw18
          have hno : ¬ ∃ A, Ed.On dd A ∧ encP A = b := by
            rintro ⟨A, hA, hAb⟩
            obtain ⟨e1, e2⟩ := dec_y hle2 hAb
            have h3 : Ed.On dd ⟨A.x, y⟩ := by rw [← e1]; exact hA
            have h4 := on_vxx.1 h3
            have h5 := on_vxx.1 hon
            rw [← h5, hx0] at h4
            have h6 : A.x = 0 := by
              by_cases h : A.x = 0
              · exact h
              · exact absurd (h4.trans (by grind only)) (mul_ne prime_p (mul_ne prime_p (vv_ne y) h) h)
            rw [h6, hodd] at e2
            revert e2
            decide
          refine c_cond true rfl ?_
          rw [if_pos rfl]
          refine c_seq fun K2 hK2 => ?_
          refine c_tF 1 ?_
          refine f_build [] (Us pz).toArray rfl rfl rfl rfl rfl builtP0 ?_
          refine f_set g2 _ ((Us pz).toArray) rfl rfl rfl rfl rfl b2 (size_P pz_len) ((us_size pz_len).trans (us_size pz_len).symm) (Us_oneA _) fun w19 hw19 c19 => ?_
          replace b1 := (b1.later hw19).rowFar n1_2 ((Us pz).toArray)
          replace b1100 := (b1100.later hw19).rowFar (Ne.symm n2_1100) ((Us pz).toArray)
          replace b1300 := (b1300.later hw19).rowFar (Ne.symm n2_1300) ((Us pz).toArray)
          replace b1301 := (b1301.later hw19).rowFar (Ne.symm n2_1301) ((Us pz).toArray)
          replace b14 := (b14.later hw19).rowFar (Ne.symm n2_14) ((Us pz).toArray)
          replace b2 := c19
          replace hT := (hT.below hw19).row (g := g2) (by have := hw0; omega) ((Us pz).toArray)
          replace hU := up_row (hU.step hw19) q2 ((Us pz).toArray)
          clear hw19 c19
          generalize w19.setRow g2 ((Us pz).toArray) = W19 at *
          refine l_assign (.int .i64 50) rfl rfl rfl rfl rfl ?_
          refine l_nil ?_
          refine hK2 _ _ ?_
          refine c_ret (k_then_ret (k_ret_row2 g2 _ rfl rfl rfl b2 Tryd.underlying29 rfl (size_P pz_len) ⟨.inr ⟨hno, rfl⟩, hU⟩))
        · have hpo : (0 - x : F).val % 2 = 1 := by rw [show (0 - x : F) = -x from by grind only, neg_odd hx0, hev]
          have hp0 : decide ((0 - x : F).val % 2 = 1) = true := decide_eq_true hpo
          refine c_seq fun K0 hK0 => ?_
          refine c_seq fun K hK => ?_
          refine c_qF ?_
          refine f_el g14 0 v48.len rfl rfl rfl rfl rfl (fun _ h1 => (h1.blk b14).range) ?_
          refine f_call #[.agg (Us r48).toArray] (.bool (decide ((0 - x).val % 2 = 1))) rfl rfl rfl own_odd (fun w1 _ => odd_f v48 w1) rfl rfl ?_
          refine f_move (.bool true) rfl rfl rfl rfl rfl ?_
          refine f_neqb (decide ((0 - x).val % 2 = 1)) true false rfl rfl rfl rfl rfl rfl (by rw [hp0]; rfl) ?_
          refine f_end fun w18 hw18 => hK _ _ ?_
          clear hK K
          replace b1 := b1.later hw18
          replace b2 := b2.later hw18
          replace b1100 := b1100.later hw18
          replace b1300 := b1300.later hw18
          replace b1301 := b1301.later hw18
          replace b14 := b14.later hw18
          replace hT := hT.below hw18
          replace hU := hU.step hw18
          refine c_cond false rfl ?_
          rw [if_neg (by decide)]
          refine c_skip ?_
          refine hK0 _ _ ?_
          clear hK0 K0
          refine c_seq fun K hK => ?_
          refine c_tF 3 ?_
          refine f_el g14 0 v48.len rfl rfl rfl rfl rfl (fun _ h1 => (h1.blk b14).range) ?_
          refine f_el g1100 0 v20.len rfl rfl rfl rfl rfl (fun _ h1 => (h1.blk b1100).range) ?_
          refine f_us #[.agg (Us r48).toArray, .agg (Us r20).toArray] (QB · ⟨0 - x, y⟩) rfl rfl rfl own_at (fun w1 h1 => at_f v48 v20 (on_vxx.2 (by rw [← on_vxx.1 hon]; grind only)) w1) rfl rfl fun r56 v56 => ?_
          refine f_set g2 _ ((Us r56).toArray) rfl rfl rfl rfl rfl b2 (size_P v56.len) ((us_size pz_len).trans (us_size v56.len).symm) (Us_oneA _) fun w19 hw19 c19 => ?_
          replace b1 := (b1.later hw19).rowFar n1_2 ((Us r56).toArray)
          replace b1100 := (b1100.later hw19).rowFar (Ne.symm n2_1100) ((Us r56).toArray)
          replace b1300 := (b1300.later hw19).rowFar (Ne.symm n2_1300) ((Us r56).toArray)
          replace b1301 := (b1301.later hw19).rowFar (Ne.symm n2_1301) ((Us r56).toArray)
          replace b14 := (b14.later hw19).rowFar (Ne.symm n2_14) ((Us r56).toArray)
          replace b2 := c19
          replace hT := (hT.below hw19).row (g := g2) (by have := hw0; omega) ((Us r56).toArray)
          replace hU := up_row (hU.step hw19) q2 ((Us r56).toArray)
          clear hw19 c19
          generalize w19.setRow g2 ((Us r56).toArray) = W19 at *
          refine l_assign (.int .i64 0) rfl rfl rfl rfl rfl ?_
          refine l_nil ?_
          refine hK _ _ ?_
          refine c_ret (k_ret_row2 g2 _ rfl rfl rfl b2 Tryd.underlying29 rfl (size_P v56.len) ⟨.inl ⟨_, _, v56, dec_enc hb (s := 1) (by rw [← hodd]; exact hle2) hpo, rfl⟩, hU⟩)
      · rw [decide_eq_false hodd]
        refine c_cond false rfl ?_
        rw [if_neg (by decide)]
        refine c_skip ?_
        refine hK0 _ _ ?_
        clear hK0 K0
        have hp0 : decide (x.val % 2 = 1) = false := decide_eq_false (by omega)
        have h00 : hi / 128 = 0 := by omega
        refine c_seq fun K0 hK0 => ?_
        refine c_seq fun K hK => ?_
        refine c_qF ?_
        refine f_el g14 0 v39.len rfl rfl rfl rfl rfl (fun _ h1 => (h1.blk b14).range) ?_
        refine f_call #[.agg (Us r39).toArray] (.bool (decide ((x).val % 2 = 1))) rfl rfl rfl own_odd (fun w1 _ => odd_f v39 w1) rfl rfl ?_
        refine f_move (.bool false) rfl rfl rfl rfl rfl ?_
        refine f_neqb (decide ((x).val % 2 = 1)) false false rfl rfl rfl rfl rfl rfl (by rw [hp0]; rfl) ?_
        refine f_end fun w17 hw17 => hK _ _ ?_
        clear hK K
        replace b1 := b1.later hw17
        replace b2 := b2.later hw17
        replace b1100 := b1100.later hw17
        replace b1300 := b1300.later hw17
        replace b1301 := b1301.later hw17
        replace b14 := b14.later hw17
        replace hT := hT.below hw17
        replace hU := hU.step hw17
        refine c_cond false rfl ?_
        rw [if_neg (by decide)]
        refine c_skip ?_
        refine hK0 _ _ ?_
        clear hK0 K0
        refine c_seq fun K hK => ?_
        refine c_tF 3 ?_
        refine f_el g14 0 v39.len rfl rfl rfl rfl rfl (fun _ h1 => (h1.blk b14).range) ?_
        refine f_el g1100 0 v20.len rfl rfl rfl rfl rfl (fun _ h1 => (h1.blk b1100).range) ?_
        refine f_us #[.agg (Us r39).toArray, .agg (Us r20).toArray] (QB · ⟨x, y⟩) rfl rfl rfl own_at (fun w1 h1 => at_f v39 v20 hon w1) rfl rfl fun r56 v56 => ?_
        refine f_set g2 _ ((Us r56).toArray) rfl rfl rfl rfl rfl b2 (size_P v56.len) ((us_size pz_len).trans (us_size v56.len).symm) (Us_oneA _) fun w18 hw18 c18 => ?_
        replace b1 := (b1.later hw18).rowFar n1_2 ((Us r56).toArray)
        replace b1100 := (b1100.later hw18).rowFar (Ne.symm n2_1100) ((Us r56).toArray)
        replace b1300 := (b1300.later hw18).rowFar (Ne.symm n2_1300) ((Us r56).toArray)
        replace b1301 := (b1301.later hw18).rowFar (Ne.symm n2_1301) ((Us r56).toArray)
        replace b14 := (b14.later hw18).rowFar (Ne.symm n2_14) ((Us r56).toArray)
        replace b2 := c18
        replace hT := (hT.below hw18).row (g := g2) (by have := hw0; omega) ((Us r56).toArray)
        replace hU := up_row (hU.step hw18) q2 ((Us r56).toArray)
        clear hw18 c18
        generalize w18.setRow g2 ((Us r56).toArray) = W18 at *
        refine l_assign (.int .i64 0) rfl rfl rfl rfl rfl ?_
        refine l_nil ?_
        refine hK _ _ ?_
        refine c_ret (k_ret_row2 g2 _ rfl rfl rfl b2 Tryd.underlying29 rfl (size_P v56.len) ⟨.inl ⟨_, _, v56, dec_enc hb (s := 0) (by rw [← h00]; exact hle2) hev, rfl⟩, hU⟩)
    · have hno : ¬ ∃ A, Ed.On dd A ∧ encP A = b := by
        rintro ⟨A, hA, hAb⟩
        obtain ⟨e1, _⟩ := dec_y hle2 hAb
        exact hnone A.x (by rw [← e1]; exact hA)
      refine f_call #[.agg (Us r33).toArray, .agg (Us r38).toArray] (.tuple #[.agg (Us zl).toArray, .bool false]) rfl rfl rfl own_root3 (fun w1 h1 => hRoot w1 (hT.below h1)) rfl rfl ?_
      refine f_move (.tuple #[.agg (Us zl).toArray, .bool false]) rfl rfl rfl rfl rfl ?_
      refine f_extract (.agg (Us zl).toArray) rfl rfl rfl rfl rfl rfl ?_
      refine f_extract (.bool false) rfl rfl rfl rfl rfl rfl ?_
      refine f_tupEnd (Us zl).toArray (.bool false) rfl rfl (fun _ => rfl) (fun _ => rfl) (us_size (l := zl) rfl |>.trans (us_size zl_len).symm) (size_E zl_len) (Us_oneA _) fun g14 W14 hg14 hw14 b14 => ?_
      have q14 : w.heap.size ≤ g14 := Nat.le_trans hU.size hg14
      have n1_14 : g1 ≠ g14 := by have := b1.lt; omega
      have n2_14 : g2 ≠ g14 := by have := b2.lt; omega
      have n1100_14 : g1100 ≠ g14 := by have := b1100.lt; omega
      have n1300_14 : g1300 ≠ g14 := by have := b1300.lt; omega
      have n1301_14 : g1301 ≠ g14 := by have := b1301.lt; omega
      replace b1 := b1.later hw14
      replace b2 := b2.later hw14
      replace b1100 := b1100.later hw14
      replace b1300 := b1300.later hw14
      replace b1301 := b1301.later hw14
      replace hT := hT.below hw14
      replace hU := hU.step hw14
      refine k_sub (E' := [(1, .pointer (some ⟨g1, 0, none⟩)), (2, .pointer (some ⟨g2, 0, none⟩)), (3, .int .i64 0), (4, .bool (decide (hi / 128 = 1))), (5, .pointer (some ⟨g1100, 0, none⟩)), (6, .bool false), (9, .pointer (some ⟨g14, 0, none⟩))]) ⟨rfl, rfl, rfl, rfl, rfl, rfl, rfl, trivial⟩ ?_
      refine hK _ _ ?_
      clear hK K
      refine c_seq fun K0 hK0 => ?_
      refine c_seq fun K hK => ?_
      refine c_qF ?_
      refine f_move (.bool false) rfl rfl rfl rfl rfl ?_
      refine f_not false true rfl rfl rfl rfl rfl rfl ?_
      refine f_end fun w15 hw15 => hK _ _ ?_
      clear hK K
      replace b1 := b1.later hw15
      replace b2 := b2.later hw15
      replace b1100 := b1100.later hw15
      replace b1300 := b1300.later hw15
      replace b1301 := b1301.later hw15
      replace b14 := b14.later hw15
      replace hT := hT.below hw15
      replace hU := hU.step hw15
      refine c_cond true rfl ?_
      rw [if_pos rfl]
      refine c_seq fun K2 hK2 => ?_
      refine c_tF 1 ?_
      refine f_build [] (Us pz).toArray rfl rfl rfl rfl rfl builtP0 ?_
      refine f_set g2 _ ((Us pz).toArray) rfl rfl rfl rfl rfl b2 (size_P pz_len) ((us_size pz_len).trans (us_size pz_len).symm) (Us_oneA _) fun w16 hw16 c16 => ?_
      replace b1 := (b1.later hw16).rowFar n1_2 ((Us pz).toArray)
      replace b1100 := (b1100.later hw16).rowFar (Ne.symm n2_1100) ((Us pz).toArray)
      replace b1300 := (b1300.later hw16).rowFar (Ne.symm n2_1300) ((Us pz).toArray)
      replace b1301 := (b1301.later hw16).rowFar (Ne.symm n2_1301) ((Us pz).toArray)
      replace b14 := (b14.later hw16).rowFar (Ne.symm n2_14) ((Us pz).toArray)
      replace b2 := c16
      replace hT := (hT.below hw16).row (g := g2) (by have := hw0; omega) ((Us pz).toArray)
      replace hU := up_row (hU.step hw16) q2 ((Us pz).toArray)
      clear hw16 c16
      generalize w16.setRow g2 ((Us pz).toArray) = W16 at *
      refine l_assign (.int .i64 50) rfl rfl rfl rfl rfl ?_
      refine l_nil ?_
      refine hK2 _ _ ?_
      refine c_ret (k_then_ret (k_ret_row2 g2 _ rfl rfl rfl b2 Tryd.underlying29 rfl (size_P pz_len) ⟨.inr ⟨hno, rfl⟩, hU⟩))
  · have hno := hng hg
    have hNew : ∀ w1, Calls Tryd.prog 32 #[.agg (By (cutb b)).toArray] w1 fun e w' => e = .returned (.tuple #[.agg (Us zl).toArray, .bool false]) ∧ Below w1.heap.size w1 w' := fun w1 => (new_f hcl w1).mono fun e w' ⟨h, hw⟩ => by
      rcases h with ⟨h, _⟩ | ⟨_, h⟩
      · rw [hgc, decide_eq_false hg] at h; cases h
      · exact ⟨h, hw⟩
    refine c_newF 5 [nvE 5] (by decide) ⟨⟨rfl, rfl, rfl, rfl, by kernel_rfl⟩, trivial⟩ ?_
    refine f_by g1 0 hcl rfl rfl rfl rfl rfl (fun _ h1 => (h1.blk b1).range) ?_
    refine f_call #[.agg (By (cutb b)).toArray] (.tuple #[.agg (Us zl).toArray, .bool false]) rfl rfl rfl own_elnew (fun w1 _ => hNew w1) rfl rfl ?_
    refine f_move (.tuple #[.agg (Us zl).toArray, .bool false]) rfl rfl rfl rfl rfl ?_
    refine f_extract (.agg (Us zl).toArray) rfl rfl rfl rfl rfl rfl ?_
    refine f_extract (.bool false) rfl rfl rfl rfl rfl rfl ?_
    refine f_new [.tmp 21] [(Us zl).toArray] ⟨rfl, trivial⟩ (by decide) ⟨⟨rfl, rfl, rfl⟩, rfl⟩ ⟨⟨rfl, rfl, size_E zl_len, Us_oneA _⟩, trivial⟩ fun f11 W11 hg11 hd11 hw11 hb11 => ?_
    have b1100 : Blk W11 (f11 0) 27 ((Us zl).toArray) := hb11.1
    clear hb11
    have q1100 : w.heap.size ≤ f11 0 := Nat.le_trans hU.size (hg11 0 (by decide))
    have n1_1100 : g1 ≠ f11 0 := by have := b1.lt; have := hg11 0 (by decide); omega
    have n2_1100 : g2 ≠ f11 0 := by have := b2.lt; have := hg11 0 (by decide); omega
    replace b1 := b1.later hw11
    replace b2 := b2.later hw11
    replace hT := hT.below hw11
    replace hU := hU.step hw11
    clear hg11 hd11 hw11
    generalize hf1100 : f11 0 = g1100 at *
    simp only [ptrs, hf1100]
    clear hf1100 f11
    refine l_assign (.bool false) rfl rfl rfl rfl rfl ?_
    refine l_nil ?_
    refine k_sub (E' := [(1, .pointer (some ⟨g1, 0, none⟩)), (2, .pointer (some ⟨g2, 0, none⟩)), (3, .int .i64 0), (4, .bool (decide (hi / 128 = 1))), (5, .pointer (some ⟨g1100, 0, none⟩)), (6, .bool false)]) ⟨rfl, rfl, rfl, rfl, rfl, rfl, trivial⟩ ?_
    refine hK _ _ ?_
    clear hK K
    refine c_seq fun K0 hK0 => ?_
    refine c_seq fun K hK => ?_
    refine c_qF ?_
    refine f_move (.bool false) rfl rfl rfl rfl rfl ?_
    refine f_not false true rfl rfl rfl rfl rfl rfl ?_
    refine f_end fun w12 hw12 => hK _ _ ?_
    clear hK K
    replace b1 := b1.later hw12
    replace b2 := b2.later hw12
    replace b1100 := b1100.later hw12
    replace hT := hT.below hw12
    replace hU := hU.step hw12
    refine c_cond true rfl ?_
    rw [if_pos rfl]
    refine c_seq fun K2 hK2 => ?_
    refine c_tF 1 ?_
    refine f_build [] (Us pz).toArray rfl rfl rfl rfl rfl builtP0 ?_
    refine f_set g2 _ ((Us pz).toArray) rfl rfl rfl rfl rfl b2 (size_P pz_len) ((us_size pz_len).trans (us_size pz_len).symm) (Us_oneA _) fun w13 hw13 c13 => ?_
    replace b1 := (b1.later hw13).rowFar n1_2 ((Us pz).toArray)
    replace b1100 := (b1100.later hw13).rowFar (Ne.symm n2_1100) ((Us pz).toArray)
    replace b2 := c13
    replace hT := (hT.below hw13).row (g := g2) (by have := hw0; omega) ((Us pz).toArray)
    replace hU := up_row (hU.step hw13) q2 ((Us pz).toArray)
    clear hw13 c13
    generalize w13.setRow g2 ((Us pz).toArray) = W13 at *
    refine l_assign (.int .i64 50) rfl rfl rfl rfl rfl ?_
    refine l_nil ?_
    refine hK2 _ _ ?_
    refine c_ret (k_then_ret (k_ret_row2 g2 _ rfl rfl rfl b2 Tryd.underlying29 rfl (size_P pz_len) ⟨.inr ⟨hno, rfl⟩, hU⟩))
end Go.Proofs.YtgmiaaapaiccdaaDoor
/-
  STEPS OF THE CURVE's LAWS over frames by what is known of them: guarded operations, choices, '==' of what is equal; points of both makes; first.
-/
namespace Go.Proofs.YtgmiaaapaiccdaaDoor
open Go.RowKit Go.IntWalk Nums

section
variable {P : Program} {ops : Array Oper} {C0 : World → Prop} {Q : Act → Prop} {N : Nat} {E : List (Nat × Value)} {o : Oper} {rest : List Oper} {k : Nat}
/-- A guarded operation whose guard is true. -/
theorem f_guard {j t : Nat} (hgd : o.guard = some (j, true)) (hj : (ops[j]?).bind (·.dst) = some t) (hN : Nat.blt t N = true) (ht : look E t = some (.bool true)) (h : bF P ops C0 Q ({ o with guard := none } :: rest) N E) : bF P ops C0 Q (o :: rest) N E := fun a ha => by
  have h1 := h a ha
  have htN : t < a.tmps.size := by rw [ha.size]; simpa using hN
  have h2 := ha.get t _ ht
  have h3 : a.tmps[t]? = some (.bool true) := by
    simp only [Act.eval, Array.getD_eq_getD_getElem?] at h2
    rw [Array.getElem?_eq_getElem htN] at h2 ⊢
    simpa using h2
  have hw : Region.wanted o (yielded ops a.tmps) = true := by
    unfold Region.wanted
    rw [hgd]
    simp [yielded, hj, h3]
  obtain ⟨dst, op, ty, pos, af, gd⟩ := o
  unfold wpB at h1 ⊢
  rw [if_pos hw]
  rw [if_pos (by rfl)] at h1
  exact h1
/-- A choice whose condition is true. -/
theorem f_pick {c x y : Operand} (v : Value) (hg : o.guard = none) (hd : o.dst = some k) (hk : Nat.blt k N = true) (ho : o.op = .pick c x y) (hc : ev E c = some (.bool true)) (hx : ev E x = some v) (hn : bF P ops C0 Q rest N ((k, v) :: E)) : bF P ops C0 Q (o :: rest) N E :=
  f_val _ hg hd hk (fun a ha w _ => by
    have h1 := ha.eval hc
    have h2 := ha.eval hx
    unfold execOp
    simp only [ho, h1, h2]
    go_simp) hn
end
section
variable {ops : Array Oper} {C0 : World → Prop} {Q : Act → Prop} {N : Nat} {E : List (Nat × Value)} {o : Oper} {rest : List Oper} {k : Nat}
/-- Two rows of bytes that are equal. -/
theorem f_eqs {t t' : TypeId} {x y : Operand} (l m : List UInt8) (hg : o.guard = none) (hd : o.dst = some k) (hk : Nat.blt k N = true) (ho : o.op = .binOp .eql t x y t') (ht : t = 22) (hx : ev E x = some (.agg (By l).toArray)) (hy : ev E y = some (.agg (By m).toArray))
    (hl : l.length = 32) (hlm : l = m) (hn : bF Tryd.prog ops C0 Q rest N ((k, .bool true) :: E)) : bF Tryd.prog ops C0 Q (o :: rest) N E := by
  subst ht hlm
  exact f_eq (By l).toArray (By l).toArray hg hd hk ho hx hy (by kernel_rfl) (fun w => by rw [equal32 l l hl hl w]; simp) hn
/-- Two rows of bytes, by '=='. -/
theorem f_eqd {t t' : TypeId} {x y : Operand} (l m : List UInt8) (hg : o.guard = none) (hd : o.dst = some k) (hk : Nat.blt k N = true) (ho : o.op = .binOp .eql t x y t') (ht : t = 22) (hx : ev E x = some (.agg (By l).toArray)) (hy : ev E y = some (.agg (By m).toArray))
    (hl : l.length = 32) (hm : m.length = 32) (hn : bF Tryd.prog ops C0 Q rest N ((k, .bool (decide (l = m))) :: E)) : bF Tryd.prog ops C0 Q (o :: rest) N E := by
  subst ht
  exact f_eq (By l).toArray (By m).toArray hg hd hk ho hx hy (by kernel_rfl) (fun w => equal32 l m hl hm w) hn
/-- '!=' of two rows of bytes that are equal. -/
theorem f_nes {t t' : TypeId} {x y : Operand} (l m : List UInt8) (hg : o.guard = none) (hd : o.dst = some k) (hk : Nat.blt k N = true) (ho : o.op = .binOp .neq t x y t') (ht : t = 22) (hx : ev E x = some (.agg (By l).toArray)) (hy : ev E y = some (.agg (By m).toArray))
    (hl : l.length = 32) (hlm : l = m) (hn : bF Tryd.prog ops C0 Q rest N ((k, .bool false) :: E)) : bF Tryd.prog ops C0 Q (o :: rest) N E := by
  subst ht hlm
  exact f_val _ hg hd hk (fun a ha w _ => by
    have h1 := ha.eval hx
    have h2 := ha.eval hy
    have he := equal32 l l hl hl w
    have hd0 : Tryd.prog.eqGuardType Tryd.prog.depth 22 = false := by kernel_rfl
    rw [decide_eq_true rfl] at he
    unfold execOp
    simp only [ho, h1, h2, Sem.run_bind, run_eqGuard_agg (hm := hd0), Result.andThen_ok, binOp, Op.equal, Op.maxDepth, he, Sem.run_pure]
    rfl) hn
theorem f_eqE {x y : Operand} {t t' : TypeId} (m n : Int) (q : Bool) (hg : o.guard = none) (hd : o.dst = some k) (hk : Nat.blt k N = true) (ho : o.op = .binOp .eql t x y t') (ht : t = 30) (hx : ev E x = some (.int .i64 m)) (hy : ev E y = some (.int .i64 n))
    (hr : decide (m = n) = q) (hn : bF Tryd.prog ops C0 Q rest N ((k, .bool q) :: E)) : bF Tryd.prog ops C0 Q (o :: rest) N E := by
  subst ht
  exact f_val _ hg hd hk (fun a ha w _ => by
    have h1 := ha.eval hx
    have h2 := ha.eval hy
    subst hr
    unfold execOp
    simp only [ho, h1, h2]
    by_cases e : m = n <;> go_simp) hn
theorem f_eqb {x y : Operand} {t : TypeId} (m n q : Bool) (hg : o.guard = none) (hd : o.dst = some k) (hk : Nat.blt k N = true) (ho : o.op = .binOp .eql 4 x y t) (hx : ev E x = some (.bool m)) (hy : ev E y = some (.bool n))
    (hr : (m == n) = q) (hn : bF Tryd.prog ops C0 Q rest N ((k, .bool q) :: E)) : bF Tryd.prog ops C0 Q (o :: rest) N E :=
  f_val _ hg hd hk (fun a ha w _ => by
    have h1 := ha.eval hx
    have h2 := ha.eval hy
    subst hr
    unfold execOp
    simp only [ho, h1, h2]
    cases m <;> cases n <;> go_simp) hn
end
theorem own_chash : Own 14 := fun _ _ => by go_simp
theorem own_csmall : Own 15 := fun _ _ => by go_simp
theorem own_cmul : Own 19 := fun _ _ => by go_simp
theorem own_cdecode : Own 11 := fun _ _ => by go_simp
theorem own_lfirst : Own 10 := fun _ _ => by go_simp

/-! ### Known bytes -/
def oneB : List UInt8 := [1, 0, 0, 0, 0, 0, 0, 0, 0, 0, 0, 0, 0, 0, 0, 0, 0, 0, 0, 0, 0, 0, 0, 0, 0, 0, 0, 0, 0, 0, 0, 0]
def twoB : List UInt8 := [2, 0, 0, 0, 0, 0, 0, 0, 0, 0, 0, 0, 0, 0, 0, 0, 0, 0, 0, 0, 0, 0, 0, 0, 0, 0, 0, 0, 0, 0, 0, 0]
def eightB : List UInt8 := [8, 0, 0, 0, 0, 0, 0, 0, 0, 0, 0, 0, 0, 0, 0, 0, 0, 0, 0, 0, 0, 0, 0, 0, 0, 0, 0, 0, 0, 0, 0, 0]
theorem builtOne : Tryd.prog.built 22 [(0, .int .u8 1)] = some (By oneB).toArray := by kernel_rfl
theorem builtTwo : Tryd.prog.built 22 [(0, .int .u8 2)] = some (By twoB).toArray := by kernel_rfl
theorem builtEight : Tryd.prog.built 22 [(0, .int .u8 8)] = some (By eightB).toArray := by kernel_rfl
theorem enc_zero : encP Ed.zero = oneB := by decide +kernel
theorem enc_base : encP base = byB := by decide +kernel
theorem le_two : le twoB = 2 := by decide +kernel
theorem le_eight : le eightB = 8 := by decide +kernel
/-- No point's y is 2. -/
def w2n : Nat := 43446857792565604583783486763960003913525092658904367978015407342224011949000
theorem w2_eq : ww (fof 2) = fof w2n := by
  unfold ww
  have h : (fof 2 * fof 2 * dd + 1) * fof 53079649009960600002451490590882637255598359108181644005824330450045713862966 = 1 := by
    rw [← fof_one]
    unfold dd
    rw [← fof_mul, ← fof_mul, ← fof_add, ← fof_mul]
    exact fof_eq (by decide +kernel)
  rw [finv_of prime_p h, ← fof_mul, ← fof_one, ← fof_sub (by decide), ← fof_mul]
  exact fof_eq (by decide +kernel)
theorem w2_pow : fpow (ww (fof 2)) ph ≠ 1 := by
  rw [w2_eq, fof_pm 256 (by decide), ← fof_one]
  intro h
  have := congrArg Fin.val h
  revert this
  decide +kernel
theorem w2_ne : ww (fof 2) ≠ 0 := by
  rw [w2_eq]
  decide +kernel
theorem no_two : ¬ ∃ A, Ed.On dd A ∧ encP A = twoB := by
  rintro ⟨A, hA, h⟩
  have hle : le twoB = (fof 2).val + 57896044618658097711785492504343953926634992332820282019728792003956564819968 * 0 := by decide +kernel
  obtain ⟨e, _⟩ := dec_y hle h
  have h2 : Ed.On dd ⟨A.x, fof 2⟩ := by rw [← e]; exact hA
  exact no_root w2_ne w2_pow A.x ((on_iff _ _).1 h2)

/-! ### Decode, where the bytes are known -/
theorem cdec_pt {A : Ed.Pt p} (hA : Ed.On dd A) (w : World) (hT : Tw w) : Calls Tryd.prog 11 #[.agg (By (encP A)).toArray] w fun e w' => ∃ v, e = .returned v ∧ (∃ l, QB l A ∧ v = .tuple #[.agg (Us l).toArray, .int .i64 0]) ∧ Below w.heap.size w w' :=
  (cdecode_f (encP_len A) w hT).mono fun e w' ⟨h, hw⟩ => by
    rcases h with ⟨l, B, hl, hB, he⟩ | ⟨h, _⟩
    · have : B = A := encP_inj hl.on hA hB
      subst this
      exact ⟨_, he, ⟨l, hl, rfl⟩, hw⟩
    · exact absurd ⟨A, hA, rfl⟩ h
theorem cdec_no {b : List UInt8} (hb : b.length = 32) (hn : ¬ ∃ A, Ed.On dd A ∧ encP A = b) (w : World) (hT : Tw w) : Calls Tryd.prog 11 #[.agg (By b).toArray] w fun e w' => e = .returned (.tuple #[.agg (Us pz).toArray, .int .i64 50]) ∧ Below w.heap.size w w' :=
  (cdecode_f hb w hT).mono fun e w' ⟨h, hw⟩ => by
    rcases h with ⟨l, B, hl, hB, he⟩ | ⟨_, he⟩
    · exact absurd ⟨B, hl.on, hB⟩ hn
    · exact ⟨he, hw⟩
end Go.Proofs.YtgmiaaapaiccdaaDoor
/-
  THE CURVE's LAWS: first.
-/
namespace Go.Proofs.YtgmiaaapaiccdaaDoor
open Go.RowKit Go.IntWalk Nums

set_option maxRecDepth 100000 in
set_option maxHeartbeats 1000000 in
theorem lfirst_f  (w : World) (hT : Tw w) :
    Calls Tryd.prog 10 #[] w fun e w' => e = .returned (.bool true) ∧ Below w.heap.size w w' := by
  refine calls_F (vs := []) 34 Tryd.func10 rfl (by rw [Tryd.ntmps10]; rfl) ?_
  have hw0 := hT.lt
  have hU := Up.refl w
  refine c_seq fun K hK => ?_
  refine c_lit ?_
  refine l_assign (.bool false) rfl rfl rfl rfl rfl ?_
  refine l_nil ?_
  refine hK _ _ ?_
  clear hK K
  refine c_seq fun K hK => ?_
  refine c_newF 2 [nvH 1] (by decide) ⟨⟨rfl, rfl, rfl, rfl, by kernel_rfl⟩, trivial⟩ ?_
  refine f_us #[] (QB · base) rfl rfl rfl own_cbase (fun w1 h1 => cbase_f w1) rfl rfl fun r4 v4 => ?_
  refine f_call #[.agg (Us r4).toArray] (.agg (By (encP base)).toArray) rfl rfl rfl own_chash (fun w1 h1 => chash_f (.inr v4) w1 (hT.below h1)) rfl rfl ?_
  refine f_new [.tmp 5] [(By ((encP base))).toArray] ⟨rfl, trivial⟩ (by decide) ⟨⟨rfl, rfl, rfl⟩, rfl⟩ ⟨⟨rfl, (len_by (l := List.replicate 32 0) rfl).trans (len_by ((encP_len _))).symm, size_H ((encP_len _)), By_oneA _⟩, trivial⟩ fun f1 W1 hg1 hd1 hw1 hb1 => ?_
  have b100 : Blk W1 (f1 0) 22 ((By ((encP base))).toArray) := hb1.1
  clear hb1
  have q100 : w.heap.size ≤ f1 0 := Nat.le_trans hU.size (hg1 0 (by decide))
  replace hT := hT.below hw1
  replace hU := hU.step hw1
  clear hg1 hd1 hw1
  generalize hf100 : f1 0 = g100 at *
  simp only [ptrs, hf100]
  clear hf100 f1
  refine l_nil ?_
  refine k_sub (E' := [(0, .bool false), (1, .pointer (some ⟨g100, 0, none⟩))]) ⟨rfl, rfl, trivial⟩ ?_
  refine hK _ _ ?_
  clear hK K
  refine c_seq fun K hK => ?_
  refine c_newF 5 [nvP 2] (by decide) ⟨⟨rfl, rfl, rfl, rfl, by kernel_rfl⟩, trivial⟩ ?_
  refine f_build [(0, .int .u8 2)] (By twoB).toArray rfl rfl rfl rfl rfl builtTwo ?_
  refine f_call #[.agg (By twoB).toArray] (.tuple #[.agg (Us pz).toArray, .int .i64 50]) rfl rfl rfl own_cdecode (fun w1 h1 => cdec_no rfl no_two w1 (hT.below h1)) rfl rfl ?_
  refine f_move (.tuple #[.agg (Us pz).toArray, .int .i64 50]) rfl rfl rfl rfl rfl ?_
  refine f_extract (.agg (Us pz).toArray) rfl rfl rfl rfl rfl rfl ?_
  refine f_extract (.int .i64 50) rfl rfl rfl rfl rfl rfl ?_
  refine f_new [.tmp 9] [(Us pz).toArray] ⟨rfl, trivial⟩ (by decide) ⟨⟨rfl, rfl, rfl⟩, rfl⟩ ⟨⟨rfl, rfl, size_P pz_len, Us_oneA _⟩, trivial⟩ fun f2 W2 hg2 hd2 hw2 hb2 => ?_
  have b200 : Blk W2 (f2 0) 29 ((Us pz).toArray) := hb2.1
  clear hb2
  have q200 : w.heap.size ≤ f2 0 := Nat.le_trans hU.size (hg2 0 (by decide))
  have n100_200 : g100 ≠ f2 0 := by have := b100.lt; have := hg2 0 (by decide); omega
  replace b100 := b100.later hw2
  replace hT := hT.below hw2
  replace hU := hU.step hw2
  clear hg2 hd2 hw2
  generalize hf200 : f2 0 = g200 at *
  simp only [ptrs, hf200]
  clear hf200 f2
  refine l_assign (.int .i64 50) rfl rfl rfl rfl rfl ?_
  refine l_nil ?_
  refine hK _ _ ?_
  clear hK K
  rw [enc_base] at b100
  refine c_seq fun K hK => ?_
  refine c_qF ?_
  refine f_ix _ 0 ⟨g100, 0, none⟩ rfl rfl rfl rfl rfl rfl (ixH _ 0 (by decide)) ?_
  refine f_load ⟨g100, 0, none⟩ (.int .u8 88) (by decide) rfl rfl rfl rfl rfl (fun _ h1 => ((h1.blk b100).cell 0).trans rfl) ?_
  refine f_eqlB 88 88 true rfl rfl rfl rfl rfl rfl (by decide) ?_
  refine f_move (.bool true) rfl rfl rfl rfl rfl ?_
  refine f_guard rfl rfl rfl rfl ?_
  refine f_ix _ 1 ⟨g100, 1, none⟩ rfl rfl rfl rfl rfl rfl (ixH _ 1 (by decide)) ?_
  refine f_guard rfl rfl rfl rfl ?_
  refine f_load ⟨g100, 1, none⟩ (.int .u8 102) (by decide) rfl rfl rfl rfl rfl (fun _ h1 => ((h1.blk b100).cell 1).trans rfl) ?_
  refine f_guard rfl rfl rfl rfl ?_
  refine f_eqlB 102 102 true rfl rfl rfl rfl rfl rfl (by decide) ?_
  refine f_pick (.bool true) rfl rfl rfl rfl rfl rfl ?_
  refine f_move (.bool true) rfl rfl rfl rfl rfl ?_
  refine f_guard rfl rfl rfl rfl ?_
  refine f_ix _ 31 ⟨g100, 31, none⟩ rfl rfl rfl rfl rfl rfl (ixH _ 31 (by decide)) ?_
  refine f_guard rfl rfl rfl rfl ?_
  refine f_load ⟨g100, 31, none⟩ (.int .u8 102) (by decide) rfl rfl rfl rfl rfl (fun _ h1 => ((h1.blk b100).cell 31).trans rfl) ?_
  refine f_guard rfl rfl rfl rfl ?_
  refine f_eqlB 102 102 true rfl rfl rfl rfl rfl rfl (by decide) ?_
  refine f_pick (.bool true) rfl rfl rfl rfl rfl rfl ?_
  refine f_move (.bool true) rfl rfl rfl rfl rfl ?_
  refine f_guard rfl rfl rfl rfl ?_
  refine f_move (.int .i64 50) rfl rfl rfl rfl rfl ?_
  refine f_guard rfl rfl rfl rfl ?_
  refine f_eqE 50 50 true rfl rfl rfl rfl rfl rfl rfl (by decide) ?_
  refine f_pick (.bool true) rfl rfl rfl rfl rfl rfl ?_
  refine f_move (.bool true) rfl rfl rfl rfl rfl ?_
  refine f_guard rfl rfl rfl rfl ?_
  refine f_build [] (Us pz).toArray rfl rfl rfl rfl rfl builtP0 ?_
  refine f_guard rfl rfl rfl rfl ?_
  refine f_call #[.agg (Us pz).toArray] (.agg (By (encP Ed.zero)).toArray) rfl rfl rfl own_chash (fun w1 h1 => chash_f (.inl ⟨rfl, rfl⟩) w1 (hT.below h1)) rfl rfl ?_
  refine f_guard rfl rfl rfl rfl ?_
  refine f_build [(0, .int .u8 1)] (By oneB).toArray rfl rfl rfl rfl rfl builtOne ?_
  refine f_guard rfl rfl rfl rfl ?_
  refine f_eqs ((encP Ed.zero)) oneB rfl rfl rfl rfl rfl rfl rfl ((encP_len _)) (enc_zero) ?_
  refine f_pick (.bool true) rfl rfl rfl rfl rfl rfl ?_
  refine f_assign (.bool true) rfl rfl rfl rfl rfl ?_
  refine f_end fun w3 hw3 => ?_
  replace b100 := b100.later hw3
  replace b200 := b200.later hw3
  replace hT := hT.below hw3
  replace hU := hU.step hw3
  refine hK _ _ ?_
  clear hK K
  exact c_ret fun a ha => bodyPost_ret (results_tmp rfl _ _ _) ha.defers ⟨congrArg Ending.returned (ha.get 0 _ rfl), hU⟩
end Go.Proofs.YtgmiaaapaiccdaaDoor
/-
  PLAIN NUMBERS of the curve's laws.
-/
namespace Go.Proofs.YtgmiaaapaiccdaaDoor
open Go.RowKit Nums

theorem order_mul (k : Nat) : Ed.mul dd LL (Ed.mul dd k base) = Ed.zero := by
  rw [Ed.mul_times good on_base, Nat.mul_comm, ← Ed.mul_times good on_base, order, Ed.mul_zero good]
theorem small_iff (k : Nat) : (decide (encP (Ed.mul dd 8 (Ed.mul dd k base)) = encP Ed.zero) == decide (encP (Ed.mul dd k base) = oneB)) = true := by
  have hon := Ed.on_mul good on_base k
  have h : encP (Ed.mul dd 8 (Ed.mul dd k base)) = encP Ed.zero ↔ encP (Ed.mul dd k base) = oneB := by
    rw [← enc_zero]
    constructor
    · intro h
      have h8 := encP_inj (Ed.on_mul good hon 8) Ed.on_zero h
      exact congrArg encP (Ed.zero_of good hon (order_mul k) h8 (a := 5) (b := (LL * 5 - 1) / 8) (by decide))
    · intro h
      rw [encP_inj hon Ed.on_zero h, Ed.mul_zero good]
  rw [decide_eq_decide.2 h, beq_self_eq_true]
theorem cutb_neg (A : Ed.Pt p) : cutb (encP A) = cutb (encP (Ed.neg A)) := by
  have key : ∀ B : Ed.Pt p, le (cutb (encP B)) = B.y.val := fun B => by
    have h := le_cutb (encP_len B)
    rw [le_encP] at h
    unfold encN at h
    have h1 := B.y.isLt
    have h2 := p_lt
    omega
  apply le_inj (by rw [cutb_len (encP_len _), cutb_len (encP_len _)])
  rw [key, key]
  rfl
theorem By_cut (l : List UInt8) (_ : l.length = 32) : (By l).toArray.setIfInBounds 31 (.int .u8 (((l[31]!).toNat % 128 : Nat) : Int)) = (By (cutb l)).toArray := by rw [cutb, ← By_set, UInt8.toNat_ofNat_of_lt' (by show _ < 256; omega)]
theorem add_negL {A : Ed.Pt p} (hA : Ed.On dd A) : Ed.add dd (Ed.neg A) A = Ed.zero := by rw [Ed.add_comm, Ed.add_neg good hA]
theorem mul_two (A : Ed.Pt p) : Ed.mul dd (le twoB) A = Ed.add dd A A := by rw [le_two, Ed.mul_2 good]
/-- Multiples of the base point reckon modulo L. -/
theorem mul_ll (n : Nat) : Ed.mul dd (n % LL) base = Ed.mul dd n base := (Ed.mul_mod good on_base order n).symm
theorem ll_mod (n : Nat) : n % LL < LL := Nat.mod_lt _ (by decide)
theorem le_b32 (n : Nat) : le (Nums.bytes 32 (n % LL)) = n % LL := by
  rw [le_bytes, Nat.mod_eq_of_lt (Nat.lt_trans (ll_mod n) (by decide))]

/-! ### Points of small order -/
section
variable {n : Nat} [NeZero n]
theorem g_m1 (d : Fin n) : (-1 : Fin n) * -1 - 0 * 0 = 1 + d * 0 * 0 * -1 * -1 := by grind only
theorem g_p0 : (1 : Fin n) + 0 = 1 := by grind only
theorem g_s0 : (1 : Fin n) - 0 = 1 := by grind only
theorem g_11 : (1 : Fin n) * 1 = 1 := by grind only
theorem g_kx (d x y : Fin n) (h : x = 0 ∨ y = 0) : d * x * x * y * y = 0 := by
  rcases h with h | h <;> rw [h] <;> grind only
theorem g_y0 (d x : Fin n) (h : 0 * 0 - x * x = 1 + d * x * x * 0 * 0) : x * x = -1 := by grind only
theorem g_im (d x : Fin n) (h : x * x = -1) : 0 * 0 - x * x = 1 + d * x * x * 0 * 0 := by
  rw [h]
  grind only
theorem g_a : ((0 : Fin n) * -1 + -1 * 0) * 1 = 0 := by grind only
theorem g_b : ((-1 : Fin n) * -1 + 0 * 0) * 1 = 1 := by grind only
theorem g_c (x : Fin n) : (x * 0 + 0 * x) * 1 = 0 := by grind only
theorem g_d : ((0 : Fin n) * 0 + -1) * 1 = -1 := by grind only
end
theorem finv_one : finv (1 : F) = 1 := finv_of prime_p g_11
def m1 : Ed.Pt p := ⟨0, -1⟩
theorem on_m1 : Ed.On dd m1 := g_m1 dd
theorem kk_0 {A : Ed.Pt p} (h : A.x = 0 ∨ A.y = 0) : Ed.kk dd A A = 0 := g_kx dd A.x A.y h
theorem add_k0 {A : Ed.Pt p} (h : A.x = 0 ∨ A.y = 0) : Ed.add dd A A = ⟨(A.x * A.y + A.y * A.x) * 1, (A.y * A.y + A.x * A.x) * 1⟩ := by
  unfold Ed.add
  rw [kk_0 h, g_p0, g_s0, finv_one]
theorem dbl_m1 : Ed.add dd m1 m1 = Ed.zero := by
  rw [add_k0 (.inl rfl)]
  show (⟨(0 * -1 + -1 * 0) * 1, (-1 * -1 + 0 * 0) * 1⟩ : Ed.Pt p) = ⟨0, 1⟩
  rw [g_a, g_b]
theorem dbl_y0 {A : Ed.Pt p} (hA : Ed.On dd A) (hy : A.y = 0) : Ed.add dd A A = m1 := by
  have h : A.y * A.y - A.x * A.x = 1 + dd * A.x * A.x * A.y * A.y := hA
  rw [hy] at h
  rw [add_k0 (.inr hy), hy, g_y0 dd A.x h, g_c, g_d]
  rfl
theorem mul8 {A : Ed.Pt p} (hA : Ed.On dd A) : Ed.mul dd 8 A = Ed.add dd (Ed.add dd (Ed.add dd A A) (Ed.add dd A A)) (Ed.add dd (Ed.add dd A A) (Ed.add dd A A)) := by
  rw [show 8 = 4 + 4 from rfl, Ed.mul_add good hA, show 4 = 2 + 2 from rfl, Ed.mul_add good hA, Ed.mul_2 good]
theorem mul8_m1 : Ed.mul dd 8 m1 = Ed.zero := by rw [mul8 on_m1, dbl_m1, Ed.zero_add good, Ed.zero_add good]
theorem mul8_y0 {A : Ed.Pt p} (hA : Ed.On dd A) (hy : A.y = 0) : Ed.mul dd 8 A = Ed.zero := by rw [mul8 hA, dbl_y0 hA hy, dbl_m1, Ed.zero_add good]
def im0 : F := fof 19681161376707505956807079304988542015446066515923890162744021073123829784752
theorem im0_on : Ed.On dd ⟨im0, 0⟩ := by
  exact g_im dd im0 (by decide +kernel)
theorem im0_onN : Ed.On dd ⟨-im0, 0⟩ := Ed.on_neg im0_on
/-- The four byte strings. -/
def smB : Nat → List UInt8
  | 0 => oneB
  | 1 => List.replicate 32 0
  | 2 => List.replicate 31 0 ++ [128]
  | _ => 236 :: (List.replicate 30 255 ++ [127])
def smP : Nat → Ed.Pt p
  | 0 => Ed.zero
  | 1 => ⟨im0, 0⟩
  | 2 => ⟨-im0, 0⟩
  | _ => m1
theorem smP_on : ∀ k, Ed.On dd (smP k)
  | 0 => Ed.on_zero
  | 1 => im0_on
  | 2 => im0_onN
  | _ + 3 => on_m1
theorem smP_enc : ∀ k, encP (smP k) = smB k
  | 0 => enc_zero
  | 1 => by decide +kernel
  | 2 => by decide +kernel
  | _ + 3 => by
    show encP m1 = 236 :: (List.replicate 30 255 ++ [127])
    decide +kernel
theorem smP_8 : ∀ k, Ed.mul dd 8 (smP k) = Ed.zero
  | 0 => Ed.mul_zero good 8
  | 1 => mul8_y0 im0_on rfl
  | 2 => mul8_y0 im0_onN rfl
  | _ + 3 => mul8_m1
theorem add_sm {A : Ed.Pt p} (hA : Ed.On dd A) (k : Nat) : Ed.mul dd (le eightB) (Ed.add dd A (smP k)) = Ed.mul dd (le eightB) A := by
  rw [le_eight, Ed.mul_dist good hA (smP_on k), smP_8, Ed.add_zero good]
end Go.Proofs.YtgmiaaapaiccdaaDoor
/-
  FROM A WALK TO A LAW'S ROW: the arguments read behind the call as they read before; arrays of 32 bytes, opened.
-/
namespace Go.Proofs.YtgmiaaapaiccdaaDoor
open Go.ChangeShapes Go.WideShapes Go.ChangeAt Go.RowKit

theorem own : ownKnob Tryd.prog.godebug = none := by kernel_rfl
theorem laidOut : laidOutB Tryd.prog = true := by kernel_rfl

section
variable {H : Type} {enc : TypeId × Value → H} {W W' : World}

/-- All arguments at once. -/
theorem trodAll_below : ∀ {ts : List TypeId} {vs : List Value} {ds : List (DataW H)} {p : List MemPlace}, (∀ t ∈ ts, Tryd.prog.readableRec t = true ∧ t < Tryd.prog.types.size) →
    DataW.TrodAll enc Tryd.prog W 0 (fun _ => true) true ts vs ds p → Below W.heap.size W W' → (∀ x ∈ p, x.block < W.heap.size) → DataW.TrodAll enc Tryd.prog W' 0 (fun b => decide (b < W.heap.size)) true ts vs ds p
  | [], _, _, _, _, h, _, _ => by
    obtain ⟨rfl, rfl, rfl⟩ := trodAll_nil h
    exact trodAll_mk0
  | t :: ts, _, _, _, hts, h, hb, hlt => by
    obtain ⟨v, vs', d, ds', p, q, rfl, rfl, rfl, h0, h1⟩ := trodAll_cons h
    obtain ⟨hr, hz⟩ := hts t (by simp)
    exact trodAll_cons_mk (Below.trod laidOut hr hz h0 hb (fun x hx => hlt x (by simp [hx]))) (trodAll_below (fun u hu => hts u (by simp [hu])) h1 hb (fun x hx => hlt x (by simp [hx])))

theorem law_post {f : Func} {s : ChangeSpec} {args : Array Value} {ds gs : List (DataW H)} {before : List MemPlace} (hf : f.resultTypes = #[4]) (hvars : s.vars = [])
    (hts : ∀ t ∈ f.params.toList, Tryd.prog.readableRec t = true ∧ t < Tryd.prog.types.size)
    (hW : DataW.Whole enc Tryd.prog f.params.toList s.vars false W args.toList ds gs before) (hs : s.fn H (ds ++ gs) = { results := [.lit (.bool true)], args := ds }) (hb : Below W.heap.size W W') :
    s.post enc Tryd.prog f false true false false W args (.bool true) W' := by
  have hW' := hW
  obtain ⟨p, q, hA, hV, rfl, _, _⟩ := hW
  rw [hvars] at hV
  obtain ⟨rfl, rfl⟩ := trodVars_none hV
  have hlt : ∀ x ∈ p, x.block < W.heap.size := fun x hx => hW'.lt x (by simp [hx])
  refine ⟨ds, [], p ++ [], [], p, [], hW', ?_, ?_, ?_, hb.frame _, fun h => by cases h⟩
  · rw [hs, hf]
    exact trodAll_mk1 (shut_bool Tryd.underlying4 true)
  · rw [hs]
    exact trodAll_below hts hA hb hlt
  · rw [hs, hvars]
    rfl
end

theorem cells8 : Tryd.prog.cellsOf 5 = 1 := by kernel_rfl
theorem cells_h : Tryd.prog.cellsOf 22 = 32 := by kernel_rfl
theorem one_of {l : List Value} {i : Nat} {v : Value} (h : (l.drop (i * 1)).take 1 = [v]) : l[i]? = some v := by
  rw [Nat.mul_one] at h
  have h1 : ((l.drop i).take 1)[0]? = some v := by rw [h]; rfl
  rw [List.getElem?_take, if_pos (by omega), List.getElem?_drop] at h1
  simpa using h1

/-! ### Arrays of 32 bytes -/
theorem okWide_array {P : Program} {w : World} {r : Reach} {base n : Nat} {t e : TypeId} {v : Value} (ht : P.underlying t = some (.array n e)) (h : Value.okWide P w r base t v) : ∃ cs, v = .agg cs ∧ cs.size = P.cellsOf t := by
  simp only [Value.okWide, ht] at h
  obtain ⟨cs, h1, h2, _⟩ := h
  exact ⟨cs, h1, h2⟩

theorem by_of {cs : List Value} (hl : cs.length = 32) (h : ∀ i, i < 32 → ∃ n : Int, cs[i]? = some (.int .u8 n) ∧ 0 ≤ n ∧ n < 256) : ∃ l : List UInt8, l.length = 32 ∧ cs = By l := by
  refine ⟨cs.map fun v => match v with | .int _ n => UInt8.ofNat n.toNat | _ => 0, by simp [hl], ?_⟩
  apply List.ext_getElem (by simp [By])
  intro i h1 h2
  obtain ⟨n, hn, h0, h3⟩ := h i (by omega)
  have e : cs[i] = .int .u8 n := by
    have := List.getElem?_eq_getElem h1
    rw [hn] at this
    exact (Option.some.inj this).symm
  simp only [By, List.getElem_map, e]
  congr 1
  rw [UInt8.toNat_ofNat']
  omega

set_option maxRecDepth 20000 in
theorem open_hash {H : Type} {enc : TypeId × Value → H} {W : World} {base : Nat} {v : Value} {d : DataW H} {p : List MemPlace} (hv : Value.okWide Tryd.prog W .any base 22 v) (h : DataW.Trod enc Tryd.prog W 0 (fun _ => true) true 22 v d p) :
    ∃ l : List UInt8, l.length = 32 ∧ v = .agg (By l).toArray := by
  obtain ⟨cs, rfl, _⟩ := okWide_array Tryd.underlying22 hv
  obtain ⟨fuel, hf⟩ := h
  obtain ⟨xs, m, rfl, _, hlen, hn, hel⟩ := DataW.trod_array Tryd.underlying22 hf
  rw [cells_h] at hlen
  obtain ⟨l, hl, e⟩ := by_of hlen (fun i hi => by
    have h0 := hel i hi
    rw [cells8] at h0
    obtain ⟨x, hx⟩ : ∃ x, xs[i]? = some x := ⟨xs[i]'(by omega), List.getElem?_eq_getElem (by omega)⟩
    rw [hx] at h0
    obtain ⟨n, e1, _, hw⟩ := DataW.trod_int Tryd.underlying5 h0
    have hb := bounds_u8 hw
    exact ⟨n, one_of e1, by omega, by omega⟩)
  refine ⟨l, hl, ?_⟩
  congr 1
  apply Array.ext'
  exact e
end Go.Proofs.YtgmiaaapaiccdaaDoor
/-
  FROM A WALK TO A LAW'S ROW: the arguments read behind the call as they read before; the table's cells, from what the row lists; arrays of 32 bytes, opened.
-/
namespace Go.Proofs.YtgmiaaapaiccdaaDoor
open Go.ChangeShapes Go.WideShapes Go.ChangeAt Go.RowKit

/-! ### The table -/
def laid1 : List (String × DataW Unit) := [("witan/field.twice", Rows.laid_witan_field_twice)]
theorem gTwice : Tryd.prog.globalNamed "witan/field.twice" = some 0 := by kernel_rfl
theorem tTwice : (Tryd.prog.globals[0]?).map (·.type) = some 25 := by kernel_rfl
theorem cells64 : Tryd.prog.cellsOf 24 = 1 := by kernel_rfl
theorem cells_u5 : Tryd.prog.cellsOf 25 = 5 := by kernel_rfl

/-- The door's own heap meets the condition. -/
theorem door_met (os : Os) (args : Array Value) : laidMetH Tryd.prog laid1 ((World.doorLaid Tryd.prog 400 os).forCall (fun _ _ => 0) ⟨#[], args, []⟩).memory :=
  laidMetH_of_parts3 (fuel := 8) (laidMet_of_run' 8 (by kernel_rfl) (by kernel_rfl)) (by kernel_rfl) (by kernel_rfl)

/-- What the condition gives the walks. -/
theorem of_laid {W : World} (h : laidMetH Tryd.prog laid1 W) : Tw W := by
  rw [MakeChecks.laidMetH_plain _ _ _ (by kernel_rfl)] at h
  obtain ⟨ps, ⟨g0, t0, cs0, f0, p0, q0, hg0, ht0, hv0, hd0, _, _⟩, _, _⟩ := h
  obtain rfl := Option.some.inj (gTwice.symm.trans hg0)
  obtain rfl := Option.some.inj (tTwice.symm.trans ht0)
  obtain ⟨xs, m1, rfl, hx1, hlen, hn5, hel⟩ := DataW.trod_array Tryd.underlying25 hd0
  have hc : ∀ i, i < 5 → W.cell? ⟨0, i, none⟩ = some (.int .u64 (twl[i]! : Nat)) := by
    intro i hi
    have h0 := hel i hi
    rw [cells64] at h0
    match xs, hn5, hx1, h0 with
    | [x0, x1, x2, x3, x4], _, hx1, h0 =>
      simp only [Rows.laid_witan_field_twice, List.map_cons, List.map_nil, Prod.mk.injEq, DataW.agg.injEq, List.cons.injEq] at hx1
      obtain ⟨⟨k0, k1, k2, k3, k4, _⟩, _⟩ := hx1
      have hix : ∃ x, [x0, x1, x2, x3, x4][i]? = some x ∧ x.1 = .lit (.int .u64 (twl[i]! : Nat)) := by
        have h5 : i = 0 ∨ i = 1 ∨ i = 2 ∨ i = 3 ∨ i = 4 := by omega
        rcases h5 with rfl | rfl | rfl | rfl | rfl
        · exact ⟨x0, rfl, k0.symm⟩
        · exact ⟨x1, rfl, k1.symm⟩
        · exact ⟨x2, rfl, k2.symm⟩
        · exact ⟨x3, rfl, k3.symm⟩
        · exact ⟨x4, rfl, k4.symm⟩
      obtain ⟨x, hxi, hxv⟩ := hix
      rw [hxi] at h0
      obtain ⟨n, e1, e2, _⟩ := DataW.trod_int Tryd.underlying24 h0
      rw [e2] at hxv
      have hn : n = (twl[i]! : Nat) := by simpa using hxv
      subst hn
      have hcell := World.var?_cell hg0 hv0 i
      rw [hcell]
      have := one_of e1
      simpa using this
  exact ⟨hc, World.block_lt_of_cell? W ⟨0, 0, none⟩ (hc 0 (by omega))⟩

end Go.Proofs.YtgmiaaapaiccdaaDoor
