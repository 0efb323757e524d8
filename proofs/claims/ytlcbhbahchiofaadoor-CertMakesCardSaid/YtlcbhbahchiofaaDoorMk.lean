/-
  SEVERAL TEXTS IN ONE: SgVer, EncMul, ShaK, CtOne, CtKey, Auto, Vs, Va, Vb.
-/
import Derived.Test.YtlcbhbahchiofaaDoorMj
import Derived.Test.YtlcbhbahchiofaaDoorMd
import Derived.Test.YtlcbhbahchiofaaDoorMi
import Derived.Test.YtlcbhbahchiofaaDoorMc
import Derived.Test.YtlcbhbahchiofaaDoorMb
import Derived.Deep.MidRow
import Derived.Laws.Tables
/-
  THE PROGRAM'S SIGNATURES: Verify.
-/
namespace Go.Proofs.YtlcbhbahchiofaaDoor
open Go.RowKit Go.IntWalk Nums

theorem own_verify : Own 19:=fun _ _=>by go_simp
open Classical in
noncomputable def rightB (key sig m : List UInt8) : Bool:=decide (Right key sig m)
open Classical in
theorem rightB_no {key sig m : List UInt8} (h : ¬ ∃ A,Ed.On dd A ∧ encP A = key) : rightB key sig m = false:=decide_eq_false fun ⟨A,h1,h2,_⟩=>h ⟨A,h1,h2⟩
open Classical in
theorem rightB_small {A : Ed.Pt p} {sig m : List UInt8} (hA : Ed.On dd A) (h : Ed.mul dd 8 A = Ed.zero) : rightB (encP A) sig m = false:=decide_eq_false fun ⟨B,h1,h2,h3,_⟩=>h3 (by rw [encP_inj h1 hA h2]; exact h)
open Classical in
theorem rightB_great {key sig m : List UInt8} (h : ¬ le (sig.drop 32) < LL) : rightB key sig m = false:=decide_eq_false fun ⟨_,_,_,_,h4,_⟩=>h h4
theorem rightB_is {A : Ed.Pt p} {sig m : List UInt8} (hA : Ed.On dd A) (h8 : Ed.mul dd 8 A ≠ Ed.zero) (hS : le (sig.drop 32) < LL) :
  rightB (encP A) sig m = decide (encP (Ed.add dd (Ed.mul dd (le (Nums.bytes 32 (le (sig.drop 32)))) base) (Ed.mul dd (le (Nums.bytes 32 (sgK (sig.take 32) (encP A) m))) (Ed.neg A))) = sig.take 32):=by
 rw [le_bytesL hS,le_bytesL (sgK_lt _ _ _),Ed.mul_neg good hA]
 unfold rightB
 rw [decide_eq_decide]
 constructor
 ·rintro ⟨B,h1,h2,_,_,h5⟩
  obtain rfl:=encP_inj h1 hA h2;exact h5
 ·exact fun h=>⟨A,hA,rfl,h8,hS,h⟩
theorem small_dec {A : Ed.Pt p} (hA : Ed.On dd A) : encP (Ed.mul dd 8 A) = encP Ed.zero ↔ Ed.mul dd 8 A = Ed.zero :=
 ⟨fun h=>encP_inj (Ed.on_mul good hA 8) Ed.on_zero h,fun h=>by rw [h]⟩
section
variable {ops : Array Oper} {C0 : World → Prop} {Q : Act → Prop} {N : Nat} {E : List (Nat × Value)} {o : Oper} {rest : List Oper} {k : Nat}
theorem f_neE {x y : Operand} {t t' : TypeId} (m n : Int) (q : Bool) (hg : o.guard = none) (hd : o.dst = some k) (hk : Nat.blt k N = true) (ho : o.op = .binOp .neq t x y t') (ht : t = 46) (hx : ev E x = some (.int .i64 m)) (hy : ev E y = some (.int .i64 n))
  (hr : decide (m ≠ n) = q) (hn : bF Tryd.prog ops C0 Q rest N ((k,.bool q) :: E)) : bF Tryd.prog ops C0 Q (o :: rest) N E:=by
 subst ht
 exact f_val _ hg hd hk (fun a ha w _=>by
  have h1:=ha.eval hx;have h2:=ha.eval hy;subst hr
  unfold execOp
  simp only [ho,h1,h2]
  by_cases e : m = n <;> go_simp) hn
end

set_option maxRecDepth 100000 in
set_option maxHeartbeats 2000000 in
theorem verify_f {key sig : List UInt8} {P : Option Addr} {ls : List (List UInt8)} {pc : Nat} (hk : key.length = 32) (hs : sig.length = 64) (w : World) (hT : Ta w) (hP : PT w P ls) (h0 : P = none → pc = 0) (hls : ls.length ≤ 1000000) :
  Calls Tryd.prog 19 #[.agg (By key).toArray,.agg (By sig).toArray,.slice P ls.length pc] w fun e w'=>e = .returned (.bool (rightB key sig ls.flatten)) ∧ Below w.heap.size w w':=by
 refine calls_F (vs:=[.agg (By key).toArray,.agg (By sig).toArray,.slice P ls.length pc]) 50 Tryd.func19 rfl (by rw [Tryd.ntmps19]; rfl) ?_;have hU:=Up.refl w;refine c_seq fun K hK=>?_;refine c_lit ?_;refine l_boxA ((By key).toArray) rfl rfl rfl rfl rfl fun W1 g1 hw1 hg1 b1=>?_;replace hU:=hU.step hw1;clear hw1 hg1;refine l_boxA ((By sig).toArray) rfl rfl rfl rfl rfl fun W2 g2 hw2 hg2 b2=>?_;replace b1:=b1.later hw2;replace hU:=hU.step hw2;clear hw2 hg2;refine l_assign (.bool false) rfl rfl rfl rfl rfl ?_;refine l_nil ?_;refine hK _ _ ?_;clear hK K
 by_cases hA : ∃ A,Ed.On dd A ∧ encP A = key
 ·obtain ⟨A,hA,rfl⟩:=hA
  refine c_seq fun K hK=>?_;refine c_gF 5 ?_;refine g_op rfl ?_;refine f_by g1 0 hk rfl rfl rfl rfl rfl (fun _ h1=>(h1.1.blk b1).range) ?_;refine g_go ?_;refine g_op rfl ?_;refine f_callV #[.agg (By (encP A)).toArray] (fun v=>∃ l,QB l A ∧ v = .tuple #[.agg (Us l).toArray,.int .i64 0]) rfl rfl rfl own_cdecode (fun w1 h1=>cdec_pt hA w1 (hT.below (hU.step h1.1)).tw) rfl rfl ?_
  rintro _ ⟨l,hl,rfl⟩
  refine g_go ?_;refine g_op rfl ?_;refine f_move (.tuple #[.agg (Us l).toArray,.int .i64 0]) rfl rfl rfl rfl rfl ?_;refine g_go ?_;refine g_op rfl ?_;refine f_extract (.agg (Us l).toArray) rfl rfl rfl rfl rfl rfl ?_;refine g_go ?_;refine g_op rfl ?_;refine f_extract (.int .i64 0) rfl rfl rfl rfl rfl rfl ?_;refine g_go ?_;refine g_end fun W3 hw3 hF3=>?_;clear hF3;replace b1:=b1.later hw3;replace b2:=b2.later hw3;replace hU:=hU.step hw3;clear hw3;refine l_allocA ((Us pz).toArray) rfl rfl rfl rfl (by kernel_rfl) fun W4 g4 hw4 hg4 b4=>?_
  have n1_4 : g1 ≠ g4:=by have:=b1.lt; omega
  have n2_4 : g2 ≠ g4:=by have:=b2.lt; omega
  have q4 : w.heap.size ≤ g4:=by rw [hg4]; exact hU.size
  replace b1:=b1.later hw4;replace b2:=b2.later hw4;replace hU:=hU.step hw4;clear hw4 hg4;refine l_set g4 _ ((Us l).toArray) rfl rfl rfl rfl rfl b4 (size_P hl.len) ((us_size pz_len).trans (us_size hl.len).symm) (Us_oneA _) ?_;replace b1:=b1.rowFar n1_4 ((Us l).toArray);replace b2:=b2.rowFar n2_4 ((Us l).toArray);replace b4:=b4.row ((Us l).toArray);replace hU:=up_row hU q4 ((Us l).toArray);generalize World.setRow _ g4 ((Us l).toArray) = W5 at *;refine l_assign (.int .i64 0) rfl rfl rfl rfl rfl ?_;refine l_nil ?_;refine hK _ _ ?_;clear hK K;have hsm:=small_dec hA;refine c_seq fun K0 hK0=>?_;refine c_seq fun K hK=>?_;refine c_gF 6 ?_;refine g_op rfl ?_;refine f_move (.int .i64 0) rfl rfl rfl rfl rfl ?_;refine g_go ?_;refine g_op rfl ?_;refine f_neE _ 0 false rfl rfl rfl rfl rfl rfl rfl (by decide) ?_;refine g_go ?_;refine g_op rfl ?_;refine f_move (.bool false) rfl rfl rfl rfl rfl ?_;refine g_go ?_;refine g_guard rfl rfl rfl rfl ?_;refine g_op rfl ?_;refine f_pt g4 0 hl.len rfl rfl rfl rfl rfl (fun _ h1=>(h1.1.blk b4).range) ?_;refine g_go ?_;refine g_guard rfl rfl rfl rfl ?_;refine g_op rfl ?_;refine f_call #[.agg (Us l).toArray] (.bool (decide (encP (Ed.mul dd 8 A) = encP Ed.zero))) rfl rfl rfl own_csmall (fun w1 h1=>csmall_f (.inr hl) w1 (hT.below (hU.step h1.1)).tw) rfl rfl ?_;refine g_go ?_;refine g_op rfl ?_;refine f_pickF (.bool ((decide (encP (Ed.mul dd 8 A) = encP Ed.zero)))) rfl rfl rfl rfl rfl rfl ?_;refine g_go ?_;refine g_end fun W6 hw6 hF6=>?_;clear hF6;replace b1:=b1.later hw6;replace b2:=b2.later hw6;replace b4:=b4.later hw6;replace hU:=hU.step hw6;clear hw6;refine l_nil ?_;refine hK _ _ ?_;clear hK K
  by_cases h8 : Ed.mul dd 8 A = Ed.zero
  ·rw [decide_eq_true (hsm.2 h8)]
   refine c_cond true rfl ?_;rw [if_pos rfl];refine c_seq fun K hK=>?_;refine c_lit ?_;refine l_assign (.bool false) rfl rfl rfl rfl rfl ?_;refine l_nil ?_;refine hK _ _ ?_;clear hK K;rw [rightB_small hA h8];exact c_ret (k_then_ret (fun a ha=>bodyPost_ret (results_tmp rfl _ _ _) ha.defers ⟨congrArg Ending.returned (ha.get 6 _ rfl),hU⟩))
  ·rw [decide_eq_false fun h=>h8 (hsm.1 h)]
   refine c_cond false rfl ?_;rw [if_neg (by decide)];refine c_skip ?_;refine hK0 _ _ ?_;clear hK0 K0;clear hsm;refine c_seq fun K hK=>?_;refine c_gF 7 ?_;refine g_op rfl ?_;refine f_slice64h g2 rfl rfl rfl rfl rfl ?_;refine g_go ?_;refine g_op rfl ?_;refine f_arrp (some ⟨g2,32,none⟩) 32 rfl rfl rfl rfl rfl ?_;refine g_go ?_;refine g_op rfl ?_;refine f_by g2 32 (drop32 hs) rfl rfl rfl rfl rfl (fun _ h1=>rng_drop (h1.1.blk b2) hs) ?_;refine g_go ?_;refine g_op rfl ?_;refine f_call #[.agg (By (sig.drop 32)).toArray] (.tuple #[.agg (Us (ws ((if le (sig.drop 32) < LL then le (sig.drop 32) else 0)))).toArray,.bool ((decide (le (sig.drop 32) < LL)))]) rfl rfl rfl own_scnew (fun w1 h1=>scnew_f (drop32 hs) w1) rfl rfl ?_;refine g_go ?_;refine g_op rfl ?_;refine f_move (.tuple #[.agg (Us (ws ((if le (sig.drop 32) < LL then le (sig.drop 32) else 0)))).toArray,.bool ((decide (le (sig.drop 32) < LL)))]) rfl rfl rfl rfl rfl ?_;refine g_go ?_;refine g_op rfl ?_;refine f_extract (.agg (Us (ws ((if le (sig.drop 32) < LL then le (sig.drop 32) else 0)))).toArray) rfl rfl rfl rfl rfl rfl ?_;refine g_go ?_;refine g_op rfl ?_;refine f_extract (.bool ((decide (le (sig.drop 32) < LL)))) rfl rfl rfl rfl rfl rfl ?_;refine g_go ?_;refine g_end fun W7 hw7 hF7=>?_;clear hF7;replace b1:=b1.later hw7;replace b2:=b2.later hw7;replace b4:=b4.later hw7;replace hU:=hU.step hw7;clear hw7;refine l_allocA z4 rfl rfl rfl rfl (by kernel_rfl) fun W8 g8 hw8 hg8 b8=>?_
   have n1_8 : g1 ≠ g8:=by have:=b1.lt; omega
   have n2_8 : g2 ≠ g8:=by have:=b2.lt; omega
   have n4_8 : g4 ≠ g8:=by have:=b4.lt; omega
   have q8 : w.heap.size ≤ g8:=by rw [hg8]; exact hU.size
   replace b1:=b1.later hw8;replace b2:=b2.later hw8;replace b4:=b4.later hw8;replace hU:=hU.step hw8;clear hw8 hg8;refine l_set g8 _ ((Us (ws ((if le (sig.drop 32) < LL then le (sig.drop 32) else 0)))).toArray) rfl rfl rfl rfl rfl b8 (size_S _) (by rw [us_size (ws_len _)]; rfl) (Us_oneA _) ?_;replace b1:=b1.rowFar n1_8 ((Us (ws ((if le (sig.drop 32) < LL then le (sig.drop 32) else 0)))).toArray);replace b2:=b2.rowFar n2_8 ((Us (ws ((if le (sig.drop 32) < LL then le (sig.drop 32) else 0)))).toArray);replace b4:=b4.rowFar n4_8 ((Us (ws ((if le (sig.drop 32) < LL then le (sig.drop 32) else 0)))).toArray);replace b8:=b8.row ((Us (ws ((if le (sig.drop 32) < LL then le (sig.drop 32) else 0)))).toArray);replace hU:=up_row hU q8 ((Us (ws ((if le (sig.drop 32) < LL then le (sig.drop 32) else 0)))).toArray);generalize World.setRow _ g8 ((Us (ws ((if le (sig.drop 32) < LL then le (sig.drop 32) else 0)))).toArray) = W9 at *;refine l_assign (.bool ((decide (le (sig.drop 32) < LL)))) rfl rfl rfl rfl rfl ?_;refine l_nil ?_;refine hK _ _ ?_;clear hK K
   by_cases hS : le (sig.drop 32) < LL
   ·rw [decide_eq_true hS]
    refine c_seq fun K0 hK0=>?_;refine c_seq fun K hK=>?_;refine c_gF 2 ?_;refine g_op rfl ?_;refine f_move (.bool true) rfl rfl rfl rfl rfl ?_;refine g_go ?_;refine g_op rfl ?_;refine f_not true false rfl rfl rfl rfl rfl rfl ?_;refine g_go ?_;refine g_end fun W10 hw10 hF10=>?_;clear hF10;replace b1:=b1.later hw10;replace b2:=b2.later hw10;replace b4:=b4.later hw10;replace b8:=b8.later hw10;replace hU:=hU.step hw10;clear hw10;refine l_nil ?_;refine hK _ _ ?_;clear hK K;refine c_cond false rfl ?_;rw [if_neg (by decide)];refine c_skip ?_;refine hK0 _ _ ?_;clear hK0 K0;rw [if_pos hS] at b8;refine c_seq fun K hK=>?_;refine c_gF 3 ?_;refine g_op rfl ?_;refine f_slice64l g2 rfl rfl rfl rfl rfl ?_;refine g_go ?_;refine g_op rfl ?_;refine f_arrp (some ⟨g2,0,none⟩) 64 rfl rfl rfl rfl rfl ?_;refine g_go ?_;refine g_op rfl ?_;refine f_by g2 0 (take32 hs) rfl rfl rfl rfl rfl (fun _ h1=>rng_take (h1.1.blk b2) hs) ?_;refine g_go ?_;refine g_end fun W11 hw11 hF11=>?_;clear hF11;replace b1:=b1.later hw11;replace b4:=b4.later hw11;replace b8:=b8.later hw11;replace hU:=hU.step hw11;clear hw11;refine l_allocA z32 rfl rfl rfl rfl (by kernel_rfl) fun W12 g12 hw12 hg12 b12=>?_
    have n1_12 : g1 ≠ g12:=by have:=b1.lt; omega
    have n4_12 : g4 ≠ g12:=by have:=b4.lt; omega
    have n8_12 : g8 ≠ g12:=by have:=b8.lt; omega
    have q12 : w.heap.size ≤ g12:=by rw [hg12]; exact hU.size
    replace b1:=b1.later hw12;replace b4:=b4.later hw12;replace b8:=b8.later hw12;replace hU:=hU.step hw12;clear hw12 hg12;refine l_set g12 _ ((By (sig.take 32)).toArray) rfl rfl rfl rfl rfl b12 (size_H (take32 hs)) (by rw [len_by (take32 hs)]; rfl) (By_oneA _) ?_;replace b1:=b1.rowFar n1_12 ((By (sig.take 32)).toArray);replace b4:=b4.rowFar n4_12 ((By (sig.take 32)).toArray);replace b8:=b8.rowFar n8_12 ((By (sig.take 32)).toArray);replace b12:=b12.row ((By (sig.take 32)).toArray);replace hU:=up_row hU q12 ((By (sig.take 32)).toArray);generalize World.setRow _ g12 ((By (sig.take 32)).toArray) = W13 at *;refine l_nil ?_;refine hK _ _ ?_;clear hK K;refine c_seq fun K hK=>?_;refine c_g 5 (by decide) (by kernel_rfl) (by kernel_rfl) ?_;refine g_op rfl ?_;refine f_slice32 g12 rfl rfl rfl rfl rfl ?_;refine g_go ?_;refine g_op rfl ?_;refine f_slice32 g1 rfl rfl rfl rfl rfl ?_;refine g_go ?_;refine g_op rfl ?_;refine f_move (.slice P ls.length pc) rfl rfl rfl rfl rfl ?_;refine g_go ?_;refine g_op rfl ?_
    refine f_call #[.slice (some ⟨g12,0,none⟩) 32 32,.slice (some ⟨g1,0,none⟩) 32 32,.slice P ls.length pc] (.agg (Us (ws ((sgK (sig.take 32) (encP A) ls.flatten)))).toArray) rfl rfl rfl own_number (fun w1 h1=>by
      have:=number_f (P:=P) (ls:=ls) (pc:=pc) w1 (hT.below (hU.step h1.1)).sh (SB.all (b12.later h1.1) (take32 hs) (by decide)) (SB.all (b1.later h1.1) hk (by decide)) (hP.later (hU.step h1.1)) h0 hls
      rwa [sgK_eq] at this) rfl rfl ?_
    refine g_go ?_;refine g_alloc z4 (W13).heap.size rfl rfl rfl rfl rfl (by kernel_rfl) (fun _ h=>h.size) (fun g w w' h hr=>⟨h.1,h.2.later hr⟩) fun g14 _ _ _ _=>?_;refine g_end fun W15 hw15 hF15=>?_;have b14:=(hF15 4 _ rfl).2;have ge14:=(hF15 4 _ rfl).1
    have n1_14 : g1 ≠ g14:=by have:=b1.lt; omega
    have n4_14 : g4 ≠ g14:=by have:=b4.lt; omega
    have n8_14 : g8 ≠ g14:=by have:=b8.lt; omega
    have n12_14 : g12 ≠ g14:=by have:=b12.lt; omega
    have q14 : w.heap.size ≤ g14:=Nat.le_trans hU.size ge14;clear ge14;clear hF15;replace b1:=b1.later hw15;replace b4:=b4.later hw15;replace b8:=b8.later hw15;replace b12:=b12.later hw15;replace hU:=hU.step hw15;clear hw15;refine l_set g14 _ ((Us (ws ((sgK (sig.take 32) (encP A) ls.flatten)))).toArray) rfl rfl rfl rfl rfl b14 (size_S _) (by rw [us_size (ws_len _)]; rfl) (Us_oneA _) ?_;replace b1:=b1.rowFar n1_14 ((Us (ws ((sgK (sig.take 32) (encP A) ls.flatten)))).toArray);replace b4:=b4.rowFar n4_14 ((Us (ws ((sgK (sig.take 32) (encP A) ls.flatten)))).toArray);replace b8:=b8.rowFar n8_14 ((Us (ws ((sgK (sig.take 32) (encP A) ls.flatten)))).toArray);replace b12:=b12.rowFar n12_14 ((Us (ws ((sgK (sig.take 32) (encP A) ls.flatten)))).toArray);replace b14:=b14.row ((Us (ws ((sgK (sig.take 32) (encP A) ls.flatten)))).toArray);replace hU:=up_row hU q14 ((Us (ws ((sgK (sig.take 32) (encP A) ls.flatten)))).toArray);generalize World.setRow _ g14 ((Us (ws ((sgK (sig.take 32) (encP A) ls.flatten)))).toArray) = W16 at *;refine l_nil ?_;refine hK _ _ ?_;clear hK K;refine c_seq fun K hK=>?_;refine c_g 11 (by decide) (by kernel_rfl) (by kernel_rfl) ?_;refine g_op rfl ?_;refine f_sc g8 ((le (sig.drop 32))) rfl rfl rfl rfl rfl (fun _ h1=>(h1.1.blk b8).range) ?_;refine g_go ?_;refine g_op rfl ?_;refine f_call #[.agg (Us (ws ((le (sig.drop 32))))).toArray] (.agg (By (Nums.bytes 32 ((le (sig.drop 32))))).toArray) rfl rfl rfl own_schash (fun w1 h1=>schash_f ((le (sig.drop 32))) w1) rfl rfl ?_;refine g_go ?_;refine g_op rfl ?_;refine f_pt g4 0 hl.len rfl rfl rfl rfl rfl (fun _ h1=>(h1.1.blk b4).range) ?_;refine g_go ?_;refine g_op rfl ?_;refine f_us #[.agg (Us l).toArray] (QB · (Ed.neg A)) rfl rfl rfl own_cneg (fun w1 h1=>cneg_f (.inr hl) w1 (hT.below (hU.step h1.1)).tw) rfl rfl fun r43 v43=>?_;refine g_go ?_;refine g_op rfl ?_;refine f_sc g14 ((sgK (sig.take 32) (encP A) ls.flatten)) rfl rfl rfl rfl rfl (fun _ h1=>(h1.1.blk b14).range) ?_;refine g_go ?_;refine g_op rfl ?_;refine f_call #[.agg (Us (ws ((sgK (sig.take 32) (encP A) ls.flatten)))).toArray] (.agg (By (Nums.bytes 32 ((sgK (sig.take 32) (encP A) ls.flatten)))).toArray) rfl rfl rfl own_schash (fun w1 h1=>schash_f ((sgK (sig.take 32) (encP A) ls.flatten)) w1) rfl rfl ?_;refine g_go ?_;refine g_op rfl ?_;refine f_us #[.agg (By (Nums.bytes 32 ((le (sig.drop 32))))).toArray,.agg (Us r43).toArray,.agg (By (Nums.bytes 32 ((sgK (sig.take 32) (encP A) ls.flatten)))).toArray] (PB · (Ed.add dd (Ed.mul dd (le (Nums.bytes 32 ((le (sig.drop 32))))) base) (Ed.mul dd (le (Nums.bytes 32 ((sgK (sig.take 32) (encP A) ls.flatten)))) (Ed.neg A)))) rfl rfl rfl own_cboth (fun w1 h1=>cboth_f (bytes_len _ _) (.inr v43) (bytes_len _ _) w1 (hT.below (hU.step h1.1)).tw) rfl rfl fun r46 v46=>?_;refine g_go ?_;refine g_op rfl ?_;refine f_call #[.agg (Us r46).toArray] (.agg (By (encP (Ed.add dd (Ed.mul dd (le (Nums.bytes 32 ((le (sig.drop 32))))) base) (Ed.mul dd (le (Nums.bytes 32 ((sgK (sig.take 32) (encP A) ls.flatten)))) (Ed.neg A))))).toArray) rfl rfl rfl own_chash (fun w1 h1=>chash_f v46 w1 (hT.below (hU.step h1.1)).tw) rfl rfl ?_
    refine g_go ?_;refine g_op rfl ?_;refine f_by g12 0 (take32 hs) rfl rfl rfl rfl rfl (fun _ h1=>(h1.1.blk b12).range) ?_;refine g_go ?_;refine g_op rfl ?_;refine f_eqd (encP (Ed.add dd (Ed.mul dd (le (Nums.bytes 32 ((le (sig.drop 32))))) base) (Ed.mul dd (le (Nums.bytes 32 ((sgK (sig.take 32) (encP A) ls.flatten)))) (Ed.neg A)))) (sig.take 32) rfl rfl rfl rfl rfl rfl rfl ((encP_len _)) (take32 hs) ?_;refine g_go ?_;refine g_op rfl ?_;refine f_assign (.bool ((decide (encP (Ed.add dd (Ed.mul dd (le (Nums.bytes 32 ((le (sig.drop 32))))) base) (Ed.mul dd (le (Nums.bytes 32 ((sgK (sig.take 32) (encP A) ls.flatten)))) (Ed.neg A))) = sig.take 32)))) rfl rfl rfl rfl rfl ?_;refine g_go ?_;refine g_end fun W17 hw17 hF17=>?_;clear hF17;replace b1:=b1.later hw17;replace b4:=b4.later hw17;replace hU:=hU.step hw17;clear hw17;refine l_nil ?_;refine hK _ _ ?_;clear hK K;rw [rightB_is hA h8 hS];exact c_ret (fun a ha=>bodyPost_ret (results_tmp rfl _ _ _) ha.defers ⟨congrArg Ending.returned (ha.get 6 _ rfl),hU⟩)
   ·rw [decide_eq_false hS]
    refine c_seq fun K0 hK0=>?_;refine c_seq fun K hK=>?_;refine c_gF 2 ?_;refine g_op rfl ?_;refine f_move (.bool false) rfl rfl rfl rfl rfl ?_;refine g_go ?_;refine g_op rfl ?_;refine f_not false true rfl rfl rfl rfl rfl rfl ?_;refine g_go ?_;refine g_end fun W10 hw10 hF10=>?_;clear hF10;replace b1:=b1.later hw10;replace b4:=b4.later hw10;replace hU:=hU.step hw10;clear hw10;refine l_nil ?_;refine hK _ _ ?_;clear hK K;refine c_cond true rfl ?_;rw [if_pos rfl];refine c_seq fun K hK=>?_;refine c_lit ?_;refine l_assign (.bool false) rfl rfl rfl rfl rfl ?_;refine l_nil ?_;refine hK _ _ ?_;clear hK K;rw [rightB_great hS];exact c_ret (k_then_ret (fun a ha=>bodyPost_ret (results_tmp rfl _ _ _) ha.defers ⟨congrArg Ending.returned (ha.get 6 _ rfl),hU⟩))
 ·refine c_seq fun K hK=>?_
  refine c_gF 5 ?_;refine g_op rfl ?_;refine f_by g1 0 hk rfl rfl rfl rfl rfl (fun _ h1=>(h1.1.blk b1).range) ?_;refine g_go ?_;refine g_op rfl ?_;refine f_call #[.agg (By key).toArray] (.tuple #[.agg (Us pz).toArray,.int .i64 50]) rfl rfl rfl own_cdecode (fun w1 h1=>cdec_no hk hA w1 (hT.below (hU.step h1.1)).tw) rfl rfl ?_;refine g_go ?_;refine g_op rfl ?_;refine f_move (.tuple #[.agg (Us pz).toArray,.int .i64 50]) rfl rfl rfl rfl rfl ?_;refine g_go ?_;refine g_op rfl ?_;refine f_extract (.agg (Us pz).toArray) rfl rfl rfl rfl rfl rfl ?_;refine g_go ?_;refine g_op rfl ?_;refine f_extract (.int .i64 50) rfl rfl rfl rfl rfl rfl ?_;refine g_go ?_;refine g_end fun W3 hw3 hF3=>?_;clear hF3;replace hU:=hU.step hw3;clear hw3;refine l_allocA ((Us pz).toArray) rfl rfl rfl rfl (by kernel_rfl) fun W4 g4 hw4 hg4 b4=>?_
  have q4 : w.heap.size ≤ g4:=by rw [hg4]; exact hU.size
  replace hU:=hU.step hw4;clear hw4 hg4;refine l_set g4 _ ((Us pz).toArray) rfl rfl rfl rfl rfl b4 (size_P pz_len) ((us_size pz_len).trans (us_size pz_len).symm) (Us_oneA _) ?_;replace hU:=up_row hU q4 ((Us pz).toArray);generalize World.setRow _ g4 ((Us pz).toArray) = W5 at *;refine l_assign (.int .i64 50) rfl rfl rfl rfl rfl ?_;refine l_nil ?_;refine hK _ _ ?_;clear hK K;refine c_seq fun K0 hK0=>?_;refine c_seq fun K hK=>?_;refine c_gF 6 ?_;refine g_op rfl ?_;refine f_move (.int .i64 50) rfl rfl rfl rfl rfl ?_;refine g_go ?_;refine g_op rfl ?_;refine f_neE _ 0 true rfl rfl rfl rfl rfl rfl rfl (by decide) ?_;refine g_go ?_;refine g_op rfl ?_;refine f_move (.bool true) rfl rfl rfl rfl rfl ?_;refine g_go ?_;refine g_skip rfl rfl rfl rfl rfl rfl rfl ?_;refine g_skip rfl rfl rfl rfl rfl rfl rfl ?_;refine g_op rfl ?_;refine f_pick (.bool true) rfl rfl rfl rfl rfl rfl ?_;refine g_go ?_;refine g_end fun W6 hw6 hF6=>?_;clear hF6;replace hU:=hU.step hw6;clear hw6;refine l_nil ?_;refine hK _ _ ?_;clear hK K;refine c_cond true rfl ?_;rw [if_pos rfl];refine c_seq fun K hK=>?_;refine c_lit ?_;refine l_assign (.bool false) rfl rfl rfl rfl rfl ?_;refine l_nil ?_;refine hK _ _ ?_;clear hK K;rw [rightB_no hA];exact c_ret (k_then_ret (fun a ha=>bodyPost_ret (results_tmp rfl _ _ _) ha.defers ⟨congrArg Ending.returned (ha.get 6 _ rfl),hU⟩))
end Go.Proofs.YtlcbhbahchiofaaDoor
/-
  PLAIN NUMBERS: the bytes of a known multiple of the base point, reckoned by the kernel. No program is imported.
-/
namespace Nums
def triZ : Tri:=⟨0,1,1⟩
def triB : Tri:=⟨bx,bY,1⟩
theorem triZ_rep : TriRep triZ Ed.zero:=by
 unfold TriRep triZ
 rw [fof_zero,fof_one];exact Ed.Rep.zero prime_p
theorem triB_rep : TriRep triB base:=by
 unfold TriRep triB
 rw [fof_one]
 have e : ∀ u : F,u = u * 1:=fun u=>by grind only
 exact ⟨fun h=>ne_one prime_p h.symm,e _,e _⟩
theorem tri_mul (n : Nat) (hn : n < 2 ^ 256) : TriRep (triMul 256 n triZ triB) (Ed.mul dd n base):=by
 have h:=triMul_rep 256 n triZ triB Ed.zero base hn Ed.on_zero on_base triZ_rep triB_rep
 rwa [Ed.zero_add good] at h
def encTri (t : Tri) (zi : Nat) : List UInt8:=forced (t.y * zi % p) fun y=>forced (t.x * zi % p % 2) fun o=>bytes 32 (y + 57896044618658097711785492504343953926634992332820282019728792003956564819968 * o)
theorem enc_tri {t : Tri} {A : Ed.Pt p} (h : TriRep t A) {zi : Nat} (hz : t.z * zi % p = 1) : encP A = encTri t zi:=by
 have h1 : fof t.z * fof zi = 1:=by
  rw [← fof_mul,← fof_one];exact fof_eq (by rw [hz]; decide)
 have hf : finv (fof t.z) = fof zi:=finv_of prime_p h1;have ha:=h.aff prime_p;rw [hf,← fof_mul,← fof_mul] at ha
 unfold encTri
 simp only [forced_eq];rw [encP,encN,← ha.1,← ha.2,fof_val,fof_val]
theorem enc_mul (n zi : Nat) (b : List UInt8) (hn : n < 2 ^ 256) (h : (forced (triMul 256 n triZ triB).z fun z=>decide (z * zi % p = 1)) = true) (hb : encTri (triMul 256 n triZ triB) zi = b) : encP (Ed.mul dd n base) = b:=by
 rw [forced_eq] at h;rw [enc_tri (tri_mul n hn) (of_decide_eq_true h),hb]
end Nums
/-
  PLAIN NUMBERS: digests reckoned by the kernel: each word once. No program is imported.
-/
namespace Nums

def xsl (s : Sha) (b : List UInt8) : Nat → List Nat
  | 0=>[]
  | t + 1=>sx s b t :: xsl s b t
theorem xsl_len (s : Sha) (b : List UInt8) : ∀ t,(xsl s b t).length = t
 | 0=>rfl
 | t + 1=>by rw [xsl,List.length_cons,xsl_len]
theorem xsl_at (s : Sha) (b : List UInt8) : ∀ t j,j < t → (xsl s b t)[j]! = sx s b (t - 1 - j)
 | 0,_,h=>absurd h (by omega)
 | t + 1,0,_=>by
  show (sx s b t :: xsl s b t)[0]! = _
  rw [Nat.add_sub_cancel,Nat.sub_zero]
  rfl
 | t + 1,j + 1,h=>by
  show (sx s b t :: xsl s b t)[j + 1]! = _
  have e : (sx s b t :: xsl s b t)[j + 1]! = (xsl s b t)[j]!:=by simp
  rw [e,xsl_at s b t j (by omega)]
  congr 1
  omega
def firstF (s : Sha) (b : List UInt8) : Nat → List Nat
  | 0=>[]
  | t + 1=>forced (bword s b t) fun v=>v :: firstF s b t
theorem firstF_eq (s : Sha) (b : List UInt8) : ∀ t,t ≤ 16 → firstF s b t = xsl s b t
 | 0,_=>rfl
 | t + 1,h=>by
  have e : sx s b t = bword s b t:=by rw [sx,dif_pos (by omega)]
  rw [firstF,forced_eq,xsl,firstF_eq s b t (by omega),e]
def grow (s : Sha) : Nat → List Nat → List Nat
  | 0,L=>L
  | k + 1,L=>forced ((loww s.w s.low1 L[1]! + L[6]! + loww s.w s.low0 L[14]! + L[15]!) % 2 ^ s.w) fun v=>grow s k (v :: L)
theorem grow_eq (s : Sha) (b : List UInt8) : ∀ k t,16 ≤ t → grow s k (xsl s b t) = xsl s b (t + k)
 | 0,_,_=>rfl
 | k + 1,t,h=>by
  have e : (loww s.w s.low1 (xsl s b t)[1]! + (xsl s b t)[6]! + loww s.w s.low0 (xsl s b t)[14]! + (xsl s b t)[15]!) % 2 ^ s.w = sx s b t:=by
   rw [xsl_at s b t 1 (by omega),xsl_at s b t 6 (by omega),xsl_at s b t 14 (by omega),xsl_at s b t 15 (by omega)]
   conv=>rhs; rw [sx,dif_neg (by omega)]
   rw [show t - 1 - 1 = t - 2 from by omega,show t - 1 - 6 = t - 7 from by omega,show t - 1 - 14 = t - 15 from by omega,show t - 1 - 15 = t - 16 from by omega]
  rw [grow,forced_eq,e];have h2:=grow_eq s b k (t + 1) (by omega);rw [xsl] at h2;rw [h2]
  congr 1
  omega
def rndF (s : Sha) : List Nat → Nat → Oct → Oct
  | [],_,o=>o
  | x :: r,t,o=>forced (t1w s (s.k t) x o) fun T=>forced ((T + t2w s o) % 2 ^ s.w) fun A=>forced ((o.d + T) % 2 ^ s.w) fun E=>rndF s r (t + 1) ⟨A,o.a,o.b,o.c,E,o.e,o.f,o.g⟩
theorem rndF_eq (s : Sha) (b : List UInt8) (o : Oct) : ∀ (l : List Nat) (t : Nat),(∀ j x,l[j]? = some x → x = sx s b (t + j)) → rndF s l t (rnds s b o t) = rnds s b o (t + l.length)
 | [],_,_=>rfl
 | x :: r,t,h=>by
  have hx:=h 0 x rfl;rw [Nat.add_zero] at hx;subst hx;rw [rndF];simp only [forced_eq];have h2:=rndF_eq s b o r (t + 1) (fun j x hj=>by rw [h (j + 1) x (by simpa using hj)]; congr 1; omega);rw [show rnds s b o (t + 1) = rnd s (s.k t) (sx s b t) (rnds s b o t) from rfl] at h2;rw [show t + (sx s b t :: r).length = t + 1 + r.length from by rw [List.length_cons]; omega,← h2]
  rfl
def add8F (w : Nat) (o q : Oct) : Oct :=
  forced ((o.a + q.a) % 2 ^ w) fun a=>forced ((o.b + q.b) % 2 ^ w) fun b=>forced ((o.c + q.c) % 2 ^ w) fun c=>forced ((o.d + q.d) % 2 ^ w) fun d =>
  forced ((o.e + q.e) % 2 ^ w) fun e=>forced ((o.f + q.f) % 2 ^ w) fun f=>forced ((o.g + q.g) % 2 ^ w) fun g=>forced ((o.h + q.h) % 2 ^ w) fun h=>⟨a,b,c,d,e,f,g,h⟩
theorem add8F_eq (w : Nat) (o q : Oct) : add8F w o q = add8 w o q:=by
 unfold add8F
 simp only [forced_eq]
 rfl
def turnF (s : Sha) (o : Oct) (b : List UInt8) : Oct:=add8F s.w o (rndF s (grow s (s.n - 16) (firstF s b 16)).reverse 0 o)
theorem turnF_eq {s : Sha} (hn : 16 ≤ s.n) (o : Oct) (b : List UInt8) : turnF s o b = turnw s o b:=by
 rw [turnF,add8F_eq,turnw,firstF_eq s b 16 (Nat.le_refl _),grow_eq s b _ 16 (Nat.le_refl _),show 16 + (s.n - 16) = s.n from by omega]
 congr 1
 have h:=rndF_eq s b o (xsl s b s.n).reverse 0 (fun j x hj=>by
  have hl : j < (xsl s b s.n).reverse.length:=(List.getElem?_eq_some_iff.1 hj).1;rw [List.length_reverse,xsl_len] at hl;rw [List.getElem?_reverse (by rw [xsl_len]; exact hl),xsl_len] at hj;have h1:=xsl_at s b s.n (s.n - 1 - j) (by omega);rw [List.getElem!_eq_getElem?_getD,hj] at h1;rw [show 0 + j = s.n - 1 - (s.n - 1 - j) from by omega,← h1]
  rfl)
 rw [List.length_reverse,xsl_len,Nat.zero_add] at h;exact h
def runF (s : Sha) (B : Nat) : Nat → Oct → List UInt8 → Oct
  | 0,o,_=>o
  | k + 1,o,l=>runF s B k (turnF s o (l.take B)) (l.drop B)
theorem runF_eq {s : Sha} {B : Nat} (hB : 0 < B) (hn : 16 ≤ s.n) : ∀ k o l,l.length = k * B → runF s B k o l = runw s B o l
 | 0,o,l,h=>by
  have h0 : l = []:=List.eq_nil_of_length_eq_zero (by omega);subst h0;rw [runF,runw_short (by simpa using hB)]
 | k + 1,o,l,h=>by
  have hl : (l.take B).length = B:=by rw [List.length_take,h,Nat.add_mul]; omega
  have hd : (l.drop B).length = k * B:=by rw [List.length_drop,h,Nat.add_mul]; omega
  rw [runF,turnF_eq hn,runF_eq hB hn k _ _ hd]
  conv=>rhs; rw [← List.take_append_drop B l,runw_block hB hl]
def digestF (s : Sha) (n : Nat) (m : List UInt8) : List UInt8 :=
  ((runF s (2 * s.w) n ⟨s.start[0]!,s.start[1]!,s.start[2]!,s.start[3]!,s.start[4]!,s.start[5]!,s.start[6]!,s.start[7]!⟩ (m ++ tailw (2 * s.w) (m.length % (2 * s.w)) (8 * m.length))).list.map (layw s)).flatten
theorem digest_eq {s : Sha} (n : Nat) (m : List UInt8) (hw : 0 < 2 * s.w) (hn : 16 ≤ s.n) (h : (m ++ tailw (2 * s.w) (m.length % (2 * s.w)) (8 * m.length)).length = n * (2 * s.w)) : digest s m = digestF s n m:=by
 rw [digest,sumw,digestF,runF_eq hw hn n _ _ h]
end Nums
/-
  PLAIN NUMBERS: the signature of 'a' under TagRoot by the seed {1, 2, 7}, and that it is none under TagCommit, reckoned.
-/
namespace Go.Proofs.YtlcbhbahchiofaaDoor
open Nums

def seedOne : List UInt8:=[1,2,7,0,0,0,0,0,0,0,0,0,0,0,0,0,0,0,0,0,0,0,0,0,0,0,0,0,0,0,0,0]
theorem d_c8 : sgD seedOne = [58,180,97,98,220,179,71,157,94,50,93,119,53,14,68,171,201,38,148,147,105,196,233,96,98,80,133,16,153,13,68,163,250,117,20,121,77,248,129,109,199,175,188,212,248,40,97,112,77,23,179,212,62,152,16,11,154,244,196,67,38,38,94,227]:=by
 unfold sgD
 rw [digest_eq 1 _ (by decide) (by decide) (by decide +kernel)]
 decide +kernel
theorem ab_c8 : sgAB seedOne = [56,180,97,98,220,179,71,157,94,50,93,119,53,14,68,171,201,38,148,147,105,196,233,96,98,80,133,16,153,13,68,99]:=by
 rw [sgAB,d_c8]
 decide +kernel
theorem a_c8 : le (sgAB seedOne) = 44899211459462489800551540803633879581235559420758889561927279231776925529144:=by
 rw [ab_c8]
 decide +kernel
theorem key_c8 : sgKey seedOne = [186,95,247,28,161,115,243,171,244,106,18,134,149,47,143,198,24,10,247,114,164,214,195,244,155,227,240,154,80,239,217,157]:=by
 rw [sgKey,a_c8];exact enc_mul _ 39349521698909402548019622636740550881037291304510749080804307091830006958420 _ (by decide) (by decide +kernel) (by decide +kernel)
theorem pre_c8 : sgPre seedOne = [250,117,20,121,77,248,129,109,199,175,188,212,248,40,97,112,77,23,179,212,62,152,16,11,154,244,196,67,38,38,94,227]:=by
 rw [sgPre,d_c8]
 decide +kernel
theorem r_c8 : sgR seedOne [119,105,116,97,110,5,0,0,0,0,0,0,0,1,97] = 6140023931584516240350668902052441425280013093987908600771547676899228059132:=by
 rw [sgR,pre_c8];rw [digest_eq 1 _ (by decide) (by decide) (by decide +kernel)]
 decide +kernel
theorem rb_c8 : sgRB seedOne [119,105,116,97,110,5,0,0,0,0,0,0,0,1,97] = [82,245,212,201,75,88,31,19,178,3,159,99,131,93,109,141,50,54,127,188,116,134,203,228,93,236,69,69,58,162,150,118]:=by
 rw [sgRB,r_c8];exact enc_mul _ 9552348642791002818787777655353435584202976217857938688089391487954348754004 _ (by decide) (by decide +kernel) (by decide +kernel)
theorem ka_c8 : sgK [82,245,212,201,75,88,31,19,178,3,159,99,131,93,109,141,50,54,127,188,116,134,203,228,93,236,69,69,58,162,150,118] [186,95,247,28,161,115,243,171,244,106,18,134,149,47,143,198,24,10,247,114,164,214,195,244,155,227,240,154,80,239,217,157] [119,105,116,97,110,5,0,0,0,0,0,0,0,1,97] = 5635411707467824225690208211881888165570088406898275919157484128210997701371:=by
 have e : [82,245,212,201,75,88,31,19,178,3,159,99,131,93,109,141,50,54,127,188,116,134,203,228,93,236,69,69,58,162,150,118] ++ ([186,95,247,28,161,115,243,171,244,106,18,134,149,47,143,198,24,10,247,114,164,214,195,244,155,227,240,154,80,239,217,157] ++ [119,105,116,97,110,5,0,0,0,0,0,0,0,1,97]) = ([82,245,212,201,75,88,31,19,178,3,159,99,131,93,109,141,50,54,127,188,116,134,203,228,93,236,69,69,58,162,150,118,186,95,247,28,161,115,243,171,244,106,18,134,149,47,143,198,24,10,247,114,164,214,195,244,155,227,240,154,80,239,217,157,119,105,116,97,110,5,0,0,0,0,0,0,0,1,97] : List UInt8):=by decide +kernel
 rw [sgK,e];clear e;rw [digest_eq 1 _ (by decide) (by decide) (by decide +kernel)]
 decide +kernel
theorem kb_c8 : sgK [82,245,212,201,75,88,31,19,178,3,159,99,131,93,109,141,50,54,127,188,116,134,203,228,93,236,69,69,58,162,150,118] [186,95,247,28,161,115,243,171,244,106,18,134,149,47,143,198,24,10,247,114,164,214,195,244,155,227,240,154,80,239,217,157] [119,105,116,97,110,4,0,0,0,0,0,0,0,1,97] = 3606751151300437339337859753690271513747000252065242972757792062310377372301:=by
 have e : [82,245,212,201,75,88,31,19,178,3,159,99,131,93,109,141,50,54,127,188,116,134,203,228,93,236,69,69,58,162,150,118] ++ ([186,95,247,28,161,115,243,171,244,106,18,134,149,47,143,198,24,10,247,114,164,214,195,244,155,227,240,154,80,239,217,157] ++ [119,105,116,97,110,4,0,0,0,0,0,0,0,1,97]) = ([82,245,212,201,75,88,31,19,178,3,159,99,131,93,109,141,50,54,127,188,116,134,203,228,93,236,69,69,58,162,150,118,186,95,247,28,161,115,243,171,244,106,18,134,149,47,143,198,24,10,247,114,164,214,195,244,155,227,240,154,80,239,217,157,119,105,116,97,110,4,0,0,0,0,0,0,0,1,97] : List UInt8):=by decide +kernel
 rw [sgK,e];clear e;rw [digest_eq 1 _ (by decide) (by decide) (by decide +kernel)]
 decide +kernel
theorem not_c8 : ¬ Right (sgKey seedOne) (sgSig seedOne [119,105,116,97,110,5,0,0,0,0,0,0,0,1,97]) [119,105,116,97,110,4,0,0,0,0,0,0,0,1,97]:=fun h=>by
 have h1:=right_msg (right_own seedOne [119,105,116,97,110,5,0,0,0,0,0,0,0,1,97]) h;rw [sgSig_take,key_c8,rb_c8,ka_c8,kb_c8] at h1;exact absurd h1 (by decide)
end Go.Proofs.YtlcbhbahchiofaaDoor
/-
  PLAIN NUMBERS: the keys of the seeds {i + 1, 2, 7}, reckoned: they differ.
-/
namespace Go.Proofs.YtlcbhbahchiofaaDoor
open Nums

def seedL (b : UInt8) (i : Nat) : List UInt8:=UInt8.ofNat (i + 1) :: b :: 7 :: List.replicate 29 0
theorem seedL_len (b : UInt8) (i : Nat) : (seedL b i).length = 32:=by simp [seedL]
theorem seedL_one : seedL 2 0 = seedOne:=by decide
theorem key_s0 : sgKey (seedL 2 0) = [186,95,247,28,161,115,243,171,244,106,18,134,149,47,143,198,24,10,247,114,164,214,195,244,155,227,240,154,80,239,217,157]:=by rw [seedL_one]; exact key_c8
theorem ab_s1 : sgAB (seedL 2 1) = [16,154,69,64,150,60,19,152,228,254,217,5,241,222,167,197,46,33,213,218,193,88,62,254,216,94,48,66,222,42,209,82]:=by
 have e : sgD (seedL 2 1) = [17,154,69,64,150,60,19,152,228,254,217,5,241,222,167,197,46,33,213,218,193,88,62,254,216,94,48,66,222,42,209,18,246,187,8,35,22,101,239,168,168,157,135,226,249,238,225,225,242,89,197,238,162,215,128,224,242,17,205,194,204,18,214,39]:=by
  have e1 : seedL 2 1 = [2,2,7,0,0,0,0,0,0,0,0,0,0,0,0,0,0,0,0,0,0,0,0,0,0,0,0,0,0,0,0,0]:=by decide
  unfold sgD
  rw [e1,digest_eq 1 _ (by decide) (by decide) (by decide +kernel)]
  decide +kernel
 rw [sgAB,e]
 decide +kernel
theorem key_s1 : sgKey (seedL 2 1) = [148,8,82,123,231,209,221,120,8,12,134,125,236,224,244,38,143,255,1,56,177,47,108,125,189,163,7,152,162,23,25,253]:=by
 have e : le (sgAB (seedL 2 1)) = 37459220485791761201693394478579418170293334447921505717062553613588660328976:=by
  rw [ab_s1]
  decide +kernel
 rw [sgKey,e];exact enc_mul _ 35788653197539576792945133746906481626428727851515268332442685110039427234172 _ (by decide) (by decide +kernel) (by decide +kernel)
theorem ab_s2 : sgAB (seedL 2 2) = [120,187,179,236,56,6,31,136,157,128,70,93,92,216,233,196,59,164,53,24,227,15,36,231,61,139,43,234,51,203,233,127]:=by
 have e : sgD (seedL 2 2) = [122,187,179,236,56,6,31,136,157,128,70,93,92,216,233,196,59,164,53,24,227,15,36,231,61,139,43,234,51,203,233,127,240,241,89,248,156,202,34,107,66,102,159,255,130,159,75,163,239,122,92,124,85,145,94,96,168,127,229,196,62,136,127,10]:=by
  have e1 : seedL 2 2 = [3,2,7,0,0,0,0,0,0,0,0,0,0,0,0,0,0,0,0,0,0,0,0,0,0,0,0,0,0,0,0,0]:=by decide
  unfold sgD
  rw [e1,digest_eq 1 _ (by decide) (by decide) (by decide +kernel)]
  decide +kernel
 rw [sgAB,e]
 decide +kernel
theorem key_s2 : sgKey (seedL 2 2) = [119,247,2,254,233,106,174,85,77,10,28,1,122,87,128,86,217,16,236,107,164,56,45,196,22,240,52,221,235,149,233,91]:=by
 have e : le (sgAB (seedL 2 2)) = 57856809590294862558729055533859134318298849888456254260800365305302594337656:=by
  rw [ab_s2]
  decide +kernel
 rw [sgKey,e];exact enc_mul _ 14641147582398029168401922608530425631155075904812979288290035945881444851111 _ (by decide) (by decide +kernel) (by decide +kernel)
theorem ab_s3 : sgAB (seedL 2 3) = [224,199,81,128,198,177,16,218,210,14,164,168,226,62,162,202,236,5,27,255,190,201,37,116,30,27,221,228,50,12,177,121]:=by
 have e : sgD (seedL 2 3) = [228,199,81,128,198,177,16,218,210,14,164,168,226,62,162,202,236,5,27,255,190,201,37,116,30,27,221,228,50,12,177,57,29,5,155,32,222,234,41,217,233,60,56,168,156,152,113,37,251,147,184,253,186,87,223,247,103,128,144,112,197,172,158,160]:=by
  have e1 : seedL 2 3 = [4,2,7,0,0,0,0,0,0,0,0,0,0,0,0,0,0,0,0,0,0,0,0,0,0,0,0,0,0,0,0,0]:=by decide
  unfold sgD
  rw [e1,digest_eq 1 _ (by decide) (by decide) (by decide +kernel)]
  decide +kernel
 rw [sgAB,e]
 decide +kernel
theorem key_s3 : sgKey (seedL 2 3) = [86,213,62,252,206,141,88,46,210,110,243,154,165,133,40,249,240,244,24,148,58,110,161,198,31,55,5,153,252,136,6,80]:=by
 have e : le (sgAB (seedL 2 3)) = 55042670802096662069517119348312776069851910474011583846643475412220225112032:=by
  rw [ab_s3]
  decide +kernel
 rw [sgKey,e];exact enc_mul _ 2069835776665309516713943708189358823604561644580851352028156240548609509407 _ (by decide) (by decide +kernel) (by decide +kernel)
theorem ab_s4 : sgAB (seedL 2 4) = [80,1,178,161,153,163,100,190,28,108,119,215,35,132,236,247,215,31,162,177,11,250,137,158,50,72,231,6,58,167,64,109]:=by
 have e : sgD (seedL 2 4) = [80,1,178,161,153,163,100,190,28,108,119,215,35,132,236,247,215,31,162,177,11,250,137,158,50,72,231,6,58,167,64,109,141,178,0,144,232,98,209,51,11,176,164,7,74,11,219,42,71,25,36,20,195,182,172,75,8,44,35,158,105,199,162,180]:=by
  have e1 : seedL 2 4 = [5,2,7,0,0,0,0,0,0,0,0,0,0,0,0,0,0,0,0,0,0,0,0,0,0,0,0,0,0,0,0,0]:=by decide
  unfold sgD
  rw [e1,digest_eq 1 _ (by decide) (by decide) (by decide +kernel)]
  decide +kernel
 rw [sgAB,e]
 decide +kernel
theorem key_s4 : sgKey (seedL 2 4) = [249,235,95,204,155,29,3,40,48,113,100,182,87,108,9,192,129,234,118,1,237,44,54,54,4,206,192,218,4,206,207,99]:=by
 have e : le (sgAB (seedL 2 4)) = 49416332863765691304153554655022700467342430817205485498069325592916804108624:=by
  rw [ab_s4]
  decide +kernel
 rw [sgKey,e];exact enc_mul _ 1648686736293881646123337587877367217590369786992045139126662723057923581131 _ (by decide) (by decide +kernel) (by decide +kernel)
theorem ab_s5 : sgAB (seedL 2 5) = [96,1,3,176,160,142,157,117,248,100,163,228,70,41,120,127,239,106,167,245,33,169,133,149,138,254,188,119,102,225,58,69]:=by
 have e : sgD (seedL 2 5) = [96,1,3,176,160,142,157,117,248,100,163,228,70,41,120,127,239,106,167,245,33,169,133,149,138,254,188,119,102,225,58,69,108,77,87,140,101,198,129,96,205,237,132,104,6,104,105,243,186,18,123,117,244,255,186,209,138,65,119,12,248,150,27,71]:=by
  have e1 : seedL 2 5 = [6,2,7,0,0,0,0,0,0,0,0,0,0,0,0,0,0,0,0,0,0,0,0,0,0,0,0,0,0,0,0,0]:=by decide
  unfold sgD
  rw [e1,digest_eq 1 _ (by decide) (by decide) (by decide +kernel)]
  decide +kernel
 rw [sgAB,e]
 decide +kernel
theorem key_s5 : sgKey (seedL 2 5) = [82,70,118,49,223,217,255,97,230,42,44,126,44,253,224,191,180,25,62,9,159,171,188,227,217,31,10,112,216,134,65,142]:=by
 have e : le (sgAB (seedL 2 5)) = 31313619337455025470014584870842569592135449972386053527472705165879566074208:=by
  rw [ab_s5]
  decide +kernel
 rw [sgKey,e];exact enc_mul _ 39734242912349475360259521713010815210131576194693757708706792473048834518904 _ (by decide) (by decide +kernel) (by decide +kernel)
theorem ab_s6 : sgAB (seedL 2 6) = [0,244,28,204,145,233,54,45,214,252,215,188,205,5,93,15,132,16,59,88,12,35,130,139,213,78,224,235,215,255,36,111]:=by
 have e : sgD (seedL 2 6) = [3,244,28,204,145,233,54,45,214,252,215,188,205,5,93,15,132,16,59,88,12,35,130,139,213,78,224,235,215,255,36,175,83,169,200,128,66,139,176,252,250,144,238,65,33,114,172,174,109,217,187,17,97,104,221,254,204,176,71,199,253,74,92,50]:=by
  have e1 : seedL 2 6 = [7,2,7,0,0,0,0,0,0,0,0,0,0,0,0,0,0,0,0,0,0,0,0,0,0,0,0,0,0,0,0,0]:=by decide
  unfold sgD
  rw [e1,digest_eq 1 _ (by decide) (by decide) (by decide +kernel)]
  decide +kernel
 rw [sgAB,e]
 decide +kernel
theorem key_s6 : sgKey (seedL 2 6) = [112,231,56,177,42,53,182,206,94,178,99,72,164,235,154,232,96,105,77,159,241,117,218,72,220,54,150,134,197,81,61,36]:=by
 have e : le (sgAB (seedL 2 6)) = 50272098453622219455389115180518222384344242105135165794889111794690123691008:=by
  rw [ab_s6]
  decide +kernel
 rw [sgKey,e];exact enc_mul _ 40695043743906538362069462685866801300749593191401267774408832188153124574609 _ (by decide) (by decide +kernel) (by decide +kernel)
noncomputable def keyL (n : Nat) : List (List UInt8):=(List.range n).map fun i=>sgKey (seedL 2 i)
theorem keyL_7 : keyL 7 = [[186,95,247,28,161,115,243,171,244,106,18,134,149,47,143,198,24,10,247,114,164,214,195,244,155,227,240,154,80,239,217,157],[148,8,82,123,231,209,221,120,8,12,134,125,236,224,244,38,143,255,1,56,177,47,108,125,189,163,7,152,162,23,25,253],[119,247,2,254,233,106,174,85,77,10,28,1,122,87,128,86,217,16,236,107,164,56,45,196,22,240,52,221,235,149,233,91],[86,213,62,252,206,141,88,46,210,110,243,154,165,133,40,249,240,244,24,148,58,110,161,198,31,55,5,153,252,136,6,80],[249,235,95,204,155,29,3,40,48,113,100,182,87,108,9,192,129,234,118,1,237,44,54,54,4,206,192,218,4,206,207,99],[82,70,118,49,223,217,255,97,230,42,44,126,44,253,224,191,180,25,62,9,159,171,188,227,217,31,10,112,216,134,65,142],[112,231,56,177,42,53,182,206,94,178,99,72,164,235,154,232,96,105,77,159,241,117,218,72,220,54,150,134,197,81,61,36]]:=by
 show [sgKey (seedL 2 0),sgKey (seedL 2 1),sgKey (seedL 2 2),sgKey (seedL 2 3),sgKey (seedL 2 4),sgKey (seedL 2 5),sgKey (seedL 2 6)] = _
 rw [key_s0,key_s1,key_s2,key_s3,key_s4,key_s5,key_s6]
theorem keyL_nodup {n : Nat} (h : n ≤ 7) : (keyL n).Nodup:=by
 have e : keyL n = (keyL 7).take n:=by
  unfold keyL
  rw [← List.map_take,List.take_range,Nat.min_eq_left h]
 rw [e];refine List.Nodup.sublist (List.take_sublist _ _) ?_;rw [keyL_7]
 decide +kernel
theorem keyL_len (n : Nat) : (keyL n).length = n:=by simp [keyL]
end Go.Proofs.YtlcbhbahchiofaaDoor
/-
  STEPS THAT HANG ON THE FRAME ALONE, ALL AT ONCE: moves, choices, parts of tuples, 'not', guards; reckoned by a function, so one line takes as many as there are.
-/
namespace Go.Proofs.YtlcbhbahchiofaaDoor
open Go.RowKit Go.IntWalk

def stepV (E : List (Nat × Value)) : Op → Option Value
  | .move x=>ev E x
  | .assign x=>ev E x
  | .pick c x y=>match ev E c with
    | some (.bool true)=>ev E x
    | some (.bool false)=>ev E y
    | _=>none
  | .extract x i=>match ev E x with
    | some (.tuple vs)=>vs[i]?
    | _=>none
  | .unOp .not _ x=>match ev E x with
    | some (.bool true)=>some (.bool false)
    | some (.bool false)=>some (.bool true)
    | _=>none
  | .nilCheck x=>match ev E x with
    | some (.pointer (some p))=>some (.pointer (some p))
    | _=>none
  | _=>none
def wantG (ops : Array Oper) (N : Nat) (E : List (Nat × Value)) (o : Oper) : Option Bool :=
  match o.guard with
  | none=>some true
  | some (j,b)=>match (ops[j]?).bind (·.dst) with
    | some t=>match Nat.blt t N with
      | true=>match look E t with
        | some (.bool true)=>some b
        | some (.bool false)=>some (!b)
        | _=>none
      | false=>none
    | none=>none
theorem wantG_ok {ops : Array Oper} {N : Nat} {E : List (Nat × Value)} {a : Act} {o : Oper} {q : Bool} (ha : Fr N E a) (h : wantG ops N E o = some q) : Region.wanted o (yielded ops a.tmps) = q:=by
 unfold wantG at h
 split at h
 ·rename_i hg
  injection h with h
  subst h
  simp [Region.wanted,hg]
 ·rename_i j b hg
  split at h
  ·rename_i t hj
   split at h
   ·rename_i hN
    have htN : t < a.tmps.size:=by rw [ha.size]; simpa using hN
    have key : ∀ c,look E t = some (.bool c) → a.tmps[t]? = some (.bool c):=fun c hc=>by
     have h2:=ha.get t _ hc;simp only [Act.eval,Array.getD_eq_getD_getElem?] at h2;rw [Array.getElem?_eq_getElem htN] at h2 ⊢
     simpa using h2
    split at h
    ·rename_i hc
     injection h with h
     subst h
     unfold Region.wanted
     rw [hg]
     simp [yielded,hj,key _ hc]
    ·rename_i hc
     injection h with h
     subst h
     unfold Region.wanted
     rw [hg]
     cases b <;> simp [yielded,hj,key _ hc]
    ·cases h
   ·cases h
  ·cases h
def bareO (o : Oper) : Oper:={ o with guard:=none }
section
variable {P : Program} {ops : Array Oper} {Q : Exit → Act → World → Prop}
theorem wpList_of_Bs {T : List Oper} : ∀ (L : List Oper) (a : Act) (w : World),L.all (fun o=>stillG o.op) = true → wpB P ops (· = w) (fun a'=>wpList P ops Q T a' w) L a → wpList P ops Q (L ++ T) a w
 | [],_,_,_,h=>h
 | o :: L,a,w,hs,h=>by
  rw [List.all_cons,Bool.and_eq_true] at hs
  have key : ∀ V : Value → Prop,atB P o a w V → (∀ v,V v → wpList P ops Q (L ++ T) (a.put o.dst v) w) → o.wp P a w (wpList P ops Q (L ++ T)) Q:=fun V h3 hk=>by
   unfold atB at h3
   unfold Oper.wp
   have hst:=fun n w'=>still_ok (P:=P) (ρ:=a.eval) (o:=o) (w:=w) (w':=w') (n:=n) hs.1;generalize (execOp a.eval o).run P w = r at *
   cases r with
   | ok n w' =>
    cases n <;> simp only [uponB] at h3 <;> simp only [Oper.upon]
    case value u =>
     obtain ⟨e1,e2⟩:=h3;rw [e1];exact hk _ e2
    case skip =>
     obtain ⟨e1,e2⟩:=h3;rw [e1];exact hk _ e2
    case enter f args =>
     rcases hst _ _ rfl with ⟨v,hv⟩ | hv <;> cases hv
   | halt x w'=>simp only [uponB] at h3
  rw [List.cons_append]
  unfold wpList
  unfold wpB at h
  split at h
  ·rename_i hw
   rw [if_pos hw];refine .inl ?_
   rcases h with ⟨v,h3,h4⟩ | ⟨_,V,h3,h4⟩
   ·exact key (· = v) (h3 w rfl) (fun u hu=>by rw [hu]; exact wpList_of_Bs L _ w hs.2 h4)
   ·exact key V (h3 w rfl) (fun u hu=>wpList_of_Bs L _ w hs.2 (h4 u hu))
  ·rename_i hw
   rw [if_neg hw];exact wpList_of_Bs L _ w hs.2 h
variable {N : Nat} {E : List (Nat × Value)} {w : World} {l T : List Oper}
end
end Go.Proofs.YtlcbhbahchiofaaDoor
/-
  STATES: frames whose slots hold values, addresses of variables, structs by their parts; variables by what lies in them; memory that is owned; facts that stay whatever becomes of what is owned.
-/
namespace Go.Proofs.YtlcbhbahchiofaaDoor
open Go.RowKit Go.IntWalk

/-! ### How worlds go on -/
structure Chg (D : Nat → Prop) (w w' : World) : Prop where
  os : w'.os = w.os
  tape : w'.tape = w.tape
  output : w'.output = w.output
  size : w.heap.size ≤ w'.heap.size
  block : ∀ k,k < w.heap.size → ¬ D k → w'.heap[k]? = w.heap[k]?
section
variable {D D' : Nat → Prop} {w w' w'' : World}
theorem Chg.refl (D : Nat → Prop) (w : World) : Chg D w w:=⟨rfl,rfl,rfl,Nat.le_refl _,fun _ _ _=>rfl⟩
theorem Chg.step (h : Chg D w w') (k : Chg D' w' w'') (hd : ∀ i,i < w.heap.size → D' i → D i) : Chg D w w'' :=
 ⟨k.os.trans h.os,k.tape.trans h.tape,k.output.trans h.output,Nat.le_trans h.size k.size,fun i hi hn=>(k.block i (Nat.lt_of_lt_of_le hi h.size) (fun h'=>hn (hd i hi h'))).trans (h.block i hi hn)⟩
theorem Chg.mono (h : Chg D w w') (hd : ∀ i,i < w.heap.size → D i → D' i) : Chg D' w w':=⟨h.os,h.tape,h.output,h.size,fun i hi hn=>h.block i hi fun h'=>hn (hd i hi h')⟩
theorem Chg.of_up (h : Up w w') : Chg D w w':=⟨h.os,h.tape,h.output,h.size,fun k hk _=>h.block k hk⟩
theorem Chg.up (h : Chg D w w') (hd : ∀ i,i < w.heap.size → ¬ D i) : Up w w':=⟨h.os,h.tape,h.output,h.size,fun k hk=>h.block k hk (hd k hk)⟩
theorem Chg.of_grown {r : Option Nat} (h : w.grownBy w' r) : Chg (fun k=>r = some k) w w':=⟨h.os,h.tape,h.output,h.size,fun k hk hn=>h.block k hk fun e=>hn e.symm⟩
theorem Chg.row (w : World) (g : Nat) (cs : Array Value) : Chg (fun k=>k = g) w (w.setRow g cs):=⟨rfl,rfl,rfl,by simp [World.setRow],fun k _ hn=>setRow_other w g k cs hn⟩
end
def Stb (D : Nat → Prop) (p : World → Prop) (w : World) : Prop:=∀ w',Chg D w w' → p w'
section
variable {D D' : Nat → Prop} {w w' : World} {p q : World → Prop}
theorem Stb.now (h : Stb D p w) : p w:=h w (Chg.refl _ _)
theorem Stb.step (h : Stb D p w) (k : Chg D w w') : Stb D p w':=fun w2 h2=>h w2 (k.step h2 fun _ _ h=>h)
theorem Stb.less (h : Stb D p w) (hd : ∀ k,k < w.heap.size → D' k → D k) : Stb D' p w:=fun w2 h2=>h w2 (h2.mono hd)
theorem Stb.imp (h : Stb D p w) (hpq : ∀ w,p w → q w) : Stb D q w:=fun w2 h2=>hpq _ (h w2 h2)
theorem Stb.and (h : Stb D p w) (h' : Stb D q w) : Stb D (fun w=>p w ∧ q w) w:=fun w2 h2=>⟨h w2 h2,h' w2 h2⟩
theorem Stb.past (h : Stb D p w) (k : Chg D w w') (hd : ∀ i,i < w.heap.size → D' i → D i) : Stb D' p w':=fun w2 h2=>h w2 (k.step h2 hd)
end
class Pst (p : World → Prop) : Prop where
  later : ∀ w w',p w → Below w.heap.size w w' → p w'
theorem Stb.of_pst {p : World → Prop} [hp : Pst p] {D : Nat → Prop} {w : World} (h : p w) (hd : ∀ k,k < w.heap.size → ¬ D k) : Stb D p w:=fun w' hw=>hp.later w w' h (hw.up hd)

/-! ### Parts, values -/
inductive SC where
  | v (x : Value)
  | b (e : Bool)
  | o (x : Value)
def SC.den : SC → Value
  | .v x=>x
  | .b e=>.bool e
  | .o x=>x
def SC.Ok : SC → Prop
  | .v _=>True
  | .b _=>True
  | .o x=>x.oneCell' = true ∧ x.cells = #[x]
inductive Pt where
  | one (s : SC)
  | agg (n : Nat) (cs : Array Value)
def Pt.cells : Pt → Array Value
  | .one s=>#[s.den]
  | .agg _ cs=>cs
def Pt.size : Pt → Nat
  | .one _=>1
  | .agg n _=>n
def Pt.Ok : Pt → Prop
  | .one s=>s.Ok ∧ s.den.oneCell' = true ∧ s.den.cells = #[s.den]
  | .agg n cs=>cs.size = n ∧ ∀ v ∈ cs.toList,v.oneCell' = true
theorem Pt.Ok.size {p : Pt} (h : p.Ok) : p.cells.size = p.size:=by
 cases p with
 | one v=>rfl
 | agg n cs=>exact h.1
theorem Pt.Ok.one {p : Pt} (h : p.Ok) : ∀ v ∈ p.cells.toList,v.oneCell' = true:=by
 cases p with
 | one v=>intro u hu; simp [Pt.cells] at hu; subst hu; exact h.2.1
 | agg n cs=>exact h.2
def catP : List Pt → Array Value
  | []=>#[]
  | [p]=>p.cells
  | p :: q :: r=>p.cells ++ catP (q :: r)
def sizeP : List Pt → Nat
  | []=>0
  | p :: r=>p.size + sizeP r
def OkP (ps : List Pt) : Prop:=∀ p ∈ ps,p.Ok
theorem catP_cons (p : Pt) (r : List Pt) : catP (p :: r) = p.cells ++ catP r:=by
 cases r with
 | nil=>simp [catP]
 | cons q r=>rfl
theorem OkP.size : ∀ {ps : List Pt},OkP ps → (catP ps).size = sizeP ps
 | [],_=>rfl
 | p :: r,h=>by rw [catP_cons,Array.size_append,OkP.size (ps:=r) (fun q hq=>h q (by simp [hq])),(h p (by simp)).size]; rfl
theorem OkP.one : ∀ {ps : List Pt},OkP ps → ∀ v ∈ (catP ps).toList,v.oneCell' = true
 | [],_,v,hv=>by simp [catP] at hv
 | p :: r,h,v,hv=>by
  rw [catP_cons,Array.toList_append,List.mem_append] at hv
  rcases hv with hv | hv
  ·exact (h p (by simp)).one v hv
  ·exact OkP.one (ps:=r) (fun q hq=>h q (by simp [hq])) v hv
def atP : List Pt → Nat → Option Pt
  | [],_=>none
  | p :: r,off=>match Nat.beq off 0 with
    | true=>some p
    | false=>match Nat.ble p.size off with
      | true=>atP r (off - p.size)
      | false=>none
def setP : List Pt → Nat → Pt → Option (List Pt)
  | [],_,_=>none
  | p :: r,off,q=>match Nat.beq off 0 with
    | true=>match Nat.beq p.size q.size with
      | true=>some (q :: r)
      | false=>none
    | false=>match Nat.ble p.size off with
      | true=>(setP r (off - p.size) q).map (p :: ·)
      | false=>none
theorem atP_ok : ∀ {ps : List Pt} {off : Nat} {p : Pt},OkP ps → atP ps off = some p → p.Ok ∧ ∃ A Z,(catP ps).toList = A ++ (p.cells.toList ++ Z) ∧ A.length = off
 | [],_,_,_,h=>by cases h
 | q :: r,off,p,hok,h=>by
  have hq:=hok q (by simp)
  unfold atP at h
  split at h
  ·rename_i e
   injection h with h
   subst h;exact ⟨hq,[],(catP r).toList,by rw [catP_cons]; simp,by simpa using (Nat.eq_of_beq_eq_true e).symm⟩
  ·split at h
   ·rename_i e
    have e:=Nat.le_of_ble_eq_true e;obtain ⟨h1,A,Z,h2,h3⟩:=atP_ok (fun x hx=>hok x (by simp [hx])) h;exact ⟨h1,q.cells.toList ++ A,Z,by rw [catP_cons,Array.toList_append,h2,List.append_assoc],by rw [List.length_append,h3,Array.length_toList,hq.size]; omega⟩
   ·cases h
theorem setP_ok : ∀ {ps ps' : List Pt} {off : Nat} {q : Pt},OkP ps → q.Ok → setP ps off q = some ps' → OkP ps' ∧ sizeP ps' = sizeP ps ∧ ∃ A B Z,(catP ps).toList = A ++ (B ++ Z) ∧ A.length = off ∧ B.length = q.size ∧ (catP ps').toList = A ++ (q.cells.toList ++ Z)
 | [],_,_,_,_,_,h=>by cases h
 | p :: r,ps',off,q,hok,hq,h=>by
  have hp:=hok p (by simp)
  unfold setP at h
  split at h
  ·rename_i e
   split at h
   ·rename_i e2
    injection h with h
    subst h;have e2:=Nat.eq_of_beq_eq_true e2;refine ⟨fun x hx=>?_,by simp only [sizeP,e2],[],p.cells.toList,(catP r).toList,by rw [catP_cons]; simp,by simpa using (Nat.eq_of_beq_eq_true e).symm,by rw [Array.length_toList,hp.size,e2],by rw [catP_cons]; simp⟩
    rcases List.mem_cons.1 hx with rfl | hx
    ·exact hq
    ·exact hok x (by simp [hx])
   ·cases h
  ·split at h
   ·rename_i e
    have e:=Nat.le_of_ble_eq_true e
    cases hs : setP r (off - p.size) q with
    | none=>rw [hs] at h; cases h
    | some r' =>
     rw [hs] at h;simp only [Option.map_some,Option.some.injEq] at h;subst h;obtain ⟨h1,h2,A,B,Z,h3,h4,h5,h6⟩:=setP_ok (fun x hx=>hok x (by simp [hx])) hq hs;refine ⟨fun x hx=>?_,by simp only [sizeP,h2],p.cells.toList ++ A,B,Z,by rw [catP_cons,Array.toList_append,h3,List.append_assoc],by rw [List.length_append,h4,Array.length_toList,hp.size]; omega,h5,by rw [catP_cons,Array.toList_append,h6,List.append_assoc]⟩
     rcases List.mem_cons.1 hx with rfl | hx
     ·exact hp
     ·exact h1 x hx
   ·cases h

inductive SQ where
  | c (s : SC)
  | p (ps : List Pt)
def SQ.den : SQ → Value
  | .c s=>s.den
  | .p ps=>.agg (catP ps)
def SQ.Ok : SQ → Prop
  | .c s=>s.Ok
  | .p ps=>OkP ps
inductive SV where
  | q (x : SQ)
  | a (j off : Nat)
  | s (j off n c : Nat)
  | t (vs : List SQ)
@[match_pattern] abbrev SV.v (x : Value) : SV:=.q (.c (.v x))
@[match_pattern] abbrev SV.b (e : Bool) : SV:=.q (.c (.b e))
@[match_pattern] abbrev SV.o (x : Value) : SV:=.q (.c (.o x))
@[match_pattern] abbrev SV.p (ps : List Pt) : SV:=.q (.p ps)
def SV.den (G : Nat → Nat) : SV → Value
  | .q x=>x.den
  | .a j off=>.pointer (some ⟨G j,off,none⟩)
  | .s j off n c=>.slice (some ⟨G j,off,none⟩) n c
  | .t vs=>.tuple (vs.map SQ.den).toArray
def SV.Ok : SV → Prop
  | .q x=>x.Ok
  | .a _ _=>True
  | .s _ _ _ _=>True
  | .t vs=>∀ x ∈ vs,x.Ok
def SV.farB (j : Nat) : SV → Bool
  | .a i _=>!Nat.beq i j
  | .s i _ _ _=>!Nat.beq i j
  | _=>true
abbrev SE:=List (Nat × SV)
def lookS : SE → Nat → Option SV
  | [],_=>none
  | (k,v) :: r,j=>match Nat.beq k j with
    | true=>some v
    | false=>lookS r j
def denE (G : Nat → Nat) : SE → List (Nat × Value)
  | []=>[]
  | (k,v) :: r=>(k,v.den G) :: denE G r
theorem look_den (G : Nat → Nat) : ∀ (E : SE) (j : Nat),look (denE G E) j = (lookS E j).map (SV.den G)
 | [],_=>rfl
 | (k,v) :: r,j=>by
  unfold denE look lookS
  cases Nat.beq k j with
  | true=>rfl
  | false=>exact look_den G r j
def OkE (E : SE) : Prop:=∀ x ∈ E,x.2.Ok
theorem lookS_mem : ∀ {E : SE} {j : Nat} {v : SV},lookS E j = some v → (j,v) ∈ E
 | [],_,_,h=>by cases h
 | (k,u) :: r,j,v,h=>by
  unfold lookS at h
  split at h
  ·rename_i e
   obtain rfl:=Nat.eq_of_beq_eq_true e
   cases h
   exact List.mem_cons_self
  ·exact List.mem_cons_of_mem _ (lookS_mem h)
theorem OkE.get {E : SE} (h : OkE E) {j : Nat} {v : SV} (hj : lookS E j = some v) : v.Ok:=h _ (lookS_mem hj)
theorem OkE.cons {E : SE} (h : OkE E) {k : Nat} {v : SV} (hv : v.Ok) : OkE ((k,v) :: E):=fun x hx=>by
 rcases List.mem_cons.1 hx with rfl | hx
 ·exact hv
 ·exact h x hx
def evS (E : SE) : Operand → Option SV
  | .tmp t=>lookS E t
  | .const v=>some (.v v)
  | .global g=>some (.v (.pointer (some ⟨g,0,none⟩)))
  | .func f=>some (.v (.func (.func f) #[] #[]))
theorem evS_ok {G : Nat → Nat} {E : SE} {x : Operand} {v : SV} (h : evS E x = some v) : ev (denE G E) x = some (v.den G):=by
 cases x with
 | tmp t =>
  show look (denE G E) t = _
  rw [look_den];rw [show lookS E t = some v from h]
  rfl
 | const u=>cases h; rfl
 | global g=>cases h; rfl
 | func f=>cases h; rfl
theorem OkE.ev {E : SE} (h : OkE E) {x : Operand} {v : SV} (hx : evS E x = some v) : v.Ok:=by
 cases x with
 | tmp t=>exact h.get hx
 | const u=>cases hx; trivial
 | global g=>cases hx; trivial
 | func f=>cases hx; trivial
def evSs (E : SE) : List Operand → Option (List SV)
  | []=>some []
  | x :: r=>match evS E x,evSs E r with
    | some v,some vs=>some (v :: vs)
    | _,_=>none
theorem evSs_ok {G : Nat → Nat} {E : SE} : ∀ {xs : List Operand} {vs : List SV},evSs E xs = some vs → xs.map (ev (denE G E)) = (vs.map (SV.den G)).map some
 | [],vs,h=>by cases h; rfl
 | x :: r,vs,h=>by
  unfold evSs at h
  split at h
  ·rename_i v us h1 h2
   injection h with h
   subst h;rw [List.map_cons,evS_ok h1,evSs_ok h2]
   rfl
  ·cases h

/-! ### Variables -/
structure LV where
  j : Nat
  g : Option Nat
  t : TypeId
  ps : List Pt
def lookL : List LV → Nat → Option (List Pt)
  | [],_=>none
  | x :: r,j=>match Nat.beq x.j j with
    | true=>some x.ps
    | false=>lookL r j
theorem lookL_mem : ∀ {L : List LV} {j : Nat} {ps : List Pt},lookL L j = some ps → ∃ x ∈ L,x.j = j ∧ x.ps = ps
 | [],_,_,h=>by cases h
 | x :: r,j,ps,h=>by
  unfold lookL at h
  split at h
  ·rename_i e
   injection h with h
   exact ⟨x,List.mem_cons_self,Nat.eq_of_beq_eq_true e,h⟩
  ·obtain ⟨y,h1,h2⟩:=lookL_mem h
   exact ⟨y,List.mem_cons_of_mem _ h1,h2⟩
def putL : List LV → Nat → List Pt → List LV
  | [],_,_=>[]
  | x :: r,j,ps=>match Nat.beq x.j j with
    | true=>{ x with ps:=ps } :: r
    | false=>x :: putL r j ps
def namesL (L : List LV) : List Nat:=L.map (·.j)
theorem putL_names : ∀ (L : List LV) (j : Nat) (ps : List Pt),namesL (putL L j ps) = namesL L
 | [],_,_=>rfl
 | x :: r,j,ps=>by
  unfold putL
  split
  ·rfl
  ·exact congrArg (x.j :: ·) (putL_names r j ps)
def farL (j : Nat) : List LV → Bool
  | []=>true
  | x :: r=>!Nat.beq x.j j && farL j r

/-! ### Owned memory -/
structure Res where
  holds : World → (Nat → Prop) → Prop
  keep : ∀ {w w' : World} {S : Nat → Prop},holds w S → (∀ k,S k → w'.heap[k]? = w.heap[k]?) → holds w' S
  lt : ∀ {w : World} {S : Nat → Prop},holds w S → ∀ k,S k → k < w.heap.size
def starL : List Res → World → (Nat → Prop) → Prop
  | [],_,S=>∀ k,¬ S k
  | r :: R,w,S=>∃ S1 S2,r.holds w S1 ∧ starL R w S2 ∧ (∀ k,S k ↔ S1 k ∨ S2 k) ∧ ∀ k,S1 k → ¬ S2 k
theorem starL.keep : ∀ {R : List Res} {w w' : World} {S : Nat → Prop},starL R w S → (∀ k,S k → w'.heap[k]? = w.heap[k]?) → starL R w' S
 | [],_,_,_,h,_=>h
 | r :: _,_,_,_,⟨S1,S2,h1,h2,h3,h4⟩,hk=>⟨S1,S2,r.keep h1 fun k hs=>hk k ((h3 k).2 (.inl hs)),h2.keep fun k hs=>hk k ((h3 k).2 (.inr hs)),h3,h4⟩
theorem starL.lt : ∀ {R : List Res} {w : World} {S : Nat → Prop},starL R w S → ∀ k,S k → k < w.heap.size
 | [],_,_,h,k,hs=>absurd hs (h k)
 | r :: _,_,_,⟨_,_,h1,h2,h3,_⟩,k,hs=>((h3 k).1 hs).elim (r.lt h1 k) (h2.lt k)
theorem starL.same {R : List Res} {w : World} {S S' : Nat → Prop} (h : starL R w S) (e : ∀ k,S k ↔ S' k) : starL R w S':=by
 have : S = S':=funext fun k=>propext (e k)
 rwa [← this]
theorem starL.app : ∀ {R R' : List Res} {w : World} {S : Nat → Prop},starL (R ++ R') w S ↔ ∃ S1 S2,starL R w S1 ∧ starL R' w S2 ∧ (∀ k,S k ↔ S1 k ∨ S2 k) ∧ ∀ k,S1 k → ¬ S2 k
 | [],R',w,S=>⟨fun h=>⟨fun _=>False,S,fun _ h=>h,h,fun k=>⟨.inr,fun h=>h.elim False.elim id⟩,fun _ h=>h.elim⟩,fun ⟨S1,S2,h1,h2,h3,_⟩=>by
   show starL R' w S
   exact h2.same fun k=>⟨fun h=>(h3 k).2 (.inr h),fun h=>((h3 k).1 h).resolve_left (h1 k)⟩⟩
 | r :: R,R',w,S=>by
  constructor
  ·rintro ⟨S1,S2,h1,h2,h3,h4⟩
   obtain ⟨S3,S4,h5,h6,h7,h8⟩:=starL.app.1 h2;refine ⟨fun k=>S1 k ∨ S3 k,S4,⟨S1,S3,h1,h5,fun k=>Iff.rfl,fun k hk h=>h4 k hk ((h7 k).2 (.inl h))⟩,h6,fun k=>?_,fun k hk h=>?_⟩
   ·rw [h3 k,h7 k,or_assoc]
   ·rcases hk with hk | hk
    ·exact h4 k hk ((h7 k).2 (.inr h))
    ·exact h8 k hk h
  ·rintro ⟨S0,S4,⟨S1,S3,h1,h5,h9,h10⟩,h6,h3,h8⟩
   refine ⟨S1,fun k=>S3 k ∨ S4 k,h1,starL.app.2 ⟨S3,S4,h5,h6,fun k=>Iff.rfl,fun k hk=>h8 k ((h9 k).2 (.inr hk))⟩,fun k=>by rw [h3 k,h9 k,or_assoc],fun k hk h=>?_⟩
   rcases h with h | h
   ·exact h10 k hk h
   ·exact h8 k ((h9 k).2 (.inl hk)) h

theorem starL.perm {R R' : List Res} (h : R.Perm R') : ∀ {w : World} {S : Nat → Prop},starL R w S → starL R' w S:=by
 induction h with
 | nil=>exact fun h=>h
 | cons r _ ih =>
  rintro w S ⟨S1,S2,h1,h2,h3⟩
  exact ⟨S1,S2,h1,ih h2,h3⟩
 | swap r r' R =>
  rintro w S ⟨S1,S2,h1,⟨S3,S4,h3,h4,h5,h6⟩,h7,h8⟩
  refine ⟨S3,fun k=>S1 k ∨ S4 k,h3,⟨S1,S4,h1,h4,fun _=>Iff.rfl,fun k hk hk'=>h8 k hk ((h5 k).2 (.inr hk'))⟩,fun k=>?_,fun k hk hk'=>?_⟩
  ·rw [h7 k,h5 k,← or_assoc,← or_assoc,or_comm (a:=S1 k)]
  ·rcases hk' with hk' | hk'
   ·exact h8 k hk' ((h5 k).2 (.inl hk))
   ·exact h6 k hk hk'
 | trans _ _ ih1 ih2=>exact fun h=>ih2 (ih1 h)
theorem starL.at : ∀ {R : List Res} {i : Nat} {r : Res} {w : World} {S : Nat → Prop},starL R w S → R[i]? = some r → ∃ S1 S2,r.holds w S1 ∧ (∀ k,S k ↔ S1 k ∨ S2 k) ∧ (∀ k,S1 k → ¬ S2 k) ∧ starL (R.eraseIdx i) w S2 ∧
  ∀ (r' : Res) (w' : World) (S' : Nat → Prop),r'.holds w' S' → (∀ k,S2 k → w'.heap[k]? = w.heap[k]?) → (∀ k,S' k → ¬ S2 k) → starL (R.set i r') w' fun k=>S' k ∨ S2 k
 | [],_,_,_,_,_,h=>by simp at h
 | r0 :: R,0,r,w,S,⟨S1,S2,h1,h2,h3,h4⟩,h=>by
  simp only [List.getElem?_cons_zero,Option.some.injEq] at h;subst h;exact ⟨S1,S2,h1,h3,h4,h2,fun r' w' S' hr hk hd=>⟨S',S2,hr,h2.keep hk,fun _=>Iff.rfl,hd⟩⟩
 | r0 :: R,i + 1,r,w,S,⟨S0,S',h1,h2,h3,h4⟩,h=>by
  obtain ⟨S1,S2,h5,h6,h7,h8,h9⟩:=starL.at h2 (by simpa using h);refine ⟨S1,fun k=>S0 k ∨ S2 k,h5,fun k=>?_,fun k hk hk'=>?_,⟨S0,S2,h1,h8,fun _=>Iff.rfl,fun k hk hk'=>h4 k hk ((h6 k).2 (.inr hk'))⟩,fun r' w' S3 hr hk hd=>?_⟩
  ·rw [h3 k,h6 k,← or_assoc,← or_assoc,or_comm (a:=S0 k)]
  ·rcases hk' with hk' | hk'
   ·exact h4 k hk' ((h6 k).2 (.inl hk))
   ·exact h7 k hk hk'
  ·refine ⟨S0,fun k=>S3 k ∨ S2 k,r0.keep h1 fun k hs=>hk k (.inl hs),h9 r' w' S3 hr (fun k hs=>hk k (.inr hs)) (fun k hs hs'=>hd k hs (.inr hs')),fun k=>?_,fun k hk0 hs=>?_⟩
   ·exact or_left_comm
   ·rcases hs with hs | hs
    ·exact hd k hs (.inl hk0)
    ·exact h4 k hk0 ((h6 k).2 (.inr hs))

/-! ### States -/
structure Env where
  E : SE
  L : List LV
  R : List Res
  F : World → Prop
  M : World → Prop
def Mine (S : Nat → Prop) (G : Nat → Nat) (L : List LV) (k : Nat) : Prop:=S k ∨ ∃ j ∈ namesL L,G j = k
def Dof (X S : Nat → Prop) (G : Nat → Nat) (L : List LV) (k : Nat) : Prop:=X k ∨ Mine S G L k
structure Base where
  X : Nat → Prop
  B : World
  D : Nat → Prop
def Nof (b : Base) (S : Nat → Prop) (G : Nat → Nat) (L : List LV) (k : Nat) : Prop:=k < b.B.heap.size ∨ Mine S G L k
structure StW (b : Base) (G : Nat → Nat) (S : Nat → Prop) (L : List LV) (R : List Res) (F M : World → Prop) (w : World) : Prop where
  var : ∀ x ∈ L,Blk w (G x.j) x.t (catP x.ps) ∧ OkP x.ps ∧ ∀ g,x.g = some g → G x.j = g
  apart : (namesL L).Pairwise fun i j=>G i ≠ G j
  res : starL R w S
  sep : ∀ j ∈ namesL L,¬ S (G j)
  fact : Stb (Dof b.X S G L) F w
  fresh : Stb (Nof b S G L) M w
  chg : Chg b.D b.B w
  mine : ∀ k,Mine S G L k → k < b.B.heap.size → b.D k
  old : ∀ k,b.X k → k < b.B.heap.size ∧ ¬ b.D k
structure StA (b : Base) (N : Nat) (e : Env) (G : Nat → Nat) (S : Nat → Prop) (a : Act) (w : World) : Prop where
  fr : Fr N (denE G e.E) a
  ok : OkE e.E
  st : StW b G S e.L e.R e.F e.M w
def St (b : Base) (N : Nat) (e : Env) (a : Act) (w : World) : Prop:=∃ G S,StA b N e G S a w
section
variable {b : Base} {G : Nat → Nat} {S : Nat → Prop} {L : List LV} {R : List Res} {F M : World → Prop} {w w' : World}
theorem Dof.nof (h : ∀ k,b.X k → k < b.B.heap.size ∧ ¬ b.D k) {k : Nat} (hk : Dof b.X S G L k) : Nof b S G L k:=hk.imp (fun hx=>(h k hx).1) id
theorem StW.lt (h : StW b G S L R F M w) : ∀ k,Mine S G L k → k < w.heap.size:=fun k hk=>by
 rcases hk with hk | ⟨j,hj,rfl⟩
 ·exact h.res.lt k hk
 ·obtain ⟨x,hx,rfl⟩:=List.mem_map.1 hj
  exact (h.var x hx).1.lt
theorem StW.later (h : StW b G S L R F M w) (k : Below w.heap.size w w') : StW b G S L R F M w' :=
 ⟨fun x hx=>⟨(h.var x hx).1.later k,(h.var x hx).2⟩,h.apart,h.res.keep fun i hi=>k.block i (h.res.lt i hi),h.sep,h.fact.step (Chg.of_up k),h.fresh.step (Chg.of_up k),h.chg.step (D':=fun _=>False) (Chg.of_up k) (fun _ _ h=>h.elim),h.mine,h.old⟩
theorem StW.all (h : StW b G S L R F M w) : Stb (Dof b.X S G L) (fun w=>F w ∧ M w) w:=h.fact.and (h.fresh.less fun _ _ hk=>hk.nof h.old)
theorem StW.imp (h : StW b G S L R F M w) {F' M' : World → Prop} (hF : ∀ w,F w → M w → F' w) (hM : ∀ w,M w → M' w) : StW b G S L R F' M' w:={ h with fact:=h.all.imp fun w hw=>hF w hw.1 hw.2,fresh:=h.fresh.imp hM }
theorem StW.and (h : StW b G S L R F M w) {p : World → Prop} (hp : Stb (Dof b.X S G L) p w) : StW b G S L R (fun w=>p w ∧ F w) M w:={ h with fact:=hp.and h.fact }
theorem StW.andM (h : StW b G S L R F M w) {p : World → Prop} (hp : Stb (Nof b S G L) p w) : StW b G S L R F (fun w=>p w ∧ M w) w:={ h with fresh:=hp.and h.fresh }
end
end Go.Proofs.YtlcbhbahchiofaaDoor
/-
  STEPS OVER STATES THAT ARE RECKONED AT ONCE: moves, choices, parts of variables read and written, new variables, structs put together.
-/
namespace Go.Proofs.YtlcbhbahchiofaaDoor
open Go.RowKit Go.IntWalk

/-! ### Types, by the parts of their noughts -/
structure TyR where
  t : TypeId
  kind : Nat
  zero : List Pt
  el : Option TypeId:=none
  ik : Option IntKind:=none
  pt : Bool:=false
  w : Nat:=8
def kindOf : TypeDesc → Nat
  | .array _ _=>1
  | .struct _=>2
  | _=>0
def elOf : TypeDesc → Option TypeId
  | .slice e=>some e
  | _=>none
def ikOf : TypeDesc → Option IntKind
  | .int k=>some k
  | _=>none
def ptOf : TypeDesc → Bool
  | .pointer _=>true
  | _=>false
def rowOf (P : Program) (t : TypeId) : Option (Nat × Option (Array Value) × Nat × Option (List (Nat × Nat)) × Option TypeId × Option IntKind × Bool × Nat) :=
  match P.info? t,P.underlying t with
  | some it,some d=>some (it.size,it.zero.map (·.cells),kindOf d,(match d with
    | .struct fs=>fs.toList.mapM fun f=>(P.info? f.type).map fun i=>(f.offset,i.size)
    | .array _ e=>(P.info? e).map fun _=>[]
    | _=>some []),elOf d,ikOf d,ptOf d,it.bytes)
  | _,_=>none
def placesP : Nat → List Pt → List (Nat × Nat)
  | _,[]=>[]
  | o,p :: r=>(o,p.size) :: placesP (o + p.size) r
def TyR.ok (P : Program) (r : TyR) : Prop:=rowOf P r.t = some (sizeP r.zero,some (catP r.zero),r.kind,some (match r.kind with | 2=>placesP 0 r.zero | _=>[]),r.el,r.ik,r.pt,r.w) ∧ OkP r.zero
def OkT (P : Program) (T : List TyR) : Prop:=∀ r ∈ T,r.ok P
def isOneB : Value → Bool
  | .agg _=>false
  | .tuple _=>false
  | _=>true
theorem isOneB_ok {v : Value} (h : isOneB v = true) : v.oneCell' = true ∧ v.cells = #[v]:=by
 cases v <;> first | exact ⟨rfl,rfl⟩ | cases h
def okPB (ps : List Pt) : Bool:=ps.all fun p=>match p with
  | .one (.v v)=>isOneB v
  | .one _=>false
  | .agg n cs=>cs.size == n && cs.toList.all fun v=>v.oneCell'
theorem okPB_ok {ps : List Pt} (h : okPB ps = true) : OkP ps:=fun p hp=>by
 have:=List.all_eq_true.1 h p hp
 cases p with
 | one s =>
  cases s with
  | v x=>exact ⟨trivial,isOneB_ok this⟩
  | b e=>cases this
  | o x=>cases this
 | agg n cs =>
  simp only [Bool.and_eq_true,beq_iff_eq,List.all_eq_true] at this;exact this
theorem okT_of {P : Program} {T : List TyR} (h : T.map (fun r=>rowOf P r.t) = T.map fun r=>some (sizeP r.zero,some (catP r.zero),r.kind,some (match r.kind with | 2=>placesP 0 r.zero | _=>[]),r.el,r.ik,r.pt,r.w))
  (h2 : (T.all fun r=>okPB r.zero) = true) : OkT P T:=fun r hr=>by
 refine ⟨?_,okPB_ok (List.all_eq_true.1 h2 r hr)⟩;obtain ⟨i,hi,rfl⟩:=List.getElem_of_mem hr;have h1:=congrArg (·[i]?) h
 simpa [hi] using h1
def findT : List TyR → TypeId → Option TyR
  | [],_=>none
  | r :: T,t=>match Nat.beq r.t t with
    | true=>some r
    | false=>findT T t
theorem findT_ok {P : Program} : ∀ {T : List TyR} {t : TypeId} {r : TyR},OkT P T → findT T t = some r → r.ok P ∧ r.t = t
 | [],_,_,_,h=>by cases h
 | r0 :: T,t,r,hT,h=>by
  unfold findT at h
  split at h
  ·rename_i e
   injection h with h
   subst h;exact ⟨hT _ List.mem_cons_self,Nat.eq_of_beq_eq_true e⟩
  ·exact findT_ok (fun r hr=>hT r (List.mem_cons_of_mem _ hr)) h
section
variable {P : Program} {r : TyR}
theorem TyR.ok.info (h : r.ok P) : ∃ it d,P.info? r.t = some it ∧ P.underlying r.t = some d ∧ it.size = sizeP r.zero ∧ it.zero.map (·.cells) = some (catP r.zero) ∧ kindOf d = r.kind ∧
  (match d with | .struct fs=>fs.toList.mapM fun f=>(P.info? f.type).map fun i=>(f.offset,i.size) | .array _ e=>(P.info? e).map fun _=>[] | _=>some []) = some (match r.kind with | 2=>placesP 0 r.zero | _=>[]) ∧ elOf d = r.el ∧ ikOf d = r.ik ∧ ptOf d = r.pt ∧ it.bytes = r.w:=by
 have h1:=h.1
 unfold rowOf at h1
 split at h1
 ·rename_i it d h2 h3
  simp only [Option.some.injEq,Prod.mk.injEq] at h1;exact ⟨it,d,h2,h3,h1.1,h1.2.1,h1.2.2.1,h1.2.2.2.1,h1.2.2.2.2⟩
 ·cases h1
end
theorem kind_row {d : TypeDesc} (h : kindOf d ≠ 0) : d.isRow = true:=by
 cases d <;> first | rfl | exact absurd rfl h
theorem kind_not {d : TypeDesc} (h : kindOf d = 0) : d.isRow = false:=by
 cases d <;> first | rfl | cases h

/-! ### Loads and stores -/
def loadS (T : List TyR) (ps : List Pt) (t : TypeId) (off : Nat) : Option SQ:=match findT T t with
  | none=>none
  | some r=>match r.kind with
    | 0=>match atP ps off with
      | some (.one v)=>some (.c v)
      | _=>none
    | _ + 1=>match Nat.beq off 0,Nat.beq (sizeP ps) (sizeP r.zero) with
      | true,true=>some (.p ps)
      | _,_=>match atP ps off with
        | some (.agg n cs)=>match Nat.beq n (sizeP r.zero) with
          | true=>some (.p [.agg n cs])
          | false=>none
        | _=>none
theorem range_of {w : World} {g ty : Nat} {cs : Array Value} {A B Z : List Value} (hb : Blk w g ty cs) (h : cs.toList = A ++ (B ++ Z)) : w.rangeAt g A.length B:=fun j v hj=>by
 rw [hb.cell]
 have h1 : cs.toList[A.length + j]? = some v:=by
  rw [h,List.getElem?_append_right (by omega),Nat.add_sub_cancel_left,List.getElem?_append_left (List.getElem?_eq_some_iff.1 hj).1];exact hj
 simpa using h1
theorem run_load_cell {P : Program} {w : World} {t : TypeId} {a : Addr} {v : Value} {d : TypeDesc} (hu : P.underlying t = some d) (hd : d.isRow = false) (hc : w.cell? a = some v) : (Instr.loadAt t (.pointer (some a))).run P w = .ok v w:=by
 have h1 : (isAgg t).run P w = .ok false w:=by
  unfold isAgg
  simp only [Sem.run_bind,run_underlying hu,Result.andThen_ok]
  cases d <;> first | rfl | cases hd
 simp only [Instr.loadAt,Instr.sureAddr,loadVar,Sem.run_bind,Sem.run_pure,Result.andThen_ok,h1,Bool.false_eq_true,if_false]
 simp [load,Sem.run,hc]
theorem run_load_row {P : Program} {w : World} {t : TypeId} {g off : Nat} {cs : Array Value} {d : TypeDesc} (hu : P.underlying t = some d) (hd : d.isRow = true) (hi : (P.info? t).map (·.size) = some cs.size) (hc : w.rangeAt g off cs.toList) :
  (Instr.loadAt t (.pointer (some ⟨g,off,none⟩))).run P w = .ok (.agg cs) w:=by
 have h1:=run_loadVar_mid w g off t cs.toList d hc hu hd (by simpa using hi);simp only [Instr.loadAt,Instr.sureAddr,Sem.run_bind,Sem.run_pure,Result.andThen_ok,h1,Array.toArray_toList]
theorem range_in {w : World} {g base : Nat} {cs A B Z : List Value} (hb : w.rangeAt g base cs) (h : cs = A ++ (B ++ Z)) : w.rangeAt g (base + A.length) B:=fun j v hj=>by
 rw [Nat.add_assoc];refine hb (A.length + j) v ?_;rw [h,List.getElem?_append_right (by omega),Nat.add_sub_cancel_left,List.getElem?_append_left (List.getElem?_eq_some_iff.1 hj).1];exact hj
theorem loadS_at {P : Program} {T : List TyR} (hT : OkT P T) {ps : List Pt} {t : TypeId} {off : Nat} {q : SQ} (hok : OkP ps) (h : loadS T ps t off = some q) :
  q.Ok ∧ ∀ {w : World} {g base : Nat},w.rangeAt g base (catP ps).toList → (Instr.loadAt t (.pointer (some ⟨g,base + off,none⟩))).run P w = .ok q.den w:=by
 unfold loadS at h
 split at h
 ·cases h
 rename_i r hr
 have hro:=findT_ok hT hr;clear hr;obtain ⟨hro,rfl⟩:=hro;obtain ⟨it,d,h1,h2,h3,h4,h5, -⟩:=hro.info
 split at h
 ·rename_i hk
  split at h
  ·rename_i v hv
   injection h with h
   subst h;obtain ⟨ho,A,Z,e,hA⟩:=atP_ok hok hv;refine ⟨ho.1,fun hb=>run_load_cell h2 (kind_not (by rw [h5,hk])) ?_⟩;have:=range_in hb e 0 v.den rfl
   rwa [hA,Nat.add_zero] at this
  ·cases h
 ·rename_i hk
  have hd : d.isRow = true:=kind_row (by rw [h5,hk]; omega)
  split at h
  ·rename_i e1 e2
   injection h with h
   subst h;obtain rfl:=Nat.eq_of_beq_eq_true e1;exact ⟨hok,fun hb=>run_load_row h2 hd (by rw [h1,Option.map_some,h3,hok.size,Nat.eq_of_beq_eq_true e2]) hb⟩
  ·split at h
   ·rename_i n cs hv
    split at h
    ·rename_i e
     injection h with h
     subst h;obtain ⟨ho,A,Z,e3,hA⟩:=atP_ok hok hv;refine ⟨fun p hp=>by rw [List.mem_singleton.1 hp]; exact ho,fun hb=>run_load_row h2 hd (by rw [h1,Option.map_some,h3]; exact congrArg some ((Nat.eq_of_beq_eq_true e).symm.trans ho.1.symm)) ?_⟩;have:=range_in hb e3
     rwa [hA] at this
    ·cases h
   ·cases h
theorem loadS_ok {P : Program} {T : List TyR} (hT : OkT P T) {ps : List Pt} {t : TypeId} {off : Nat} {q : SQ} (hok : OkP ps) (h : loadS T ps t off = some q) :
  q.Ok ∧ ∀ {w : World} {g ty : Nat},Blk w g ty (catP ps) → (Instr.loadAt t (.pointer (some ⟨g,off,none⟩))).run P w = .ok q.den w:=by
 obtain ⟨h1,h2⟩:=loadS_at hT hok h;refine ⟨h1,fun {w g ty} hb=>?_⟩;have h3 : w.rangeAt g 0 (catP ps).toList:=range_of (A:=[]) (Z:=[]) hb (by simp);have:=h2 h3
 rwa [Nat.zero_add] at this
def fitC : SC → Bool
  | .v x=>isOneB x
  | _=>true
theorem fitC_ok {s : SC} (hs : s.Ok) (h : fitC s = true) : s.den.oneCell' = true ∧ s.den.cells = #[s.den]:=by
 cases s with
 | v x=>exact isOneB_ok h
 | b e=>exact ⟨rfl,rfl⟩
 | o x=>exact hs
def fitP (n : Nat) : SQ → Option Pt
  | .c s=>match Nat.beq n 1,fitC s with
    | true,true=>some (.one s)
    | _,_=>none
  | .p ps=>match Nat.beq (sizeP ps) n with
    | true=>match ps with
      | [.agg m cs]=>some (.agg m cs)
      | _=>some (.agg n (catP ps))
    | false=>none
theorem fitP_ok {n : Nat} {q : SQ} {p : Pt} (hq : q.Ok) (h : fitP n q = some p) : p.Ok ∧ p.size = n ∧ q.den.cells = p.cells:=by
 cases q with
 | c s =>
  simp only [fitP] at h
  split at h
  ·rename_i e1 e2
   injection h with h
   subst h;obtain ⟨h1,h2⟩:=fitC_ok hq e2;exact ⟨⟨hq,h1,h2⟩,(Nat.eq_of_beq_eq_true e1).symm,h2⟩
  ·cases h
 | p ps =>
  simp only [fitP] at h
  split at h
  ·rename_i e
   have e:=Nat.eq_of_beq_eq_true e
   split at h
   ·rename_i m cs
    injection h with h
    subst h;exact ⟨hq _ List.mem_cons_self,e,rfl⟩
   ·injection h with h
    subst h;exact ⟨⟨(OkP.size hq).trans e,OkP.one hq⟩,rfl,rfl⟩
  ·cases h
def SQ.parts : SQ → Option (List Pt)
  | .p ps=>some ps
  | _=>none
theorem SQ.parts_ok {q : SQ} {ps : List Pt} (h : q.parts = some ps) : q = .p ps:=by
 cases q with
 | c x=>cases h
 | p qs=>cases h; rfl
def storeS (T : List TyR) (ps : List Pt) (t : TypeId) (off : Nat) (q : SQ) : Option (List Pt):=match findT T t with
  | none=>none
  | some r=>match Nat.beq off 0,Nat.beq (sizeP ps) (sizeP r.zero),q.parts with
    | true,true,some qs=>match Nat.beq (sizeP qs) (sizeP r.zero) with
      | true=>some qs
      | false=>none
    | _,_,_=>match fitP (sizeP r.zero) q with
      | some p=>setP ps off p
      | none=>none
theorem run_store_part {P : Program} {w : World} {t : TypeId} {g off ty : Nat} {v : Value} {cs : Array Value} (hb : Blk w g ty cs) (hi : (P.info? t).map (·.size) = some v.cells.size) (hfit : off + v.cells.size ≤ cs.size) (h1 : ∀ u ∈ v.cells.toList,u.oneCell' = true) :
  (Instr.storeAt t (.pointer (some ⟨g,off,none⟩)) v).run P w = .ok () (w.setRow g (cs.toList.take off ++ v.cells.toList ++ cs.toList.drop (off + v.cells.size)).toArray):=by
 have hst:=run_storeCells_at P g off ty v.cells.toList 0 cs w hb (by simp; omega) h1;simp only [Nat.add_zero,Array.length_toList] at hst
 cases hq : P.info? t with
 | none=>simp [hq] at hi
 | some i =>
  have hs : i.size = v.cells.size:=by simpa [hq] using hi
  simp [Instr.storeAt,Instr.sureAddr,storeVar,sizeOf,typeInfo,hq,hs,Sem.run_bind,hst]
theorem storeS_ok {P : Program} {T : List TyR} (hT : OkT P T) {ps ps' : List Pt} {t : TypeId} {off : Nat} {q : SQ} (hok : OkP ps) (hq : q.Ok) (h : storeS T ps t off q = some ps') :
  OkP ps' ∧ ∀ {w : World} {g ty : Nat},Blk w g ty (catP ps) → (Instr.storeAt t (.pointer (some ⟨g,off,none⟩)) q.den).run P w = .ok () (w.setRow g (catP ps')):=by
 unfold storeS at h
 split at h
 ·cases h
 rename_i r hr
 have hro:=findT_ok hT hr;clear hr;obtain ⟨hro,rfl⟩:=hro;obtain ⟨it,d,h1,h2,h3,h4,h5, -⟩:=hro.info
 split at h
 ·rename_i qs e1 e2 eq
  obtain rfl:=SQ.parts_ok eq
  split at h
  ·rename_i e3
   injection h with h
   subst h;obtain rfl:=Nat.eq_of_beq_eq_true e1;have e2:=Nat.eq_of_beq_eq_true e2;have e3:=Nat.eq_of_beq_eq_true e3
   have hsz : (catP qs).size = (catP ps).size:=by rw [OkP.size hq,hok.size,e2,e3]
   refine ⟨hq,fun hb=>?_⟩;have hr:=run_store_part (P:=P) (t:=r.t) (v:=.agg (catP qs)) (off:=0) hb (by rw [h1,Option.map_some,h3]; exact congrArg some ((OkP.size hq).trans e3).symm) (by rw [Nat.zero_add]; exact Nat.le_of_eq hsz) (OkP.one hq);simp only [Value.cells,List.take_zero,List.nil_append,Nat.zero_add] at hr;rw [List.drop_eq_nil_of_le (by rw [Array.length_toList]; omega),List.append_nil,Array.toArray_toList] at hr;exact hr
  ·cases h
 ·split at h
  ·rename_i p hp
   obtain ⟨hp1,hp2,hp3⟩:=fitP_ok hq hp;obtain ⟨h6,h7,A,B,Z,h8,h9,h10,h11⟩:=setP_ok hok hp1 h;refine ⟨h6,fun hb=>?_⟩
   have hsz : q.den.cells.size = B.length:=by rw [hp3,hp1.size,h10]
   have hcl : (catP ps).size = A.length + (B.length + Z.length):=by
    rw [← Array.length_toList,h8,List.length_append,List.length_append]
   have hr:=run_store_part (P:=P) (t:=r.t) (v:=q.den) (off:=off) hb (by rw [h1,Option.map_some,h3,hp3,hp1.size,hp2]) (by omega) (by rw [hp3]; exact hp1.one);rw [hr]
   congr 1
   rw [← Array.toArray_toList (xs:=catP ps'),h11,h8,hsz,← h9,hp3]
   congr 2
   rw [List.take_left,List.append_assoc,← List.append_assoc A B Z,← List.length_append,List.drop_left]
  ·cases h

/-! ### Fields, structs -/
def fieldS (T : List TyR) (t : TypeId) (i : Nat) : Option Nat:=match findT T t with
  | none=>none
  | some r=>match Nat.beq r.kind 2 with
    | true=>match (placesP 0 r.zero)[i]? with
      | some (o,n)=>match Nat.ble 1 n with
        | true=>some o
        | false=>none
      | none=>none
    | false=>none
theorem mapM_get {α β : Type} {f : α → Option β} : ∀ {l : List α} {m : List β},l.mapM f = some m → ∀ (i : Nat) b,m[i]? = some b → ∃ a,l[i]? = some a ∧ f a = some b
 | [],m,h,i,b,hb=>by
  have : m = []:=by simpa using h.symm
  subst this
  simp at hb
 | x :: l,m,h,i,b,hb=>by
  rw [List.mapM_cons] at h
  cases hx : f x with
  | none=>rw [hx] at h; cases h
  | some y =>
   rw [hx] at h
   cases hm : l.mapM f with
   | none=>rw [hm] at h; cases h
   | some ys =>
    rw [hm] at h;have e : m = y :: ys:=(Option.some.inj h).symm;subst e
    cases i with
    | zero =>
     simp only [List.getElem?_cons_zero,Option.some.injEq] at hb;exact ⟨x,rfl,by rw [hx,hb]⟩
    | succ i =>
     obtain ⟨a,h1,h2⟩:=mapM_get hm i b (by simpa using hb);exact ⟨a,by simpa using h1,h2⟩
theorem fieldS_ok {P : Program} {T : List TyR} (hT : OkT P T) {t : TypeId} {i o : Nat} (h : fieldS T t i = some o) (g off : Nat) (w : World) :
  (Instr.fieldAt t (.pointer (some ⟨g,off,none⟩)) i).run P w = .ok (.pointer (some ⟨g,off + o,none⟩)) w:=by
 unfold fieldS at h
 split at h
 ·cases h
 rename_i r hr
 have hro:=findT_ok hT hr;clear hr;obtain ⟨hro,rfl⟩:=hro;obtain ⟨it,d,h1,h2,h3,h4,h5,h6, -⟩:=hro.info
 split at h
 ·rename_i hk
  have hk:=Nat.eq_of_beq_eq_true hk
  split at h
  ·rename_i o' n hp
   split at h
   ·rename_i hn
    injection h with h
    subst h;have hn:=Nat.le_of_ble_eq_true hn
    have hd : kindOf d = 2:=by rw [h5,hk]
    cases d <;> first | (cases hd; done) | skip
    rename_i fs
    rw [hk] at h6
    dsimp only at h6
    obtain ⟨f,h7,h8⟩:=mapM_get h6 i (o',n) hp
    cases hf : P.info? f.type with
    | none=>rw [hf] at h8; cases h8
    | some fi =>
     rw [hf] at h8;simp only [Option.map_some,Option.some.injEq,Prod.mk.injEq] at h8
     have h9 : fs[i]? = some f:=by simpa using h7
     have h10 : ¬ fi.size = 0:=by omega
     simp only [Instr.fieldAt,Sem.run_bind,run_underlying h2,Result.andThen_ok,h9,Instr.sureAddr,Sem.run_pure,fieldPlace,sizeOf,typeInfo]
     simp [hf,h10,Addr.add_mid,h8.1]
   ·cases h
  ·cases h
 ·cases h
theorem fill_cells (place : Nat → Option (Nat × Nat)) (i n : Nat) (A O Z V : List Value) (rest : List (Nat × Value)) (v : Value) (hp : place i = some (A.length,n)) (hV : V.length = n) (hO : O.length = n) (hv : v.cells = V.toArray) :
  Instr.fill place (A ++ (O ++ Z)).toArray ((i,v) :: rest) = Instr.fill place (A ++ (V ++ Z)).toArray rest:=by
 have:=fill_put place i n A O Z V rest hp hV hO;rw [← this,Instr.fill,Instr.fill,hv]
 rfl
def buildS (E : SE) : List Pt → List (Nat × Operand) → Option (List Pt)
  | zs,[]=>some zs
  | zs,(i,x) :: r=>match zs[i]?,evS E x with
    | some z,some (.q q)=>match fitP z.size q with
      | some p=>buildS E (zs.set i p) r
      | none=>none
    | _,_=>none
theorem catP_set : ∀ {zs : List Pt} {i : Nat} {z p : Pt},zs[i]? = some z → ∃ A Z : List Value,(catP zs).toList = A ++ (z.cells.toList ++ Z) ∧ (catP (zs.set i p)).toList = A ++ (p.cells.toList ++ Z) ∧ ∀ o,OkP zs → (placesP o zs)[i]? = some (o + A.length,z.size)
 | [],i,z,p,h=>by simp at h
 | y :: zs,0,z,p,h=>by
  simp only [List.getElem?_cons_zero,Option.some.injEq] at h;subst h;refine ⟨[],(catP zs).toList,by rw [catP_cons]; simp,by rw [List.set_cons_zero,catP_cons]; simp,fun o _=>by simp [placesP]⟩
 | y :: zs,i + 1,z,p,h=>by
  obtain ⟨A,Z,h1,h2,h3⟩:=catP_set (zs:=zs) (i:=i) (p:=p) (by simpa using h);refine ⟨y.cells.toList ++ A,Z,by rw [catP_cons,Array.toList_append,h1,List.append_assoc],by rw [List.set_cons_succ,catP_cons,Array.toList_append,h2,List.append_assoc],fun o hok=>?_⟩;have h4:=h3 (o + y.size) fun x hx=>hok x (by simp [hx]);rw [List.length_append,Array.length_toList,(hok y (by simp)).size,← Nat.add_assoc]
  simpa [placesP] using h4
theorem okP_set {zs : List Pt} {i : Nat} {p : Pt} (h : OkP zs) (hp : p.Ok) : OkP (zs.set i p):=fun x hx=>by
 rcases List.mem_or_eq_of_mem_set hx with h1 | rfl
 ·exact h x h1
 ·exact hp
theorem places_set : ∀ {zs : List Pt} {i : Nat} {z p : Pt} (o : Nat),zs[i]? = some z → p.size = z.size → placesP o (zs.set i p) = placesP o zs
 | [],i,z,p,o,h,_=>by simp at h
 | y :: zs,0,z,p,o,h,e=>by
  simp only [List.getElem?_cons_zero,Option.some.injEq] at h;subst h;simp only [List.set_cons_zero,placesP,e]
 | y :: zs,i + 1,z,p,o,h,e=>by
  simp only [List.set_cons_succ,placesP];rw [places_set (z:=z) _ (by simpa using h) e]
theorem fill_ok {G : Nat → Nat} {E : SE} (hE : OkE E) {places : List (Nat × Nat)} : ∀ {parts : List (Nat × Operand)} {zs ps : List Pt},OkP zs → placesP 0 zs = places → buildS E zs parts = some ps →
  ∀ (f : Operand → Value),(∀ x v,evS E x = some v → f x = v.den G) → OkP ps ∧ Instr.fill (places.toArray[·]?) (catP zs) (parts.map fun (i,x)=>(i,f x)) = some (catP ps)
 | [],zs,ps,hz,_,h,f,_=>by
  cases h
  exact ⟨hz,rfl⟩
 | (i,x) :: r,zs,ps,hz,hpl,h,f,hf=>by
  unfold buildS at h
  split at h
  ·rename_i z q hi hx
   split at h
   ·rename_i p hp
    have hq : q.Ok:=hE.ev hx;obtain ⟨h1,h2,h3⟩:=fitP_ok hq hp;obtain ⟨A,Z,h4,h5,h6⟩:=catP_set (p:=p) hi;have h7:=h6 0 hz;rw [hpl,Nat.zero_add] at h7;have hzo:=hz z (List.mem_of_getElem? hi);obtain ⟨h8,h9⟩:=fill_ok hE (parts:=r) (okP_set hz h1) ((places_set 0 hi h2).trans hpl) h f hf;refine ⟨h8,?_⟩;rw [← h9];have hv : f x = q.den:=hf x _ hx;rw [List.map_cons,← Array.toArray_toList (xs:=catP zs),h4];have:=fill_cells (fun k=>places.toArray[k]?) i p.size A z.cells.toList Z p.cells.toList (r.map fun (i,x)=>(i,f x)) (f x) (by simpa [h2] using h7) (by rw [Array.length_toList,h1.size]) (by rw [Array.length_toList,hzo.size,h2]) (by rw [hv,h3,Array.toArray_toList]);rw [this,← h5,Array.toArray_toList]
   ·cases h
  ·cases h
end Go.Proofs.YtlcbhbahchiofaaDoor
/-
  STEPS OVER STATES, reckoned at once.
-/
namespace Go.Proofs.YtlcbhbahchiofaaDoor
open Go.RowKit Go.IntWalk

def ikB : IntKind → IntKind → Bool
  | .i8,.i8=>true
  | .i16,.i16=>true
  | .i32,.i32=>true
  | .i64,.i64=>true
  | .u8,.u8=>true
  | .u16,.u16=>true
  | .u32,.u32=>true
  | .u64,.u64=>true
  | _,_=>false
theorem ikB_ok {a b : IntKind} (h : ikB a b = true) : a = b:=by
 cases a <;> cases b <;> first | rfl | cases h
def nzB : Operand → Bool
  | .const (.int _ (.ofNat (_ + 1)))=>true
  | _=>false
def binS (op : BinOp) (y : Operand) (K : IntKind) (m n : Int) : Option SV:=match op with
  | .add=>some (.v (.int K (K.wrap (m + n))))
  | .sub=>some (.v (.int K (K.wrap (m - n))))
  | .mul=>some (.v (.int K (K.wrap (m * n))))
  | .quo=>match nzB y with
    | true=>some (.v (.int K (K.wrap (m.tdiv n))))
    | false=>none
  | .rem=>match nzB y with
    | true=>some (.v (.int K (m.tmod n)))
    | false=>none
  | .eql=>some (.b (decide (m = n)))
  | .neq=>some (.b (decide (m ≠ n)))
  | .lss=>some (.b (decide (m < n)))
  | .leq=>some (.b (decide (m ≤ n)))
  | .gtr=>some (.b (decide (m > n)))
  | .geq=>some (.b (decide (m ≥ n)))
  | _=>none
theorem nzB_ok {E : SE} {y : Operand} {K : IntKind} {n : Int} (h : nzB y = true) (hy : evS E y = some (.v (.int K n))) : n ≠ 0:=by
 unfold nzB at h
 split at h
 ·injection hy with hy
  injection hy with hy
  injection hy with hy
  injection hy with hy
  injection hy with _ hy
  subst hy;exact fun h=>(by cases h)
 ·cases h
theorem binS_ok {P : Program} {E : SE} {op : BinOp} {t : TypeId} {y : Operand} {K : IntKind} {m n : Int} {v : SV} (hy : evS E y = some (.v (.int K n))) (h : binS op y K m n = some v) :
  v.Ok ∧ ∀ G w,(binOp op t (.int K m) (.int K n)).run P w = .ok (v.den G) w:=by
 cases op <;> simp only [binS] at h
 case quo =>
  split at h
  ·rename_i hz
   have:=nzB_ok hz hy
   injection h with h
   subst h;exact ⟨trivial,fun G w=>by simp [binOp,Op.intDiv,this,SV.den,SQ.den,SC.den]⟩
  ·cases h
 case rem =>
  split at h
  ·rename_i hz
   have:=nzB_ok hz hy
   injection h with h
   subst h;exact ⟨trivial,fun G w=>by simp [binOp,Op.intDiv,this,SV.den,SQ.den,SC.den]⟩
  ·cases h
 all_goals first | (cases h; done) | skip
 all_goals injection h with h
 all_goals subst h
 all_goals refine ⟨trivial,fun G w=>?_⟩
 all_goals first | (simp [binOp,Op.intArith,SV.den,SQ.den,SC.den]; done) | skip
 all_goals simp [binOp,Op.intCmp,SV.den,SQ.den,SC.den]
 all_goals rfl
def stepS (T : List TyR) (E : SE) (L : List LV) : Op → Option SV
  | .move x=>evS E x
  | .assign x=>evS E x
  | .pick c x y=>match evS E c with
    | some (.q (.c (.v (.bool true))))=>evS E x
    | some (.q (.c (.v (.bool false))))=>evS E y
    | _=>none
  | .extract x i=>match evS E x with
    | some (.t vs)=>match vs[i]? with
      | some q=>some (.q q)
      | none=>none
    | _=>none
  | .unOp .not _ x=>match evS E x with
    | some (.q (.c (.v (.bool true))))=>some (.v (.bool false))
    | some (.q (.c (.v (.bool false))))=>some (.v (.bool true))
    | some (.q (.c (.b e)))=>some (.b !e)
    | _=>none
  | .nilCheck x=>match evS E x with
    | some (.a j off)=>some (.a j off)
    | some (.q (.c (.v (.pointer (some p)))))=>some (.v (.pointer (some p)))
    | _=>none
  | .fieldAddr t x i=>match evS E x,fieldS T t i with
    | some (.a j off),some o=>some (.a j (off + o))
    | some (.q (.c (.v (.pointer (some ⟨g,off,none⟩))))),some o=>some (.v (.pointer (some ⟨g,off + o,none⟩)))
    | _,_=>none
  | .load t x=>match evS E x with
    | some (.a j off)=>match lookL L j with
      | some ps=>match loadS T ps t off with
        | some q=>some (.q q)
        | none=>none
      | none=>none
    | _=>none
  | .build t parts=>match findT T t with
    | some r=>match Nat.beq r.kind 2 with
      | true=>match buildS E r.zero parts.toList with
        | some ps=>some (.p ps)
        | none=>none
      | false=>match Nat.beq r.kind 1,parts.toList with
        | true,[]=>some (.p r.zero)
        | _,_=>none
    | none=>none
  | .binOp op t x y _=>match evS E x,evS E y with
    | some (.q (.c (.v (.int K m)))),some (.q (.c (.v (.int K' n))))=>match ikB K K' with
      | true=>binS op y K m n
      | false=>none
    | some (.q (.c (.v (.pointer p)))),some (.q (.c (.v (.pointer none))))=>match findT T t with
      | some r=>match r.pt,op,p with
        | true,.eql,none=>some (.v (.bool true))
        | true,.eql,some _=>some (.v (.bool false))
        | true,.neq,none=>some (.v (.bool false))
        | true,.neq,some _=>some (.v (.bool true))
        | _,_,_=>none
      | none=>none
    | _,_=>none
  | .convert src dst x=>match findT T src,findT T dst,evS E x with
    | some _,some r,some (.q (.c (.v (.int _ n))))=>match r.ik with
      | some K=>some (.v (.int K (K.wrap n)))
      | none=>none
    | _,_,_=>none
  | .call { callee:=.builtin .len,args:=⟨[x]⟩,argTypes:=⟨[t]⟩ }=>match findT T t with
    | some r=>match r.el,evS E x with
      | some _,some (.q (.c (.v (.slice _ n _))))=>some (.v (.int .i64 (n : Int)))
      | some _,some (.s _ _ n _)=>some (.v (.int .i64 (n : Int)))
      | _,_=>none
    | none=>none
  | _=>none
def OkL (L : List LV) : Prop:=∀ x ∈ L,OkP x.ps
def LAt (G : Nat → Nat) (L : List LV) (w : World) : Prop:=∀ x ∈ L,Blk w (G x.j) x.t (catP x.ps)
theorem built_eq {P : Program} {t : TypeId} {r : TyR} (hr : r.ok P) (ht : r.t = t) (hk : r.kind = 2) (parts : List (Nat × Value)) : P.built t parts = Instr.fill ((placesP 0 r.zero).toArray[·]?) (catP r.zero) parts:=by
 subst ht;obtain ⟨it,d,h1,h2,h3,h4,h5,h6, -⟩:=hr.info;rw [hk] at h5 h6
 cases d <;> first | (cases h5; done) | skip
 rename_i fs
 dsimp only at h6
 cases hz : it.zero with
 | none=>rw [hz] at h4; cases h4
 | some z =>
  rw [hz] at h4;simp only [Option.map_some,Option.some.injEq] at h4
  unfold Program.built
  simp only [h1,h2,hz,h6,h4]
theorem built_row1 {P : Program} {t : TypeId} {r : TyR} (hr : r.ok P) (ht : r.t = t) (hk : r.kind = 1) : P.built t [] = some (catP r.zero):=by
 subst ht;obtain ⟨it,d,h1,h2,h3,h4,h5,h6, -⟩:=hr.info;rw [hk] at h5 h6
 cases d <;> first | (cases h5; done) | skip
 rename_i n e
 dsimp only at h6
 cases he : P.info? e with
 | none=>rw [he] at h6; cases h6
 | some ie =>
  cases hz : it.zero with
  | none=>rw [hz] at h4; cases h4
  | some z =>
   rw [hz] at h4;simp only [Option.map_some,Option.some.injEq] at h4
   unfold Program.built
   simp only [h1,h2,hz,he,h4]
   rfl
theorem run_len {P : Program} {t : TypeId} {e : TypeId} (ht : P.underlying t = some (.slice e)) (ty : TypeId) (A : Option Addr) (n c : Nat) (w : World) : (Builtin.len_ #[t] ty #[.slice A n c]).run P w = .ok (.int .i64 (n : Int)) w:=by
 simp [Builtin.len_,run_underlying ht,goInt]
theorem stepS_ok {P : Program} {T : List TyR} (hT : OkT P T) {E : SE} {L : List LV} {N : Nat} {o : Oper} {v : SV} (hE : OkE E) (hL : OkL L) (h : stepS T E L o.op = some v) :
    v.Ok ∧ ∀ {G : Nat → Nat} {a : Act} {w : World},Fr N (denE G E) a → LAt G L w → (execOp a.eval o).run P w = .ok (.value (v.den G)) w:=by
  obtain ⟨dst,op,ty,pos,af,gd⟩:=o
  dsimp only at h
  have hev : ∀ {x : Operand} {u : SV},evS E x = some u → ∀ {G : Nat → Nat} {a : Act},Fr N (denE G E) a → a.eval x = u.den G:=by
    intro x u hx G a ha
    exact ha.eval (evS_ok hx)
  cases op
  case move x =>
    refine ⟨hE.ev h,fun ha _=>?_⟩;have h1:=hev h ha
    unfold execOp
    simp only [h1,Sem.run_pure]
  case assign x =>
    refine ⟨hE.ev h,fun ha _=>?_⟩;have h1:=hev h ha
    unfold execOp
    simp only [h1,Sem.run_pure]
  case pick c x y =>
    simp only [stepS] at h
    split at h
    · rename_i hc
      refine ⟨hE.ev h,fun ha _=>?_⟩;have h1:=hev hc ha;have h2:=hev h ha
      unfold execOp
      simp only [h1,h2,SV.den,SQ.den,SC.den,asBool,Sem.run_bind,Sem.run_pure,Result.andThen_ok,if_true]
    · rename_i hc
      refine ⟨hE.ev h,fun ha _=>?_⟩;have h1:=hev hc ha;have h2:=hev h ha
      unfold execOp
      simp only [h1,h2,SV.den,SQ.den,SC.den,asBool,Sem.run_bind,Sem.run_pure,Result.andThen_ok,Bool.false_eq_true,if_false]
    · cases h
  case extract x i =>
    simp only [stepS] at h
    split at h
    · rename_i vs hx
      split at h
      · rename_i q hq
        injection h with h
        subst h;refine ⟨hE.ev hx q (List.mem_of_getElem? hq),fun ha _=>?_⟩;have h1:=hev hx ha
        have h2 : (vs.map SQ.den).toArray[i]? = some q.den:=by simp [hq]
        unfold execOp
        simp only [h1,SV.den,Instr.extract,h2,Sem.run_bind,Sem.run_pure,Result.andThen_ok]
      · cases h
    · cases h
  case unOp k t x =>
    cases k
    case not =>
      simp only [stepS] at h
      split at h
      · rename_i hx
        injection h with h
        subst h;refine ⟨trivial,fun ha _=>?_⟩;have h1:=hev hx ha
        unfold execOp
        simp only [h1,SV.den,SQ.den,SC.den,Op.unary,Sem.run_bind,Sem.run_pure,Result.andThen_ok,Bool.not_true]
      · rename_i hx
        injection h with h
        subst h;refine ⟨trivial,fun ha _=>?_⟩;have h1:=hev hx ha
        unfold execOp
        simp only [h1,SV.den,SQ.den,SC.den,Op.unary,Sem.run_bind,Sem.run_pure,Result.andThen_ok,Bool.not_false]
      · rename_i e hx
        injection h with h
        subst h;refine ⟨trivial,fun ha _=>?_⟩;have h1:=hev hx ha
        unfold execOp
        simp only [h1,SV.den,SQ.den,SC.den,Op.unary,Sem.run_bind,Sem.run_pure,Result.andThen_ok]
      · cases h
    all_goals cases h
  case nilCheck x =>
    simp only [stepS] at h
    split at h
    · rename_i j off hx
      injection h with h
      subst h;refine ⟨trivial,fun ha _=>?_⟩;have h1:=hev hx ha
      unfold execOp
      simp only [h1,SV.den,Sem.run_pure]
    · rename_i p hx
      injection h with h
      subst h;refine ⟨trivial,fun ha _=>?_⟩;have h1:=hev hx ha
      unfold execOp
      simp only [h1,SV.den,SQ.den,SC.den,Sem.run_pure]
    · cases h
  case fieldAddr t x i =>
    simp only [stepS] at h
    split at h
    · rename_i j off o hx ho
      injection h with h
      subst h;refine ⟨trivial,fun ha _=>?_⟩;have h1:=hev hx ha
      unfold execOp
      simp only [h1,SV.den,fieldS_ok hT ho,Sem.run_bind,Sem.run_pure,Result.andThen_ok]
    · rename_i g off o hx ho
      injection h with h
      subst h;refine ⟨trivial,fun ha _=>?_⟩;have h1:=hev hx ha
      unfold execOp
      simp only [h1,SV.den,SQ.den,SC.den,fieldS_ok hT ho,Sem.run_bind,Sem.run_pure,Result.andThen_ok]
    · cases h
  case load t x =>
    simp only [stepS] at h
    split at h
    · rename_i j off hx
      split at h
      · rename_i ps hps
        split at h
        · rename_i q hq
          injection h with h
          subst h;obtain ⟨y,hy,rfl,rfl⟩:=lookL_mem hps;obtain ⟨h3,h4⟩:=loadS_ok hT (hL y hy) hq;refine ⟨h3,fun ha hl=>?_⟩;have h1:=hev hx ha
          unfold execOp
          simp only [h1,SV.den,h4 (hl y hy),Sem.run_bind,Sem.run_pure,Result.andThen_ok]
        · cases h
      · cases h
    · cases h
  case build t parts =>
    simp only [stepS] at h
    split at h
    · rename_i r hr
      split at h
      · rename_i hk
        split at h
        · rename_i ps hps
          injection h with h
          subst h;obtain ⟨h3,h4⟩:=findT_ok hT hr;have hf:=fun (G : Nat → Nat)=>fill_ok (G:=G) hE (places:=placesP 0 r.zero) h3.2 rfl hps;refine ⟨(hf (fun _=>0) (fun x=>((evS E x).map (SV.den fun _=>0)).getD undef) (fun x u hx=>by rw [hx]; rfl)).1,fun {G a w} ha _=>?_⟩;have h5:=(hf G a.eval (fun x u hx=>hev hx ha)).2;rw [← built_eq h3 h4 (Nat.eq_of_beq_eq_true hk)] at h5;have h6:=run_build (P:=P) w t (parts.map fun (i,x)=>(i,a.eval x)) (catP ps) (by rw [Array.toList_map]; exact h5)
          unfold execOp
          simp only [h6,SV.den,SQ.den,Sem.run_bind,Sem.run_pure,Result.andThen_ok]
        · cases h
      · split at h
        · rename_i hk hpt
          injection h with h
          subst h;obtain ⟨h3,h4⟩:=findT_ok hT hr
          have hpt' : parts = #[]:=by simpa using hpt
          subst hpt';refine ⟨h3.2,fun {G a w} _ _=>?_⟩;have h6:=run_build (P:=P) w t #[] (catP r.zero) (built_row1 h3 h4 (Nat.eq_of_beq_eq_true hk))
          unfold execOp
          simp only [List.map_toArray,List.map_nil,h6,SV.den,SQ.den,Sem.run_bind,Sem.run_pure,Result.andThen_ok]
        · cases h
    · cases h
  case binOp op t x y t2 =>
    simp only [stepS] at h
    split at h
    · rename_i K m K' n hx hy
      split at h
      · rename_i hK
        obtain rfl:=ikB_ok hK;obtain ⟨h1,h2⟩:=binS_ok (P:=P) (t:=t) hy h;refine ⟨h1,fun {G a w} ha _=>?_⟩;have e1:=hev hx ha;have e2:=hev hy ha
        have e3 : (eqGuard op t x y (.int K m) (.int K n)).run P w = .ok () w:=by
          cases op <;> rfl
        unfold execOp
        simp only [e1,e2,SV.den,SQ.den,SC.den,Sem.run_bind,e3,h2 G w,Sem.run_pure,Result.andThen_ok]
      · cases h
    · rename_i p hx hy
      split at h
      · rename_i r hr
        obtain ⟨h3,rfl⟩:=findT_ok hT hr;obtain ⟨it,d,h5,h6, -, -, -, -, -, -,h7, -⟩:=h3.info
        have hpt : r.pt = true → ∃ e,P.underlying r.t = some (.pointer e):=fun he=>by
          rw [he] at h7
          cases d <;> first | (cases h7; done) | skip
          exact ⟨_,h6⟩
        have key : ∀ {G : Nat → Nat} {a : Act} {w : World},Fr N (denE G E) a → ∀ b : Bool,(binOp op r.t (.pointer p) (.pointer none)).run P w = .ok (.bool b) w → (execOp a.eval ⟨dst,.binOp op r.t x y t2,ty,pos,af,gd⟩).run P w = .ok (.value (.bool b)) w:=fun {G a w} ha b hb=>by
          have e1:=hev hx ha;have e2:=hev hy ha
          have e3 : (eqGuard op r.t x y (.pointer p) (.pointer none)).run P w = .ok () w:=by
            cases op <;> rfl
          unfold execOp
          simp only [e1,e2,SV.den,SQ.den,SC.den,Sem.run_bind,e3,hb,Sem.run_pure,Result.andThen_ok]
        have heq : ∀ w,r.pt = true → (Op.equal r.t (.pointer p) (.pointer none)).run P w = .ok p.isNone w:=fun w he=>by
          obtain ⟨e,hu⟩:=hpt he
          unfold Op.equal Op.maxDepth
          rw [show (10000 : Nat) = 9999 + 1 from rfl,Op.equalIn];simp only [Sem.run_bind,run_underlying hu,Result.andThen_ok]
          cases p <;> rfl
        split at h
        all_goals first | (cases h; done) | skip
        all_goals rename_i he
        all_goals injection h with h
        all_goals subst h
        all_goals refine ⟨trivial,fun ha _=>key ha _ ?_⟩
        all_goals simp [binOp,heq _ he]
      · cases h
    · cases h
  case convert src dst' x =>
    simp only [stepS] at h
    split at h
    · rename_i r0 r K0 n h0 hr hx
      split at h
      · rename_i K hK
        injection h with h
        subst h;have q1:=findT_ok hT h0;have q2:=findT_ok hT hr;clear h0 hr;obtain ⟨q1,rfl⟩:=q1;obtain ⟨q2,rfl⟩:=q2;obtain ⟨it0,d0,_,h6, -⟩:=q1.info;obtain ⟨it,d,_,h7, -, -, -, -, -,h8, -⟩:=q2.info;rw [hK] at h8
        cases d <;> first | (cases h8; done) | skip
        injection h8 with h8
        subst h8;refine ⟨trivial,fun ha _=>?_⟩;have e1:=hev hx ha
        unfold execOp
        simp only [e1,SV.den,SQ.den,SC.den]
        simp [convert,run_underlying h6,run_underlying h7,Conv.intToInt]
      · cases h
    · cases h
  case call c =>
    obtain ⟨callee,args,ats⟩:=c
    cases callee
    case builtin bi =>
     cases bi
     case len =>
      obtain ⟨args⟩:=args;obtain ⟨ats⟩:=ats
      rcases args with _ | ⟨x,_ | ⟨y,r⟩⟩
      · cases h
      rcases ats with _ | ⟨t,_ | ⟨y,r⟩⟩
      all_goals first | (cases h; done) | skip
      simp only [stepS] at h
      split at h
      · rename_i r hr
        obtain ⟨h3,rfl⟩:=findT_ok hT hr;obtain ⟨it,d,h5,h6, -, -, -, -,h7, -⟩:=h3.info
        have hu : ∀ e,r.el = some e → P.underlying r.t = some (.slice e):=fun e he=>by
          rw [he] at h7
          cases d <;> first | (cases h7; done) | skip
          injection h7 with h7
          subst h7;exact h6
        split at h
        · rename_i e A n cc he hx
          injection h with h
          subst h;refine ⟨trivial,fun ha _=>?_⟩;have h1:=hev hx ha
          unfold execOp
          simp only [resolve,invoke,builtin,List.map_toArray,List.map_cons,List.map_nil,h1,SV.den,SQ.den,SC.den,Sem.run_bind,Sem.run_pure,Result.andThen_ok,run_len (hu e he)]
        · rename_i e j off n cc he hx
          injection h with h
          subst h;refine ⟨trivial,fun ha _=>?_⟩;have h1:=hev hx ha
          unfold execOp
          simp only [resolve,invoke,builtin,List.map_toArray,List.map_cons,List.map_nil,h1,SV.den,SQ.den,SC.den,Sem.run_bind,Sem.run_pure,Result.andThen_ok,run_len (hu e he)]
        · cases h
      · cases h
     all_goals cases h
    all_goals cases h
  all_goals cases h
end Go.Proofs.YtlcbhbahchiofaaDoor
