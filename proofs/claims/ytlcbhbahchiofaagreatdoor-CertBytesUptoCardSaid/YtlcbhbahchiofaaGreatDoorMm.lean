/-
  SEVERAL TEXTS IN ONE: SgVer, RgSig, RgW, RgN, RgO, RgV, CtF, Vj, WrV, CtM.
-/
import Derived.Test.YtlcbhbahchiofaaGreatDoorMl
import Derived.Test.YtlcbhbahchiofaaGreatDoorMj
import Derived.Test.YtlcbhbahchiofaaGreatDoorMe
/-
  THE PROGRAM'S SIGNATURES: Verify.
-/
namespace Go.Proofs.YtlcbhbahchiofaaGreatDoor
open Go.RowKit Go.IntWalk Nums

theorem own_verify : Own 67:=fun _ _=>by go_simp
open Classical in
noncomputable def rightB (key sig m : List UInt8) : Bool:=decide (Right key sig m)
open Classical in
theorem rightB_no {key sig m : List UInt8} (h : ¬ ∃ A,Ed.On dd A ∧ encP A = key) : rightB key sig m = false:=decide_eq_false fun ⟨A,h1,h2,_⟩=>h ⟨A,h1,h2⟩
open Classical in
theorem rightB_small {A : Ed.Pt p} {sig m : List UInt8} (hA : Ed.On dd A) (h : Ed.mul dd 8 A = Ed.zero) : rightB (encP A) sig m = false:=decide_eq_false fun ⟨B,h1,h2,h3,_⟩=>h3 (by rw [encP_inj h1 hA h2]; exact h)
open Classical in
theorem rightB_great {key sig m : List UInt8} (h : ¬ le (sig.drop 32) < LL) : rightB key sig m = false:=decide_eq_false fun ⟨_,_,_,_,h4,_⟩=>h h4
theorem rightB_is {A : Ed.Pt p} {sig m : List UInt8} (hA : Ed.On dd A) (h8 : Ed.mul dd 8 A ≠ Ed.zero) (hS : le (sig.drop 32) < LL) :
  rightB (encP A) sig m = decide (encP (Ed.add dd (Ed.mul dd (le (Nums.bytes 32 (le (sig.drop 32)))) base) (Ed.mul dd (le (Nums.bytes 32 (sgK (sig.take 32) (encP A) m))) (Ed.neg A))) = sig.take 32):=by
 rw [le_bytesL hS,le_bytesL (sgK_lt _ _ _),Ed.mul_neg good hA]
 unfold rightB
 rw [decide_eq_decide]
 constructor
 ·rintro ⟨B,h1,h2,_,_,h5⟩
  obtain rfl:=encP_inj h1 hA h2;exact h5
 ·exact fun h=>⟨A,hA,rfl,h8,hS,h⟩
theorem small_dec {A : Ed.Pt p} (hA : Ed.On dd A) : encP (Ed.mul dd 8 A) = encP Ed.zero ↔ Ed.mul dd 8 A = Ed.zero :=
 ⟨fun h=>encP_inj (Ed.on_mul good hA 8) Ed.on_zero h,fun h=>by rw [h]⟩
section
variable {ops : Array Oper} {C0 : World → Prop} {Q : Act → Prop} {N : Nat} {E : List (Nat × Value)} {o : Oper} {rest : List Oper} {k : Nat}
theorem f_neE {x y : Operand} {t t' : TypeId} (m n : Int) (q : Bool) (hg : o.guard = none) (hd : o.dst = some k) (hk : Nat.blt k N = true) (ho : o.op = .binOp .neq t x y t') (ht : t = 30) (hx : ev E x = some (.int .i64 m)) (hy : ev E y = some (.int .i64 n))
  (hr : decide (m ≠ n) = q) (hn : bF Tryz.prog ops C0 Q rest N ((k,.bool q) :: E)) : bF Tryz.prog ops C0 Q (o :: rest) N E:=by
 subst ht
 exact f_val _ hg hd hk (fun a ha w _=>by
  have h1:=ha.eval hx;have h2:=ha.eval hy;subst hr
  unfold execOp
  simp only [ho,h1,h2]
  by_cases e : m = n <;> go_simp) hn
end

set_option maxRecDepth 100000 in
set_option maxHeartbeats 2000000 in
theorem verify_f {key sig : List UInt8} {P : Option Addr} {ls : List (List UInt8)} {pc : Nat} (hk : key.length = 32) (hs : sig.length = 64) (w : World) (hT : Ta w) (hP : PT w P ls) (h0 : P = none → pc = 0) (hls : ls.length ≤ 1000000) :
  Calls Tryz.prog 67 #[.agg (By key).toArray,.agg (By sig).toArray,.slice P ls.length pc] w fun e w'=>e = .returned (.bool (rightB key sig ls.flatten)) ∧ Below w.heap.size w w':=by
 refine calls_F (vs:=[.agg (By key).toArray,.agg (By sig).toArray,.slice P ls.length pc]) 50 Tryz.func67 rfl (by rw [Tryz.ntmps67]; rfl) ?_;have hU:=Up.refl w;refine c_seq fun K hK=>?_;refine c_lit ?_;refine l_boxA ((By key).toArray) rfl rfl rfl rfl rfl fun W1 g1 hw1 hg1 b1=>?_;replace hU:=hU.step hw1;clear hw1 hg1;refine l_boxA ((By sig).toArray) rfl rfl rfl rfl rfl fun W2 g2 hw2 hg2 b2=>?_;replace b1:=b1.later hw2;replace hU:=hU.step hw2;clear hw2 hg2;refine l_assign (.bool false) rfl rfl rfl rfl rfl ?_;refine l_nil ?_;refine hK _ _ ?_;clear hK K
 by_cases hA : ∃ A,Ed.On dd A ∧ encP A = key
 ·obtain ⟨A,hA,rfl⟩:=hA
  refine c_seq fun K hK=>?_;refine c_gF 5 ?_;refine g_op rfl ?_;refine f_by g1 0 hk rfl rfl rfl rfl rfl (fun _ h1=>(h1.1.blk b1).range) ?_;refine g_go ?_;refine g_op rfl ?_;refine f_callV #[.agg (By (encP A)).toArray] (fun v=>∃ l,QB l A ∧ v = .tuple #[.agg (Us l).toArray,.int .i64 0]) rfl rfl rfl own_cdecode (fun w1 h1=>cdec_pt hA w1 (hT.below (hU.step h1.1)).tw) rfl rfl ?_
  rintro _ ⟨l,hl,rfl⟩
  refine g_go ?_;refine g_op rfl ?_;refine f_move (.tuple #[.agg (Us l).toArray,.int .i64 0]) rfl rfl rfl rfl rfl ?_;refine g_go ?_;refine g_op rfl ?_;refine f_extract (.agg (Us l).toArray) rfl rfl rfl rfl rfl rfl ?_;refine g_go ?_;refine g_op rfl ?_;refine f_extract (.int .i64 0) rfl rfl rfl rfl rfl rfl ?_;refine g_go ?_;refine g_end fun W3 hw3 hF3=>?_;clear hF3;replace b1:=b1.later hw3;replace b2:=b2.later hw3;replace hU:=hU.step hw3;clear hw3;refine l_allocA ((Us pz).toArray) rfl rfl rfl rfl (by kernel_rfl) fun W4 g4 hw4 hg4 b4=>?_
  have n1_4 : g1 ≠ g4:=by have:=b1.lt; omega
  have n2_4 : g2 ≠ g4:=by have:=b2.lt; omega
  have q4 : w.heap.size ≤ g4:=by rw [hg4]; exact hU.size
  replace b1:=b1.later hw4;replace b2:=b2.later hw4;replace hU:=hU.step hw4;clear hw4 hg4;refine l_set g4 _ ((Us l).toArray) rfl rfl rfl rfl rfl b4 (size_P hl.len) ((us_size pz_len).trans (us_size hl.len).symm) (Us_oneA _) ?_;replace b1:=b1.rowFar n1_4 ((Us l).toArray);replace b2:=b2.rowFar n2_4 ((Us l).toArray);replace b4:=b4.row ((Us l).toArray);replace hU:=up_row hU q4 ((Us l).toArray);generalize World.setRow _ g4 ((Us l).toArray) = W5 at *;refine l_assign (.int .i64 0) rfl rfl rfl rfl rfl ?_;refine l_nil ?_;refine hK _ _ ?_;clear hK K;have hsm:=small_dec hA;refine c_seq fun K0 hK0=>?_;refine c_seq fun K hK=>?_;refine c_gF 6 ?_;refine g_op rfl ?_;refine f_move (.int .i64 0) rfl rfl rfl rfl rfl ?_;refine g_go ?_;refine g_op rfl ?_;refine f_neE _ 0 false rfl rfl rfl rfl rfl rfl rfl (by decide) ?_;refine g_go ?_;refine g_op rfl ?_;refine f_move (.bool false) rfl rfl rfl rfl rfl ?_;refine g_go ?_;refine g_guard rfl rfl rfl rfl ?_;refine g_op rfl ?_;refine f_pt g4 0 hl.len rfl rfl rfl rfl rfl (fun _ h1=>(h1.1.blk b4).range) ?_;refine g_go ?_;refine g_guard rfl rfl rfl rfl ?_;refine g_op rfl ?_;refine f_call #[.agg (Us l).toArray] (.bool (decide (encP (Ed.mul dd 8 A) = encP Ed.zero))) rfl rfl rfl own_csmall (fun w1 h1=>csmall_f (.inr hl) w1 (hT.below (hU.step h1.1)).tw) rfl rfl ?_;refine g_go ?_;refine g_op rfl ?_;refine f_pickF (.bool ((decide (encP (Ed.mul dd 8 A) = encP Ed.zero)))) rfl rfl rfl rfl rfl rfl ?_;refine g_go ?_;refine g_end fun W6 hw6 hF6=>?_;clear hF6;replace b1:=b1.later hw6;replace b2:=b2.later hw6;replace b4:=b4.later hw6;replace hU:=hU.step hw6;clear hw6;refine l_nil ?_;refine hK _ _ ?_;clear hK K
  by_cases h8 : Ed.mul dd 8 A = Ed.zero
  ·rw [decide_eq_true (hsm.2 h8)]
   refine c_cond true rfl ?_;rw [if_pos rfl];refine c_seq fun K hK=>?_;refine c_lit ?_;refine l_assign (.bool false) rfl rfl rfl rfl rfl ?_;refine l_nil ?_;refine hK _ _ ?_;clear hK K;rw [rightB_small hA h8];exact c_ret (k_then_ret (fun a ha=>bodyPost_ret (results_tmp rfl _ _ _) ha.defers ⟨congrArg Ending.returned (ha.get 6 _ rfl),hU⟩))
  ·rw [decide_eq_false fun h=>h8 (hsm.1 h)]
   refine c_cond false rfl ?_;rw [if_neg (by decide)];refine c_skip ?_;refine hK0 _ _ ?_;clear hK0 K0;clear hsm;refine c_seq fun K hK=>?_;refine c_gF 7 ?_;refine g_op rfl ?_;refine f_slice64h g2 rfl rfl rfl rfl rfl ?_;refine g_go ?_;refine g_op rfl ?_;refine f_arrp (some ⟨g2,32,none⟩) 32 rfl rfl rfl rfl rfl ?_;refine g_go ?_;refine g_op rfl ?_;refine f_by g2 32 (drop32 hs) rfl rfl rfl rfl rfl (fun _ h1=>rng_drop (h1.1.blk b2) hs) ?_;refine g_go ?_;refine g_op rfl ?_;refine f_call #[.agg (By (sig.drop 32)).toArray] (.tuple #[.agg (Us (ws ((if le (sig.drop 32) < LL then le (sig.drop 32) else 0)))).toArray,.bool ((decide (le (sig.drop 32) < LL)))]) rfl rfl rfl own_scnew (fun w1 h1=>scnew_f (drop32 hs) w1) rfl rfl ?_;refine g_go ?_;refine g_op rfl ?_;refine f_move (.tuple #[.agg (Us (ws ((if le (sig.drop 32) < LL then le (sig.drop 32) else 0)))).toArray,.bool ((decide (le (sig.drop 32) < LL)))]) rfl rfl rfl rfl rfl ?_;refine g_go ?_;refine g_op rfl ?_;refine f_extract (.agg (Us (ws ((if le (sig.drop 32) < LL then le (sig.drop 32) else 0)))).toArray) rfl rfl rfl rfl rfl rfl ?_;refine g_go ?_;refine g_op rfl ?_;refine f_extract (.bool ((decide (le (sig.drop 32) < LL)))) rfl rfl rfl rfl rfl rfl ?_;refine g_go ?_;refine g_end fun W7 hw7 hF7=>?_;clear hF7;replace b1:=b1.later hw7;replace b2:=b2.later hw7;replace b4:=b4.later hw7;replace hU:=hU.step hw7;clear hw7;refine l_allocA z4 rfl rfl rfl rfl (by kernel_rfl) fun W8 g8 hw8 hg8 b8=>?_
   have n1_8 : g1 ≠ g8:=by have:=b1.lt; omega
   have n2_8 : g2 ≠ g8:=by have:=b2.lt; omega
   have n4_8 : g4 ≠ g8:=by have:=b4.lt; omega
   have q8 : w.heap.size ≤ g8:=by rw [hg8]; exact hU.size
   replace b1:=b1.later hw8;replace b2:=b2.later hw8;replace b4:=b4.later hw8;replace hU:=hU.step hw8;clear hw8 hg8;refine l_set g8 _ ((Us (ws ((if le (sig.drop 32) < LL then le (sig.drop 32) else 0)))).toArray) rfl rfl rfl rfl rfl b8 (size_S _) (by rw [us_size (ws_len _)]; rfl) (Us_oneA _) ?_;replace b1:=b1.rowFar n1_8 ((Us (ws ((if le (sig.drop 32) < LL then le (sig.drop 32) else 0)))).toArray);replace b2:=b2.rowFar n2_8 ((Us (ws ((if le (sig.drop 32) < LL then le (sig.drop 32) else 0)))).toArray);replace b4:=b4.rowFar n4_8 ((Us (ws ((if le (sig.drop 32) < LL then le (sig.drop 32) else 0)))).toArray);replace b8:=b8.row ((Us (ws ((if le (sig.drop 32) < LL then le (sig.drop 32) else 0)))).toArray);replace hU:=up_row hU q8 ((Us (ws ((if le (sig.drop 32) < LL then le (sig.drop 32) else 0)))).toArray);generalize World.setRow _ g8 ((Us (ws ((if le (sig.drop 32) < LL then le (sig.drop 32) else 0)))).toArray) = W9 at *;refine l_assign (.bool ((decide (le (sig.drop 32) < LL)))) rfl rfl rfl rfl rfl ?_;refine l_nil ?_;refine hK _ _ ?_;clear hK K
   by_cases hS : le (sig.drop 32) < LL
   ·rw [decide_eq_true hS]
    refine c_seq fun K0 hK0=>?_;refine c_seq fun K hK=>?_;refine c_gF 2 ?_;refine g_op rfl ?_;refine f_move (.bool true) rfl rfl rfl rfl rfl ?_;refine g_go ?_;refine g_op rfl ?_;refine f_not true false rfl rfl rfl rfl rfl rfl ?_;refine g_go ?_;refine g_end fun W10 hw10 hF10=>?_;clear hF10;replace b1:=b1.later hw10;replace b2:=b2.later hw10;replace b4:=b4.later hw10;replace b8:=b8.later hw10;replace hU:=hU.step hw10;clear hw10;refine l_nil ?_;refine hK _ _ ?_;clear hK K;refine c_cond false rfl ?_;rw [if_neg (by decide)];refine c_skip ?_;refine hK0 _ _ ?_;clear hK0 K0;rw [if_pos hS] at b8;refine c_seq fun K hK=>?_;refine c_gF 3 ?_;refine g_op rfl ?_;refine f_slice64l g2 rfl rfl rfl rfl rfl ?_;refine g_go ?_;refine g_op rfl ?_;refine f_arrp (some ⟨g2,0,none⟩) 64 rfl rfl rfl rfl rfl ?_;refine g_go ?_;refine g_op rfl ?_;refine f_by g2 0 (take32 hs) rfl rfl rfl rfl rfl (fun _ h1=>rng_take (h1.1.blk b2) hs) ?_;refine g_go ?_;refine g_end fun W11 hw11 hF11=>?_;clear hF11;replace b1:=b1.later hw11;replace b4:=b4.later hw11;replace b8:=b8.later hw11;replace hU:=hU.step hw11;clear hw11;refine l_allocA z32 rfl rfl rfl rfl (by kernel_rfl) fun W12 g12 hw12 hg12 b12=>?_
    have n1_12 : g1 ≠ g12:=by have:=b1.lt; omega
    have n4_12 : g4 ≠ g12:=by have:=b4.lt; omega
    have n8_12 : g8 ≠ g12:=by have:=b8.lt; omega
    have q12 : w.heap.size ≤ g12:=by rw [hg12]; exact hU.size
    replace b1:=b1.later hw12;replace b4:=b4.later hw12;replace b8:=b8.later hw12;replace hU:=hU.step hw12;clear hw12 hg12;refine l_set g12 _ ((By (sig.take 32)).toArray) rfl rfl rfl rfl rfl b12 (size_H (take32 hs)) (by rw [len_by (take32 hs)]; rfl) (By_oneA _) ?_;replace b1:=b1.rowFar n1_12 ((By (sig.take 32)).toArray);replace b4:=b4.rowFar n4_12 ((By (sig.take 32)).toArray);replace b8:=b8.rowFar n8_12 ((By (sig.take 32)).toArray);replace b12:=b12.row ((By (sig.take 32)).toArray);replace hU:=up_row hU q12 ((By (sig.take 32)).toArray);generalize World.setRow _ g12 ((By (sig.take 32)).toArray) = W13 at *;refine l_nil ?_;refine hK _ _ ?_;clear hK K;refine c_seq fun K hK=>?_;refine c_g 5 (by decide) (by kernel_rfl) (by kernel_rfl) ?_;refine g_op rfl ?_;refine f_slice32 g12 rfl rfl rfl rfl rfl ?_;refine g_go ?_;refine g_op rfl ?_;refine f_slice32 g1 rfl rfl rfl rfl rfl ?_;refine g_go ?_;refine g_op rfl ?_;refine f_move (.slice P ls.length pc) rfl rfl rfl rfl rfl ?_;refine g_go ?_;refine g_op rfl ?_
    refine f_call #[.slice (some ⟨g12,0,none⟩) 32 32,.slice (some ⟨g1,0,none⟩) 32 32,.slice P ls.length pc] (.agg (Us (ws ((sgK (sig.take 32) (encP A) ls.flatten)))).toArray) rfl rfl rfl own_number (fun w1 h1=>by
      have:=number_f (P:=P) (ls:=ls) (pc:=pc) w1 (hT.below (hU.step h1.1)).sh (SB.all (b12.later h1.1) (take32 hs) (by decide)) (SB.all (b1.later h1.1) hk (by decide)) (hP.later (hU.step h1.1)) h0 hls
      rwa [sgK_eq] at this) rfl rfl ?_
    refine g_go ?_;refine g_alloc z4 (W13).heap.size rfl rfl rfl rfl rfl (by kernel_rfl) (fun _ h=>h.size) (fun g w w' h hr=>⟨h.1,h.2.later hr⟩) fun g14 _ _ _ _=>?_;refine g_end fun W15 hw15 hF15=>?_;have b14:=(hF15 4 _ rfl).2;have ge14:=(hF15 4 _ rfl).1
    have n1_14 : g1 ≠ g14:=by have:=b1.lt; omega
    have n4_14 : g4 ≠ g14:=by have:=b4.lt; omega
    have n8_14 : g8 ≠ g14:=by have:=b8.lt; omega
    have n12_14 : g12 ≠ g14:=by have:=b12.lt; omega
    have q14 : w.heap.size ≤ g14:=Nat.le_trans hU.size ge14;clear ge14;clear hF15;replace b1:=b1.later hw15;replace b4:=b4.later hw15;replace b8:=b8.later hw15;replace b12:=b12.later hw15;replace hU:=hU.step hw15;clear hw15;refine l_set g14 _ ((Us (ws ((sgK (sig.take 32) (encP A) ls.flatten)))).toArray) rfl rfl rfl rfl rfl b14 (size_S _) (by rw [us_size (ws_len _)]; rfl) (Us_oneA _) ?_;replace b1:=b1.rowFar n1_14 ((Us (ws ((sgK (sig.take 32) (encP A) ls.flatten)))).toArray);replace b4:=b4.rowFar n4_14 ((Us (ws ((sgK (sig.take 32) (encP A) ls.flatten)))).toArray);replace b8:=b8.rowFar n8_14 ((Us (ws ((sgK (sig.take 32) (encP A) ls.flatten)))).toArray);replace b12:=b12.rowFar n12_14 ((Us (ws ((sgK (sig.take 32) (encP A) ls.flatten)))).toArray);replace b14:=b14.row ((Us (ws ((sgK (sig.take 32) (encP A) ls.flatten)))).toArray);replace hU:=up_row hU q14 ((Us (ws ((sgK (sig.take 32) (encP A) ls.flatten)))).toArray);generalize World.setRow _ g14 ((Us (ws ((sgK (sig.take 32) (encP A) ls.flatten)))).toArray) = W16 at *;refine l_nil ?_;refine hK _ _ ?_;clear hK K;refine c_seq fun K hK=>?_;refine c_g 11 (by decide) (by kernel_rfl) (by kernel_rfl) ?_;refine g_op rfl ?_;refine f_sc g8 ((le (sig.drop 32))) rfl rfl rfl rfl rfl (fun _ h1=>(h1.1.blk b8).range) ?_;refine g_go ?_;refine g_op rfl ?_;refine f_call #[.agg (Us (ws ((le (sig.drop 32))))).toArray] (.agg (By (Nums.bytes 32 ((le (sig.drop 32))))).toArray) rfl rfl rfl own_schash (fun w1 h1=>schash_f ((le (sig.drop 32))) w1) rfl rfl ?_;refine g_go ?_;refine g_op rfl ?_;refine f_pt g4 0 hl.len rfl rfl rfl rfl rfl (fun _ h1=>(h1.1.blk b4).range) ?_;refine g_go ?_;refine g_op rfl ?_;refine f_us #[.agg (Us l).toArray] (QB · (Ed.neg A)) rfl rfl rfl own_cneg (fun w1 h1=>cneg_f (.inr hl) w1 (hT.below (hU.step h1.1)).tw) rfl rfl fun r43 v43=>?_;refine g_go ?_;refine g_op rfl ?_;refine f_sc g14 ((sgK (sig.take 32) (encP A) ls.flatten)) rfl rfl rfl rfl rfl (fun _ h1=>(h1.1.blk b14).range) ?_;refine g_go ?_;refine g_op rfl ?_;refine f_call #[.agg (Us (ws ((sgK (sig.take 32) (encP A) ls.flatten)))).toArray] (.agg (By (Nums.bytes 32 ((sgK (sig.take 32) (encP A) ls.flatten)))).toArray) rfl rfl rfl own_schash (fun w1 h1=>schash_f ((sgK (sig.take 32) (encP A) ls.flatten)) w1) rfl rfl ?_;refine g_go ?_;refine g_op rfl ?_;refine f_us #[.agg (By (Nums.bytes 32 ((le (sig.drop 32))))).toArray,.agg (Us r43).toArray,.agg (By (Nums.bytes 32 ((sgK (sig.take 32) (encP A) ls.flatten)))).toArray] (PB · (Ed.add dd (Ed.mul dd (le (Nums.bytes 32 ((le (sig.drop 32))))) base) (Ed.mul dd (le (Nums.bytes 32 ((sgK (sig.take 32) (encP A) ls.flatten)))) (Ed.neg A)))) rfl rfl rfl own_cboth (fun w1 h1=>cboth_f (bytes_len _ _) (.inr v43) (bytes_len _ _) w1 (hT.below (hU.step h1.1)).tw) rfl rfl fun r46 v46=>?_;refine g_go ?_;refine g_op rfl ?_;refine f_call #[.agg (Us r46).toArray] (.agg (By (encP (Ed.add dd (Ed.mul dd (le (Nums.bytes 32 ((le (sig.drop 32))))) base) (Ed.mul dd (le (Nums.bytes 32 ((sgK (sig.take 32) (encP A) ls.flatten)))) (Ed.neg A))))).toArray) rfl rfl rfl own_chash (fun w1 h1=>chash_f v46 w1 (hT.below (hU.step h1.1)).tw) rfl rfl ?_
    refine g_go ?_;refine g_op rfl ?_;refine f_by g12 0 (take32 hs) rfl rfl rfl rfl rfl (fun _ h1=>(h1.1.blk b12).range) ?_;refine g_go ?_;refine g_op rfl ?_;refine f_eqd (encP (Ed.add dd (Ed.mul dd (le (Nums.bytes 32 ((le (sig.drop 32))))) base) (Ed.mul dd (le (Nums.bytes 32 ((sgK (sig.take 32) (encP A) ls.flatten)))) (Ed.neg A)))) (sig.take 32) rfl rfl rfl rfl rfl rfl rfl ((encP_len _)) (take32 hs) ?_;refine g_go ?_;refine g_op rfl ?_;refine f_assign (.bool ((decide (encP (Ed.add dd (Ed.mul dd (le (Nums.bytes 32 ((le (sig.drop 32))))) base) (Ed.mul dd (le (Nums.bytes 32 ((sgK (sig.take 32) (encP A) ls.flatten)))) (Ed.neg A))) = sig.take 32)))) rfl rfl rfl rfl rfl ?_;refine g_go ?_;refine g_end fun W17 hw17 hF17=>?_;clear hF17;replace b1:=b1.later hw17;replace b4:=b4.later hw17;replace hU:=hU.step hw17;clear hw17;refine l_nil ?_;refine hK _ _ ?_;clear hK K;rw [rightB_is hA h8 hS];exact c_ret (fun a ha=>bodyPost_ret (results_tmp rfl _ _ _) ha.defers ⟨congrArg Ending.returned (ha.get 6 _ rfl),hU⟩)
   ·rw [decide_eq_false hS]
    refine c_seq fun K0 hK0=>?_;refine c_seq fun K hK=>?_;refine c_gF 2 ?_;refine g_op rfl ?_;refine f_move (.bool false) rfl rfl rfl rfl rfl ?_;refine g_go ?_;refine g_op rfl ?_;refine f_not false true rfl rfl rfl rfl rfl rfl ?_;refine g_go ?_;refine g_end fun W10 hw10 hF10=>?_;clear hF10;replace b1:=b1.later hw10;replace b4:=b4.later hw10;replace hU:=hU.step hw10;clear hw10;refine l_nil ?_;refine hK _ _ ?_;clear hK K;refine c_cond true rfl ?_;rw [if_pos rfl];refine c_seq fun K hK=>?_;refine c_lit ?_;refine l_assign (.bool false) rfl rfl rfl rfl rfl ?_;refine l_nil ?_;refine hK _ _ ?_;clear hK K;rw [rightB_great hS];exact c_ret (k_then_ret (fun a ha=>bodyPost_ret (results_tmp rfl _ _ _) ha.defers ⟨congrArg Ending.returned (ha.get 6 _ rfl),hU⟩))
 ·refine c_seq fun K hK=>?_
  refine c_gF 5 ?_;refine g_op rfl ?_;refine f_by g1 0 hk rfl rfl rfl rfl rfl (fun _ h1=>(h1.1.blk b1).range) ?_;refine g_go ?_;refine g_op rfl ?_;refine f_call #[.agg (By key).toArray] (.tuple #[.agg (Us pz).toArray,.int .i64 50]) rfl rfl rfl own_cdecode (fun w1 h1=>cdec_no hk hA w1 (hT.below (hU.step h1.1)).tw) rfl rfl ?_;refine g_go ?_;refine g_op rfl ?_;refine f_move (.tuple #[.agg (Us pz).toArray,.int .i64 50]) rfl rfl rfl rfl rfl ?_;refine g_go ?_;refine g_op rfl ?_;refine f_extract (.agg (Us pz).toArray) rfl rfl rfl rfl rfl rfl ?_;refine g_go ?_;refine g_op rfl ?_;refine f_extract (.int .i64 50) rfl rfl rfl rfl rfl rfl ?_;refine g_go ?_;refine g_end fun W3 hw3 hF3=>?_;clear hF3;replace hU:=hU.step hw3;clear hw3;refine l_allocA ((Us pz).toArray) rfl rfl rfl rfl (by kernel_rfl) fun W4 g4 hw4 hg4 b4=>?_
  have q4 : w.heap.size ≤ g4:=by rw [hg4]; exact hU.size
  replace hU:=hU.step hw4;clear hw4 hg4;refine l_set g4 _ ((Us pz).toArray) rfl rfl rfl rfl rfl b4 (size_P pz_len) ((us_size pz_len).trans (us_size pz_len).symm) (Us_oneA _) ?_;replace hU:=up_row hU q4 ((Us pz).toArray);generalize World.setRow _ g4 ((Us pz).toArray) = W5 at *;refine l_assign (.int .i64 50) rfl rfl rfl rfl rfl ?_;refine l_nil ?_;refine hK _ _ ?_;clear hK K;refine c_seq fun K0 hK0=>?_;refine c_seq fun K hK=>?_;refine c_gF 6 ?_;refine g_op rfl ?_;refine f_move (.int .i64 50) rfl rfl rfl rfl rfl ?_;refine g_go ?_;refine g_op rfl ?_;refine f_neE _ 0 true rfl rfl rfl rfl rfl rfl rfl (by decide) ?_;refine g_go ?_;refine g_op rfl ?_;refine f_move (.bool true) rfl rfl rfl rfl rfl ?_;refine g_go ?_;refine g_skip rfl rfl rfl rfl rfl rfl rfl ?_;refine g_skip rfl rfl rfl rfl rfl rfl rfl ?_;refine g_op rfl ?_;refine f_pick (.bool true) rfl rfl rfl rfl rfl rfl ?_;refine g_go ?_;refine g_end fun W6 hw6 hF6=>?_;clear hF6;replace hU:=hU.step hw6;clear hw6;refine l_nil ?_;refine hK _ _ ?_;clear hK K;refine c_cond true rfl ?_;rw [if_pos rfl];refine c_seq fun K hK=>?_;refine c_lit ?_;refine l_assign (.bool false) rfl rfl rfl rfl rfl ?_;refine l_nil ?_;refine hK _ _ ?_;clear hK K;rw [rightB_no hA];exact c_ret (k_then_ret (fun a ha=>bodyPost_ret (results_tmp rfl _ _ _) ha.defers ⟨congrArg Ending.returned (ha.get 6 _ rfl),hU⟩))
end Go.Proofs.YtlcbhbahchiofaaGreatDoor
/-
  THE RING: Seal and Owned.
-/
namespace Go.Proofs.YtlcbhbahchiofaaGreatDoor
open Go.RowKit Go.IntWalk Nums

theorem own_seal : Own 12:=fun _ _=>by go_simp
theorem own_owned : Own 56:=fun _ _=>by go_simp
set_option maxRecDepth 100000 in
set_option maxHeartbeats 2000000 in
theorem seal_f {seed b : List UInt8} (t : UInt8) {v : Value} (hs : seed.length = 32) (w : World) (hT : Ta w) (hv : SB w v b) (hb : b.length ≤ 140737488355312) :
  Calls Tryz.prog 12 #[.agg (By seed).toArray,.int .u8 (t.toNat : Int),v] w fun e w'=>e = .returned (.agg (By (sgSig seed (msg t b))).toArray) ∧ Below w.heap.size w w':=by
 refine calls_F (vs:=[.agg (By seed).toArray,.int .u8 (t.toNat : Int),v]) 13 Tryz.func12 rfl (by rw [Tryz.ntmps12]; rfl) ?_;have hU:=Up.refl w;refine c_seq fun K hK=>?_;refine c_lit ?_;refine l_boxA ((By seed).toArray) rfl rfl rfl rfl rfl fun W1 g1 hw1 hg1 b1=>?_
 have q1 : w.heap.size ≤ g1:=by rw [hg1]; exact hU.size
 replace hU:=hU.step hw1;clear hw1 hg1;refine l_allocA ((By z64).toArray) rfl rfl rfl rfl zero64 fun W2 g2 hw2 hg2 b2=>?_
 have n1_2 : g1 ≠ g2:=by have:=b1.lt; omega
 have q2 : w.heap.size ≤ g2:=by rw [hg2]; exact hU.size
 replace b1:=b1.later hw2;replace hU:=hU.step hw2;clear hw2 hg2;refine l_nil ?_;refine hK _ _ ?_;clear hK K;refine c_seq fun K hK=>?_;refine c_g 6 (by decide) (by kernel_rfl) (by kernel_rfl) ?_;refine g_op rfl ?_;refine f_by g1 0 hs rfl rfl rfl rfl rfl (fun _ h1=>(h1.1.blk b1).range) ?_;refine g_go ?_;refine g_op rfl ?_;refine f_move (.int .u8 (t.toNat : Int)) rfl rfl rfl rfl rfl ?_;refine g_go ?_;refine g_op rfl ?_;refine f_move (v) rfl rfl rfl rfl rfl ?_;refine g_go ?_;refine g_call #[.int .u8 (t.toNat : Int),v] (fun u w=>SB w u (msg t b)) rfl rfl rfl rfl (fun _ _ _ h hr=>h.later hr) own_r7signed (fun w1 h1 hu=>signed_f t w1 (hv.later (hU.step h1)) hb) rfl rfl fun v10 _ _ _=>?_;refine g_slices [v10] [msg t b] (W2).heap.size rfl rfl rfl rfl rfl rfl rfl (by decide) (by decide) (fun _ h=>h.size) (fun _ h hu=>⟨(hu 3 _ rfl (by kernel_rfl) : SB _ v10 _),trivial⟩) fun gs3 _ _ _=>?_;refine g_op rfl ?_
 refine f_call #[.agg (By seed).toArray,.slice (some ⟨gs3,0,none⟩) 1 1] (.agg (By (sgSig seed (msg t b))).toArray) rfl rfl rfl own_sign (fun w1 h1=>by
   have:=sign_f (seed:=seed) (P:=some ⟨gs3,0,none⟩) (ls:=[msg t b]) (pc:=1) hs w1 (hT.below (hU.step h1.1)) ((h1.2 4 _ rfl (by kernel_rfl) : NewS _ _ _ _ _).pt) (fun e=>by cases e) (by simp)
   rwa [show [msg t b].flatten = msg t b from by simp] at this) rfl rfl ?_
 refine g_go ?_;refine g_end fun W4 hw4 hF4=>?_;clear hF4;replace b1:=b1.later hw4;replace b2:=b2.later hw4;replace hU:=hU.step hw4;clear hw4;refine l_set g2 _ ((By (sgSig seed (msg t b))).toArray) rfl rfl rfl rfl rfl b2 (size_64 ((sgSig_len _ _))) (by rw [List.size_toArray,List.size_toArray,By_len,By_len,((sgSig_len _ _))]; rfl) (By_oneA _) ?_;replace b1:=b1.rowFar n1_2 ((By (sgSig seed (msg t b))).toArray);replace b2:=b2.row ((By (sgSig seed (msg t b))).toArray);replace hU:=up_row hU q2 ((By (sgSig seed (msg t b))).toArray);generalize World.setRow _ g2 ((By (sgSig seed (msg t b))).toArray) = W5 at *;refine l_nil ?_;refine hK _ _ ?_;clear hK K;exact c_ret (k_ret_row g2 _ rfl rfl b2 Tryz.underlying43 rfl (size_64 ((sgSig_len _ _))) ⟨rfl,hU⟩)
set_option maxRecDepth 100000 in
set_option maxHeartbeats 2000000 in
theorem owned_f {key sig b : List UInt8} (t : UInt8) {v : Value} (hk : key.length = 32) (hs : sig.length = 64) (w : World) (hT : Ta w) (hv : SB w v b) (hb : b.length ≤ 140737488355312) :
  Calls Tryz.prog 56 #[.agg (By key).toArray,.int .u8 (t.toNat : Int),v,.agg (By sig).toArray] w fun e w'=>e = .returned (.bool (rightB key sig (msg t b))) ∧ Below w.heap.size w w':=by
 refine calls_F (vs:=[.agg (By key).toArray,.int .u8 (t.toNat : Int),v,.agg (By sig).toArray]) 16 Tryz.func56 rfl (by rw [Tryz.ntmps56]; rfl) ?_;have hU:=Up.refl w;refine c_seq fun K hK=>?_;refine c_lit ?_;refine l_boxA ((By key).toArray) rfl rfl rfl rfl rfl fun W1 g1 hw1 hg1 b1=>?_
 have q1 : w.heap.size ≤ g1:=by rw [hg1]; exact hU.size
 replace hU:=hU.step hw1;clear hw1 hg1;refine l_boxA ((By sig).toArray) rfl rfl rfl rfl rfl fun W2 g2 hw2 hg2 b2=>?_
 have n1_2 : g1 ≠ g2:=by have:=b1.lt; omega
 have q2 : w.heap.size ≤ g2:=by rw [hg2]; exact hU.size
 replace b1:=b1.later hw2;replace hU:=hU.step hw2;clear hw2 hg2;refine l_assign (.bool false) rfl rfl rfl rfl rfl ?_;refine l_nil ?_;refine hK _ _ ?_;clear hK K;refine c_seq fun K hK=>?_;refine c_g 8 (by decide) (by kernel_rfl) (by kernel_rfl) ?_;refine g_op rfl ?_;refine f_by g1 0 hk rfl rfl rfl rfl rfl (fun _ h1=>(h1.1.blk b1).range) ?_;refine g_go ?_;refine g_op rfl ?_;refine f_b64 g2 hs rfl rfl rfl rfl rfl (fun _ h1=>(h1.1.blk b2).range) ?_;refine g_go ?_;refine g_op rfl ?_;refine f_move (.int .u8 (t.toNat : Int)) rfl rfl rfl rfl rfl ?_;refine g_go ?_;refine g_op rfl ?_;refine f_move (v) rfl rfl rfl rfl rfl ?_;refine g_go ?_;refine g_call #[.int .u8 (t.toNat : Int),v] (fun u w=>SB w u (msg t b)) rfl rfl rfl rfl (fun _ _ _ h hr=>h.later hr) own_r7signed (fun w1 h1 hu=>signed_f t w1 (hv.later (hU.step h1)) hb) rfl rfl fun v13 _ _ _=>?_;refine g_slices [v13] [msg t b] (W2).heap.size rfl rfl rfl rfl rfl rfl rfl (by decide) (by decide) (fun _ h=>h.size) (fun _ h hu=>⟨(hu 4 _ rfl (by kernel_rfl) : SB _ v13 _),trivial⟩) fun gs3 _ _ _=>?_;refine g_op rfl ?_
 refine f_call #[.agg (By key).toArray,.agg (By sig).toArray,.slice (some ⟨gs3,0,none⟩) 1 1] (.bool (rightB key sig (msg t b))) rfl rfl rfl own_verify (fun w1 h1=>by
   have:=verify_f (key:=key) (sig:=sig) (P:=some ⟨gs3,0,none⟩) (ls:=[msg t b]) (pc:=1) hk hs w1 (hT.below (hU.step h1.1)) ((h1.2 5 _ rfl (by kernel_rfl) : NewS _ _ _ _ _).pt) (fun e=>by cases e) (by simp)
   rwa [show [msg t b].flatten = msg t b from by simp] at this) rfl rfl ?_
 refine g_go ?_;refine g_op rfl ?_;refine f_assign (.bool (rightB key sig (msg t b))) rfl rfl rfl rfl rfl ?_;refine g_go ?_;refine g_end fun W4 hw4 hF4=>?_;clear hF4;replace b1:=b1.later hw4;replace b2:=b2.later hw4;replace hU:=hU.step hw4;clear hw4;refine l_nil ?_;refine hK _ _ ?_;clear hK K;exact c_ret (fun a ha=>bodyPost_ret (results_tmp rfl _ _ _) ha.defers ⟨congrArg Ending.returned (ha.get 8 _ rfl),hU⟩)
end Go.Proofs.YtlcbhbahchiofaaGreatDoor
/-
  THE RING IN MEMORY; Size, Faults, Quorum, has, Key.
-/
namespace Go.Proofs.YtlcbhbahchiofaaGreatDoor
open Go.RowKit Go.IntWalk Nums

theorem own_rsize : Own 30:=fun _ _=>by go_simp
theorem own_rfaults : Own 50:=fun _ _=>by go_simp
theorem own_rquorum : Own 31:=fun _ _=>by go_simp
theorem own_rhas : Own 55:=fun _ _=>by go_simp
theorem own_ropen : Own 36:=fun _ _=>by go_simp
theorem own_rnew7 : Own 29:=fun _ _=>by go_simp

section
variable {P : Program} {ops : Array Oper} {C0 : World → Prop} {Q : Act → Prop} {N : Nat} {E : List (Nat × Value)} {o : Oper} {rest : List Oper} {k : Nat}
theorem f_skip {j t : Nat} {b : Bool} (hgd : o.guard = some (j,b)) (hj : (ops[j]?).bind (·.dst) = some t) (hN : Nat.blt t N = true) (ht : look E t = some (.bool (!b))) (hd : o.dst = some k) (hk : Nat.blt k N = true) (h : bF P ops C0 Q rest N ((k,undef) :: E)) : bF P ops C0 Q (o :: rest) N E:=fun a ha=>by
 have htN : t < a.tmps.size:=by rw [ha.size]; simpa using hN
 have h2:=ha.get t _ ht
 have h3 : a.tmps[t]? = some (.bool (!b)):=by
  simp only [Act.eval,Array.getD_eq_getD_getElem?] at h2;rw [Array.getElem?_eq_getElem htN] at h2 ⊢
  simpa using h2
 have hw : ¬ Region.wanted o (yielded ops a.tmps) = true:=by
  unfold Region.wanted
  rw [hgd]
  simp [yielded,hj,h3]
 unfold wpB
 rw [if_neg hw,hd];exact h _ (ha.put hk _)
theorem f_want {j t : Nat} {b : Bool} (hgd : o.guard = some (j,b)) (hj : (ops[j]?).bind (·.dst) = some t) (hN : Nat.blt t N = true) (ht : look E t = some (.bool b)) (h : bF P ops C0 Q ({ o with guard:=none } :: rest) N E) : bF P ops C0 Q (o :: rest) N E:=fun a ha=>by
 have h1:=h a ha
 have htN : t < a.tmps.size:=by rw [ha.size]; simpa using hN
 have h2:=ha.get t _ ht
 have h3 : a.tmps[t]? = some (.bool b):=by
  simp only [Act.eval,Array.getD_eq_getD_getElem?] at h2;rw [Array.getElem?_eq_getElem htN] at h2 ⊢
  simpa using h2
 have hw : Region.wanted o (yielded ops a.tmps) = true:=by
  unfold Region.wanted
  rw [hgd]
  simp [yielded,hj,h3]
 obtain ⟨dst,op,ty,pos,af,gd⟩:=o
 unfold wpB at h1 ⊢
 rw [if_pos hw];rw [if_pos (by rfl)] at h1;exact h1
end

def SK (ks : List (List UInt8)) (v : Value) : Prop:=∃ (i : Nat) (t : UInt8) (b s : List UInt8),i < ks.length ∧ v = STM i t b s ∧ b.length ≤ maxLen ∧ s.length = 64 ∧ rightB ks[i]! s (msg t b) = true
structure RgW (w : World) (base g m : Nat) (ks : List (List UInt8)) : Prop where
  fit : ks.length = 1 ∨ ks.length = 4 ∨ ks.length = 7
  gb : base ≤ g
  mb : base ≤ m
  keys : ∃ b o c,Blk w g 96 #[.slice (some ⟨b,o,none⟩) ks.length c,.map (some m)] ∧ base ≤ b ∧ HV w (some ⟨b,o,none⟩) ks ∧ ks.length ≤ c ∧ c ≤ 9223372036854775807
  map : ∃ es,MapK w m es (SK ks)
section
variable {w w' : World} {base g m : Nat} {ks : List (List UInt8)}
theorem RgW.keep (h : RgW w base g m ks) (hs : w.heap.size ≤ w'.heap.size) (hk : ∀ k,base ≤ k → k < w.heap.size → w'.heap[k]? = w.heap[k]?) : RgW w' base g m ks:=by
 obtain ⟨b,o,c,h1,h2,h3,h4,h5⟩:=h.keys;obtain ⟨es,h6⟩:=h.map;exact ⟨h.fit,h.gb,h.mb,⟨b,o,c,(hk g h.gb h1.lt).trans h1,h2,h3.keep hs fun b' o' e hlt=>by cases e; exact hk b h2 hlt,h4,h5⟩,es,h6.keep (hk m h.mb h6.lt)⟩
theorem RgW.later (h : RgW w base g m ks) (hb : Below w.heap.size w w') : RgW w' base g m ks:=h.keep hb.size fun k _ hlt=>hb.block k hlt
theorem RgW.pos (h : RgW w base g m ks) : 0 < ks.length:=by rcases h.fit with h | h | h <;> omega
theorem RgW.len (h : RgW w base g m ks) : ∀ l ∈ ks,l.length = 32:=by
 obtain ⟨b,o,c,_,_,h3,_⟩:=h.keys;exact h3.len
theorem SK.key (hf : ks.length = 1 ∨ ks.length = 4 ∨ ks.length = 7) : ∀ v,SK ks v → ∃ l,keyOf Tryz.prog 101 v = some l:=by
 rintro v ⟨i,t,b,s,hi,rfl,hb,hs,_⟩
 refine stm_key ?_ hb hs
 simp [Lit.wf,IntKind.min,IntKind.max,IntKind.signed,IntKind.bits]
 omega
end
abbrev ptr (g : Nat) : Value:=.pointer (some ⟨g,0,none⟩)
set_option maxRecDepth 100000 in
set_option maxHeartbeats 1000000 in
theorem rsize_f {base g m : Nat} {ks : List (List UInt8)} (w : World) (hR : RgW w base g m ks) : Calls Tryz.prog 30 #[ptr g] w fun e w'=>e = .returned (.int .i64 (ks.length : Int)) ∧ Below w.heap.size w w':=by
 refine calls_F (vs:=[ptr g]) 10 Tryz.func30 rfl (by rw [Tryz.ntmps30]; rfl) ?_;refine c_seq fun K hK=>?_;refine c_qF ?_;refine f_assign (.int .i64 0) rfl rfl rfl rfl rfl ?_;refine f_end fun w1 hw1=>hK _ _ ?_;clear hK K;refine c_seq fun K0 hK0=>?_;refine c_seq fun K hK=>?_;refine c_qF ?_;refine f_move (ptr g) rfl rfl rfl rfl rfl ?_;refine f_eqP (some ⟨g,0,none⟩) false rfl rfl rfl rfl rfl rfl rfl ?_;refine f_end fun w2 hw2=>hK _ _ ?_;clear hK K;refine c_cond false rfl ?_;rw [if_neg (by decide)];refine c_skip ?_;refine hK0 _ _ ?_;obtain ⟨b,o,c,h1,_⟩:=(hR.later (Up.step hw1 hw2)).keys;refine c_seq fun K hK=>?_;refine c_qF ?_;refine f_move (ptr g) rfl rfl rfl rfl rfl ?_;refine f_nilc ⟨g,0,none⟩ rfl rfl rfl rfl rfl ?_;refine f_fld g 0 0 rfl rfl rfl rfl rfl (rfld0 g) ?_;refine f_loadV ⟨g,0,none⟩ (.slice (some ⟨b,o,none⟩) ks.length c) (.inl rfl) rfl rfl rfl rfl rfl (fun _ h=>((h.blk h1).cell 0).trans rfl) ?_;refine f_lenH (some ⟨b,o,none⟩) ks.length c rfl rfl rfl rfl rfl ?_;refine f_assign (.int .i64 (ks.length : Int)) rfl rfl rfl rfl rfl ?_;refine f_end fun w3 hw3=>hK _ _ ?_;exact c_ret fun a ha=>bodyPost_ret (results_tmp rfl _ _ _) ha.defers ⟨congrArg Ending.returned (ha.get 2 _ rfl),(Up.step hw1 hw2).step hw3⟩
set_option maxRecDepth 100000 in
set_option maxHeartbeats 1000000 in
theorem rhas_any {v : Value} (n : Nat) (i : Int) (w : World) (hs : ∀ w',Up w w' → Calls Tryz.prog 30 #[v] w' fun e w''=>e = .returned (.int .i64 (n : Int)) ∧ Below w'.heap.size w' w'') :
  Calls Tryz.prog 55 #[v,.int .i64 i] w fun e w'=>e = .returned (.bool (decide (0 ≤ i ∧ i < n))) ∧ Below w.heap.size w w':=by
 refine calls_F (vs:=[v,.int .i64 i]) 13 Tryz.func55 rfl (by rw [Tryz.ntmps55]; rfl) ?_;refine c_seq fun K hK=>?_;refine c_qF ?_;refine f_assign (.bool false) rfl rfl rfl rfl rfl ?_;refine f_end fun w1 hw1=>hK _ _ ?_;clear hK K;refine c_seq fun K hK=>?_;refine c_qF ?_;refine f_move (.int .i64 i) rfl rfl rfl rfl rfl ?_;refine f_leqI 0 i (decide (0 ≤ i)) rfl rfl rfl rfl rfl rfl rfl ?_
 by_cases h0 : 0 ≤ i
 ·rw [decide_eq_true h0]
  refine f_move (.bool true) rfl rfl rfl rfl rfl ?_;refine f_want rfl rfl rfl rfl ?_;refine f_move (.int .i64 i) rfl rfl rfl rfl rfl ?_;refine f_want rfl rfl rfl rfl ?_;refine f_move v rfl rfl rfl rfl rfl ?_;refine f_want rfl rfl rfl rfl ?_;refine f_call #[v] (.int .i64 (n : Int)) rfl rfl rfl own_rsize (fun w2 h2=>hs w2 (Up.step hw1 h2)) rfl rfl ?_;refine f_want rfl rfl rfl rfl ?_;refine f_lssI i (n : Int) (decide (0 ≤ i ∧ i < n)) rfl rfl rfl rfl rfl rfl (by rw [decide_eq_decide]; omega) ?_;refine f_pick (.bool (decide (0 ≤ i ∧ i < n))) rfl rfl rfl rfl rfl rfl ?_;refine f_assign (.bool (decide (0 ≤ i ∧ i < n))) rfl rfl rfl rfl rfl ?_;refine f_end fun w3 hw3=>hK _ _ ?_;exact c_ret fun a ha=>bodyPost_ret (results_tmp rfl _ _ _) ha.defers ⟨congrArg Ending.returned (ha.get 4 _ rfl),Up.step hw1 hw3⟩
 ·rw [decide_eq_false h0]
  refine f_move (.bool false) rfl rfl rfl rfl rfl ?_;refine f_skip rfl rfl rfl rfl rfl rfl ?_;refine f_skip rfl rfl rfl rfl rfl rfl ?_;refine f_skip rfl rfl rfl rfl rfl rfl ?_;refine f_skip rfl rfl rfl rfl rfl rfl ?_;refine f_pickF (.bool false) rfl rfl rfl rfl rfl rfl ?_;refine f_assign (.bool false) rfl rfl rfl rfl rfl ?_;refine f_end fun w3 hw3=>hK _ _ ?_;exact c_ret fun a ha=>bodyPost_ret (results_tmp rfl _ _ _) ha.defers ⟨congrArg Ending.returned ((ha.get 4 _ rfl).trans (congrArg Value.bool (decide_eq_false (fun h=>h0 h.1)).symm)),Up.step hw1 hw3⟩
end Go.Proofs.YtlcbhbahchiofaaGreatDoor
/-
  THE RING: New.
-/
namespace Go.Proofs.YtlcbhbahchiofaaGreatDoor
open Go.RowKit Go.IntWalk Nums

section
variable {ops : Array Oper} {Q : Exit → Act → World → Prop} {N : Nat} {E : List (Nat × Value)} {w : World} {o : Oper} {rest : List Oper} {k : Nat}
theorem l_makeMap (hg : o.guard = none) (hd : o.dst = some k) (hk : Nat.blt k N = true) (ho : o.op = .makeMap 94 none)
  (hn : lF Tryz.prog ops Q rest N ((k,.map (some w.heap.size)) :: E) (w.alloc (.map #[] 0))) : lF Tryz.prog ops Q (o :: rest) N E w :=
 l_val _ hg hd hk (fun a _=>by
  have hr:=run_makeMap (P:=Tryz.prog) 94 w
  unfold execOp
  simp only [ho,Option.map_none,Sem.run_bind,hr,Result.andThen_ok,Sem.run_pure]) hn
end
theorem built_ring (g n c m : Nat) : Tryz.prog.built 96 [(0,.slice (some ⟨g,0,none⟩) n c),(1,.map (some m))] = some #[.slice (some ⟨g,0,none⟩) n c,.map (some m)]:=by kernel_rfl
set_option maxRecDepth 100000 in
set_option maxHeartbeats 1000000 in
theorem rnew7_yes {A : Option Addr} {ks : List (List UInt8)} {c : Nat} (hn : ks.length ≤ c) (hc : c ≤ 9223372036854775807) (hf : ks.length = 1 ∨ ks.length = 4 ∨ ks.length = 7) (hd : ks.Nodup) (w : World) (hA : HV w A ks) :
  Calls Tryz.prog 29 #[.slice A ks.length c] w fun e w'=>(∃ g m,e = .returned (.tuple #[ptr g,.int .i64 0]) ∧ RgW w' w.heap.size g m ks) ∧ Below w.heap.size w w':=by
 refine calls_F (vs:=[.slice A ks.length c]) 17 Tryz.func29 rfl (by rw [Tryz.ntmps29]; rfl) ?_;have hU:=Up.refl w;refine c_seq fun K hK=>?_;refine c_qF ?_;refine f_assign (.pointer none) rfl rfl rfl rfl rfl ?_;refine f_assign (.int .i64 0) rfl rfl rfl rfl rfl ?_;refine f_end fun w1 hw1=>hK _ _ ?_;replace hU:=hU.step hw1;clear hw1 hK K;refine c_seq fun K0 hK0=>?_;refine c_seq fun K hK=>?_;refine c_qF ?_;refine f_move (.slice A ks.length c) rfl rfl rfl rfl rfl ?_;refine f_lenH A ks.length c rfl rfl rfl rfl rfl ?_
 refine f_call #[.int .i64 (ks.length : Int)] (.bool true) rfl rfl rfl own_rfit (fun w2 h2=>by
  have:=rfit_f ks.length (by omega) w2
  rwa [decide_eq_true hf] at this) rfl rfl ?_
 refine f_not true false rfl rfl rfl rfl rfl rfl ?_;refine f_move (.bool false) rfl rfl rfl rfl rfl ?_;refine f_want rfl rfl rfl rfl ?_;refine f_move (.slice A ks.length c) rfl rfl rfl rfl rfl ?_;refine f_want rfl rfl rfl rfl ?_
 refine f_call #[.slice A ks.length c] (.bool false) rfl rfl rfl own_rtwice (fun w2 h2=>by
  have:=rtwice_f hn hc w2 (hA.later (hU.step h2))
  rwa [decide_eq_false (fun h=>h hd)] at this) rfl rfl ?_
 refine f_pickF (.bool false) rfl rfl rfl rfl rfl rfl ?_;refine f_end fun w2 hw2=>hK _ _ ?_;replace hU:=hU.step hw2;clear hw2 hK K;refine c_cond false rfl ?_;rw [if_neg (by decide)];refine c_skip ?_;refine hK0 _ _ ?_;clear hK0 K0
 have hpos : 0 < ks.length:=by omega
 refine c_seq fun K hK=>?_;refine c_lit ?_;refine l_move (.slice A ks.length c) rfl rfl rfl rfl rfl ?_
 refine l_call #[.slice A ks.length c] rfl rfl rfl own_hclone (clone_f (fun e=>by
  obtain ⟨b,o,h,_⟩:=hA hpos;rw [e] at h
  cases h) (by omega) w2 (hA.later hU)) rfl rfl ?_
 rintro e w3 ⟨⟨v,rfl,hG⟩,hb3⟩
 refine ⟨v,rfl,?_⟩;have hsz:=hU.size;replace hU:=hU.step hb3;have hG':=hG
 rcases hG.cut with ⟨_,h0⟩ | ⟨g,c',cs,rfl,hbg,hg,hn',hc',_,ht⟩
 ·rw [h0] at hpos
  cases hpos
 refine l_makeMap rfl rfl rfl rfl ?_;have hM:=MapK.new w3 (SK ks);have hal:=(Up.refl w3).alloc (.map #[] 0);have q1:=hU.size;replace hg:=hg.later hal;replace hU:=hU.step hal;generalize w3.alloc (.map #[] 0) = w4 at *;generalize w3.heap.size = m at *;refine l_ops 1 ?_;refine f_build [(0,.slice (some ⟨g,0,none⟩) ks.length c'),(1,.map (some m))] _ rfl rfl rfl rfl rfl (built_ring g ks.length c' m) ?_;refine f_tail fun w5 hw5=>?_;replace hg:=hg.later hw5;replace hM:=hM.keep (hw5.block m hM.lt);replace hU:=hU.step hw5;clear hw5;refine l_boxA #[.slice (some ⟨g,0,none⟩) ks.length c',.map (some m)] rfl rfl rfl rfl rfl fun w6 r hw6 hr b1=>?_
 have q2 : w.heap.size ≤ r:=by rw [hr]; exact hU.size
 replace hg:=hg.later hw6;replace hM:=hM.keep (hw6.block m hM.lt);replace hU:=hU.step hw6;clear hw6 hr;refine l_ops 2 ?_;refine f_assign (ptr r) rfl rfl rfl rfl rfl ?_;refine f_assign (.int .i64 0) rfl rfl rfl rfl rfl ?_;refine f_tail fun w7 hw7=>?_;refine l_nil ?_;refine hK _ _ ?_;refine c_ret fun a ha=>bodyPost_ret (results_tmp2 rfl _ _ _) ha.defers ?_;have hR : RgW w6 w.heap.size r m ks:=⟨hf,q2,q1,⟨g,0,c',b1,Nat.le_trans hsz hbg,hv_row hg hG'.1 ht,hn',hc'⟩,#[],hM⟩;refine ⟨⟨r,m,?_,hR.later hw7⟩,hU.step hw7⟩;have e1 : a.tmps.getD 2 undef = ptr r:=ha.get 2 _ rfl;have e2 : a.tmps.getD 3 undef = .int .i64 0:=ha.get 3 _ rfl;exact congrArg Ending.returned (show Value.tuple #[a.tmps.getD 2 undef,a.tmps.getD 3 undef] = _ by rw [e1,e2])
end Go.Proofs.YtlcbhbahchiofaaGreatDoor
/-
  THE RING: Open.
-/
namespace Go.Proofs.YtlcbhbahchiofaaGreatDoor
open Go.RowKit Go.IntWalk Nums

theorem fill_one (place : Nat → Option (Nat × Nat)) (i : Nat) (A Z : List Value) (o v : Value) (rest : List (Nat × Value)) (hp : place i = some (A.length,1)) (hv : v.cells = #[v]) :
  Instr.fill place (A ++ (o :: Z)).toArray ((i,v) :: rest) = Instr.fill place (A ++ (v :: Z)).toArray rest:=by
 rw [Instr.fill];simp only [hp,hv];rw [if_neg (by simp)]
 congr 1
 simp
def stz : List Value:=([.int .i64 0,.int .u8 0,.string ⟨#[]⟩] : List Value) ++ By z64
theorem built_stm (i : Int) (t : UInt8) (b : List UInt8) {s : List UInt8} (hs : s.length = 64) : Tryz.prog.built 101 [(0,.int .i64 i),(1,.int .u8 (t.toNat : Int)),(2,.string ⟨b.toArray⟩),(3,.agg (By s).toArray)] = some (#[Value.int .i64 i,.int .u8 (t.toNat : Int),.string ⟨b.toArray⟩] ++ (By s).toArray):=by
 rw [built_of (t:=101) (z:=stz.toArray) (pl:=[(0,1),(1,1),(2,1),(3,64)]) (by kernel_rfl)]
 show Instr.fill _ ([] ++ (Value.int .i64 0 :: (([.int .u8 0,.string ⟨#[]⟩] : List Value) ++ By z64))).toArray _ = _
 rw [fill_one _ 0 [] _ _ _ _ rfl rfl]
 show Instr.fill _ ([Value.int .i64 i] ++ (Value.int .u8 0 :: (([.string ⟨#[]⟩] : List Value) ++ By z64))).toArray _ = _
 rw [fill_one _ 1 [.int .i64 i] _ _ _ _ rfl rfl]
 show Instr.fill _ ([Value.int .i64 i,.int .u8 (t.toNat : Int)] ++ (Value.string ⟨#[]⟩ :: By z64)).toArray _ = _
 rw [fill_one _ 2 [.int .i64 i,.int .u8 (t.toNat : Int)] _ _ _ _ rfl rfl]
 show Instr.fill _ ([Value.int .i64 i,.int .u8 (t.toNat : Int),.string ⟨b.toArray⟩] ++ (By z64 ++ [])).toArray _ = _
 rw [fill_put _ 3 64 [.int .i64 i,.int .u8 (t.toNat : Int),.string ⟨b.toArray⟩] (By z64) [] (By s) [] rfl (by rw [By_len]; exact hs) (by rw [By_len]; rfl)];rw [Instr.fill]
 simp
section
variable {ops : Array Oper} {C0 : World → Prop} {Q : Act → Prop} {N : Nat} {E : List (Nat × Value)} {o : Oper} {rest : List Oper} {k : Nat}
theorem f_look {x y : Operand} (mv key : Value) (v : Value) (hg : o.guard = none) (hd : o.dst = some k) (hk : Nat.blt k N = true) (ho : o.op = .lookup 94 x y true) (hx : ev E x = some mv) (hy : ev E y = some key)
  (hr : ∀ w,C0 w → (Instr.lookup 94 mv key true).run Tryz.prog w = .ok v w) (hn : bF Tryz.prog ops C0 Q rest N ((k,v) :: E)) : bF Tryz.prog ops C0 Q (o :: rest) N E :=
 f_val _ hg hd hk (fun a ha w hw=>by
  have h1:=ha.eval hx;have h2:=ha.eval hy
  unfold execOp
  simp only [ho,h1,h2,Sem.run_bind,hr w hw,Result.andThen_ok,Sem.run_pure]) hn
end
theorem l_mapPut {ops : Array Oper} {Q : Exit → Act → World → Prop} {N : Nat} {E : List (Nat × Value)} {w : World} {o : Oper} {rest : List Oper} {x y z : Operand} {m : Nat} {es : Array MapEntry} {S : Value → Prop} (key : Value) (hg : o.guard = none) (hd : o.dst = none) (ho : o.op = .mapUpdate 94 x y z) (hx : ev E x = some (.map (some m))) (hy : ev E y = some key) (hz : ev E z = some (.agg #[]))
  (h : MapK w m es S) (hS : ∀ v,S v → ∃ l,keyOf Tryz.prog 101 v = some l) (hkey : S key) (hn : ∀ w' es',MapK w' m es' S → w.grownBy w' (some m) → lF Tryz.prog ops Q rest N E w') : lF Tryz.prog ops Q (o :: rest) N E w:=fun a ha=>by
 obtain ⟨w',es',hr,h1,h2⟩:=h.put hS hkey;have h3:=hn w' es' h1 h2 a ha;have e1:=ha.eval hx;have e2:=ha.eval hy;have e3:=ha.eval hz
 unfold wpList
 rw [if_pos (by simp [Region.wanted,hg])];refine .inl ?_
 unfold Oper.wp execOp
 simp only [ho,e1,e2,e3,Sem.run_bind,hr,Result.andThen_ok,Sem.run_pure,Oper.upon,hd];exact h3
theorem size_stm (i : Int) (t : UInt8) (b : List UInt8) {s : List UInt8} (hs : s.length = 64) : (#[Value.int .i64 i,.int .u8 (t.toNat : Int),.string ⟨b.toArray⟩] ++ (By s).toArray).size = 67:=by
 simp [By_len,hs]
theorem one_stm (i : Int) (t : UInt8) (b s : List UInt8) : ∀ v ∈ (#[Value.int .i64 i,.int .u8 (t.toNat : Int),.string ⟨b.toArray⟩] ++ (By s).toArray).toList,v.oneCell' = true:=by
 intro v hv
 simp only [Array.toList_append,List.mem_append] at hv
 rcases hv with hv | hv
 ·simp at hv
  rcases hv with rfl | rfl | rfl <;> rfl
 ·exact By_one s v hv
theorem info_stm : (Tryz.prog.info? 101).map (·.size) = some 67:=by kernel_rfl
section
variable {P : Program} {Rel : World → World → Prop} [hR : RelOk Rel] {ops : Array Oper} {C0 : World → Prop} {Q : Facts → Act → Prop} {N : Nat} {E : List (Nat × Value)} {Fa : Told} {o : Oper} {rest : List (Nat × Oper)} {i : Nat}
theorem g_nop (hg : o.guard = none) (hd : o.dst = none) (hf : farP i Fa = true) (h : ∀ a,Fr N E a → ∀ w,C0 w → Uses o Fa w → (execOp a.eval o).run P w = .ok .skip w) (hn : gF P Rel ops C0 Q rest N E Fa) : gF P Rel ops C0 Q ((i,o) :: rest) N E Fa:=fun a F ha hF=>by
 unfold wpG
 rw [if_pos (by simp [Region.wanted,hg])];refine ⟨fun v _=>v = undef,fun _ _ _ h _=>h,.inl ⟨undef,fun _ _ h=>h⟩,fun w hw he=>?_,fun v w hw _ hV=>hn _ _ (by dsimp only; rw [hd]; exact ha) (hF.up hf)⟩
 have h1:=h a ha w hw fun j p hj hed=>by
  obtain ⟨e,h1,h2,rfl⟩:=edgeTo_spec hed;exact hF _ (lookP_mem hj) w (he e h1 h2)
 dsimp only
 rw [h1];exact ⟨hR.below _ _ (Below.refl _ _),rfl⟩
end
theorem store_unit {ρ : Operand → Value} {o : Oper} {p x : Operand} {g t : Nat} {w : World} (ho : o.op = .store 102 p x) (hp : ρ p = .pointer (some ⟨g,0,none⟩)) (hx : ρ x = .agg #[]) (hb : Blk w g t #[]) : (execOp ρ o).run Tryz.prog w = .ok .skip w:=by
 have hr:=run_store_row (P:=Tryz.prog) w 102 g #[] #[] t hb (by kernel_rfl) rfl (fun v hv=>by simp at hv);rw [setRow_same hb] at hr
 unfold execOp
 simp only [ho,hp,hx,Sem.run_bind,hr,Result.andThen_ok,Sem.run_pure]
set_option maxRecDepth 100000 in
set_option maxHeartbeats 2000000 in
open Classical in
theorem ropen_f {base g0 m : Nat} {ks : List (List UInt8)} {bv : Value} {b s : List UInt8} (i : Nat) (t : UInt8) (hi : i < ks.length) (hs : s.length = 64) (w : World) (hT : Ta w) (hv : SB w bv b) (hb : b.length ≤ 140737488355312) (hR : RgW w base g0 m ks) :
  Calls Tryz.prog 36 #[ptr g0,.int .i64 (i : Int),.int .u8 (t.toNat : Int),bv,.agg (By s).toArray] w fun e w'=>e = .returned (.bool (rightB ks[i] s (msg t b))) ∧ RgW w' base g0 m ks ∧ w.grownBy w' (some m):=by
 have hgr : ∀ {a b : World},Up a b → a.grownBy b (some m):=fun h=>⟨h.os,h.tape,h.output,h.size,fun k hk _=>h.block k hk⟩;have hk32 : ks[i].length = 32:=hR.len _ (List.getElem_mem hi);refine calls_F (vs:=[ptr g0,.int .i64 (i : Int),.int .u8 (t.toNat : Int),bv,.agg (By s).toArray]) 52 Tryz.func36 rfl (by rw [Tryz.ntmps36]; rfl) ?_;have hU:=Up.refl w;refine c_seq fun K hK=>?_;refine c_lit ?_;refine l_boxA ((By s).toArray) rfl rfl rfl rfl rfl fun w1 g hw1 hg b1=>?_
 have q1 : w.heap.size ≤ g:=by rw [hg]; exact hU.size
 replace hU:=hU.step hw1;clear hw1 hg;refine l_assign (.bool false) rfl rfl rfl rfl rfl ?_;refine l_nil ?_;refine hK _ _ ?_;clear hK K;refine c_seq fun K0 hK0=>?_;refine c_seq fun K hK=>?_;refine c_qF ?_;refine f_move (ptr g0) rfl rfl rfl rfl rfl ?_;refine f_move (.int .i64 (i : Int)) rfl rfl rfl rfl rfl ?_
 refine f_call #[ptr g0,.int .i64 (i : Int)] (.bool true) rfl rfl rfl own_rhas (fun w2 h2=>by
  have:=rhas_any ks.length (i : Int) w2 fun w3 h3=>rsize_f w3 (hR.later (Up.step (Up.step hU h2) h3))
  rwa [decide_eq_true (show 0 ≤ (i : Int) ∧ (i : Int) < ks.length by omega)] at this) rfl rfl ?_
 refine f_not true false rfl rfl rfl rfl rfl rfl ?_;refine f_end fun w2 hw2=>hK _ _ ?_;clear hK K;refine c_cond false rfl ?_;rw [if_neg (by decide)];refine c_skip ?_;refine hK0 _ _ ?_;clear hK0 K0;replace b1:=b1.later hw2;replace hU:=hU.step hw2;clear hw2
 -- the statement
 refine c_seq fun K hK=>?_;refine c_lit ?_;refine l_ops 6 ?_;refine f_move (.int .i64 (i : Int)) rfl rfl rfl rfl rfl ?_;refine f_move (.int .u8 (t.toNat : Int)) rfl rfl rfl rfl rfl ?_;refine f_move bv rfl rfl rfl rfl rfl ?_;refine f_strB bv b rfl rfl rfl rfl rfl (fun _ h=>hv.later (hU.step h)) ?_;refine f_b64 g hs rfl rfl rfl rfl rfl (fun _ h=>(h.blk b1).range) ?_;refine f_build [(0,.int .i64 (i : Int)),(1,.int .u8 (t.toNat : Int)),(2,.string ⟨b.toArray⟩),(3,.agg (By s).toArray)] _ rfl rfl rfl rfl rfl (built_stm (i : Int) t b hs) ?_;refine f_tail fun w3 hw3=>?_;replace b1:=b1.later hw3;replace hU:=hU.step hw3;clear hw3;refine l_allocA stz.toArray rfl rfl rfl rfl (by kernel_rfl) fun w4 gs hw4 hgs b2=>?_
 have q2 : w.heap.size ≤ gs:=by rw [hgs]; exact hU.size
 have n12 : g ≠ gs:=by have:=b1.lt; omega
 replace b1:=b1.later hw4;replace hU:=hU.step hw4;clear hw4 hgs;obtain ⟨sc,hsc⟩ : ∃ sc,sc = #[Value.int .i64 (i : Int),.int .u8 (t.toNat : Int),.string ⟨b.toArray⟩] ++ (By s).toArray:=⟨_,rfl⟩;have hsz:=size_stm (i : Int) t b hs;have hone:=one_stm (i : Int) t b s
 have hstm : STM (i : Int) t b s = .agg sc:=by rw [hsc]; rfl
 rw [← hsc] at hsz hone ⊢;clear hsc;refine l_set gs _ sc rfl rfl rfl rfl rfl b2 (by rw [hsz]; exact info_stm) (by rw [hsz]; rfl) hone ?_;replace b1:=b1.rowFar n12 sc;replace b2:=b2.row sc;replace hU:=up_row hU q2 sc;generalize World.setRow _ gs sc = w5 at *;refine l_nil ?_;refine k_sub (E':=[(0,ptr g0),(1,.int .i64 (i : Int)),(2,.int .u8 (t.toNat : Int)),(3,bv),(9,ptr g),(11,ptr gs)]) ⟨rfl,rfl,rfl,rfl,rfl,rfl,trivial⟩ ?_;refine hK _ _ ?_;clear hK K
 -- is it kept?
 obtain ⟨bb,oo,c,h1,_,h3,_⟩:=(hR.later hU).keys;obtain ⟨es,hM⟩:=(hR.later hU).map
 have hkey : ∃ l,keyOf Tryz.prog 101 (.agg sc) = some l:=by
  rw [← hstm];refine stm_key ?_ (by unfold maxLen; omega) hs;have:=hR.fit
  simp [Lit.wf,IntKind.min,IntKind.max,IntKind.signed,IntKind.bits]
  omega
 obtain ⟨q,hq⟩ : ∃ q,q = decide (∃ e ∈ es.toList,e.key = .agg sc):=⟨_,rfl⟩
 have hlook : ∀ w',Up w5 w' → (Instr.lookup 94 (.map (some m)) (.agg sc) true).run Tryz.prog w' = .ok (.tuple #[.agg #[],.bool q]) w':=fun w' h=>by
  rw [hq];exact (hM.keep (h.block m hM.lt)).look (SK.key hR.fit) hkey
 refine c_seq fun K0 hK0=>?_;refine c_seq fun K hK=>?_;refine c_g 11 (by decide) (by kernel_rfl) (by kernel_rfl) ?_;refine g_op rfl ?_;refine f_move (ptr g0) rfl rfl rfl rfl rfl ?_;refine g_go ?_;refine g_op rfl ?_;refine f_nilc ⟨g0,0,none⟩ rfl rfl rfl rfl rfl ?_;refine g_go ?_;refine g_op rfl ?_;refine f_fld g0 0 1 rfl rfl rfl rfl rfl (rfld1 g0) ?_;refine g_go ?_;refine g_op rfl ?_;refine f_loadV ⟨g0,1,none⟩ (.map (some m)) (.inr rfl) rfl rfl rfl rfl rfl (fun _ h=>((h.1.blk h1).cell 1).trans rfl) ?_;refine g_go ?_;refine g_op rfl ?_;refine f_row gs 0 sc.toList _ rfl rfl rfl rfl rfl (fun _ h=>(h.1.blk b2).range) Tryz.underlying101 rfl (by rw [Array.length_toList,hsz]; exact info_stm) ?_;refine g_go ?_;refine g_op rfl ?_;refine f_look (.map (some m)) (.agg sc) (.tuple #[.agg #[],.bool q]) rfl rfl rfl rfl rfl rfl (fun _ h=>hlook _ h.1) ?_;refine g_go ?_;refine g_op rfl ?_;refine f_move (.tuple #[.agg #[],.bool q]) rfl rfl rfl rfl rfl ?_;refine g_go ?_;refine g_op rfl ?_;refine f_extract (.agg #[]) rfl rfl rfl rfl rfl rfl ?_;refine g_go ?_;refine g_op rfl ?_;refine f_extract (.bool q) rfl rfl rfl rfl rfl rfl ?_;refine g_go ?_;refine g_alloc #[] w5.heap.size rfl rfl rfl rfl rfl (by kernel_rfl) (fun _ h=>h.size) (fun g w w' h hr=>⟨h.1,h.2.later hr⟩) fun gu _ _ _ _=>?_;refine g_nop rfl rfl rfl (fun a ha w _ hu=>store_unit rfl (ha.eval rfl) (ha.eval rfl) (hu 9 _ rfl (by kernel_rfl)).2) ?_;refine g_end fun w6 hw6 _=>?_;replace b1:=b1.later hw6;replace b2:=b2.later hw6;replace hU:=hU.step hw6;replace h1:=h1.later hw6;replace h3:=h3.later hw6;replace hM:=hM.keep (hw6.block m hM.lt);clear hlook hw6;refine l_assign (.bool q) rfl rfl rfl rfl rfl ?_;refine l_nil ?_;refine k_sub (E':=[(0,ptr g0),(1,.int .i64 (i : Int)),(2,.int .u8 (t.toNat : Int)),(3,bv),(9,ptr g),(11,ptr gs),(13,.bool q)]) ⟨rfl,rfl,rfl,rfl,rfl,rfl,rfl,trivial⟩ ?_;refine hK _ _ ?_;clear hK K;refine c_seq fun K hK=>?_;refine c_qF ?_;refine f_move (.bool q) rfl rfl rfl rfl rfl ?_;refine f_end fun w7 hw7=>hK _ _ ?_;replace b1:=b1.later hw7;replace b2:=b2.later hw7;replace hU:=hU.step hw7;replace h1:=h1.later hw7;replace h3:=h3.later hw7;replace hM:=hM.keep (hw7.block m hM.lt);clear hK K hw7;refine c_cond q rfl ?_
 by_cases hin : ∃ e ∈ es.toList,e.key = .agg sc
 ·rw [decide_eq_true hin] at hq
  subst hq
  have hr : rightB ks[i] s (msg t b) = true:=by
   obtain ⟨e,he,hke⟩:=hin;obtain ⟨j,u,b',s',hj,hk,_,_,hrr⟩:=(hM.2 e he).2;rw [hke,← hstm] at hk;obtain ⟨e1,e2,e3,e4⟩:=stm_inj hk
   obtain rfl : i = j:=by omega
   subst e2 e3 e4
   rwa [getElem!_pos ks i hi] at hrr
  rw [if_pos rfl];refine c_seq fun K hK=>?_;refine c_qF ?_;refine f_assign (.bool true) rfl rfl rfl rfl rfl ?_;refine f_end fun w8 hw8=>hK _ _ ?_;refine c_ret ?_;exact k_then_ret fun a ha=>bodyPost_ret (results_tmp rfl _ _ _) ha.defers ⟨congrArg Ending.returned ((ha.get 10 _ rfl).trans (congrArg Value.bool hr.symm)),hR.later (hU.step hw8),hgr (hU.step hw8)⟩
 rw [decide_eq_false hin] at hq;subst hq;rw [if_neg (by decide)];refine c_skip ?_;refine hK0 _ _ ?_;clear hK0 K0
 -- it is verified
 obtain ⟨bb',oo',e,hlt,hcc⟩:=h3 hR.pos
 injection e with e
 injection e with e1 e2
 subst e1 e2;obtain ⟨hx1,hx2⟩:=hcc i ks[i] (List.getElem?_eq_getElem hi);refine c_seq fun K0 hK0=>?_;refine c_seq fun K hK=>?_;refine c_g 12 (by decide) (by kernel_rfl) (by kernel_rfl) ?_;refine g_op rfl ?_;refine f_move (ptr g0) rfl rfl rfl rfl rfl ?_;refine g_go ?_;refine g_op rfl ?_;refine f_nilc ⟨g0,0,none⟩ rfl rfl rfl rfl rfl ?_;refine g_go ?_;refine g_op rfl ?_;refine f_fld g0 0 0 rfl rfl rfl rfl rfl (rfld0 g0) ?_;refine g_go ?_;refine g_op rfl ?_;refine f_loadV ⟨g0,0,none⟩ (.slice (some ⟨bb,oo,none⟩) ks.length c) (.inl rfl) rfl rfl rfl rfl rfl (fun _ h=>((h.1.blk h1).cell 0).trans rfl) ?_;refine g_go ?_;refine g_op rfl ?_;refine f_move (.int .i64 (i : Int)) rfl rfl rfl rfl rfl ?_;refine g_go ?_;refine g_op rfl ?_;refine f_ix _ (i : Int) ⟨bb,oo + 32 * i,none⟩ rfl rfl rfl rfl rfl rfl (ixHs bb oo ks.length c i hi) ?_;refine g_go ?_;refine g_op rfl ?_;refine f_by bb (oo + 32 * i) hx1 rfl rfl rfl rfl rfl (fun _ h=>rangeAt_later hx2 (h.1.block bb hlt)) ?_;refine g_go ?_;refine g_op rfl ?_;refine f_move (.int .u8 (t.toNat : Int)) rfl rfl rfl rfl rfl ?_;refine g_go ?_;refine g_op rfl ?_;refine f_move bv rfl rfl rfl rfl rfl ?_;refine g_go ?_;refine g_op rfl ?_;refine f_b64 g hs rfl rfl rfl rfl rfl (fun _ h=>(h.1.blk b1).range) ?_;refine g_go ?_;refine g_op rfl ?_;refine f_call #[.agg (By ks[i]).toArray,.int .u8 (t.toNat : Int),bv,.agg (By s).toArray] (.bool (rightB ks[i] s (msg t b))) rfl rfl rfl own_owned (fun w1 h1=>owned_f t hk32 hs w1 (hT.below (hU.step h1.1)) (hv.later (hU.step h1.1)) hb) rfl rfl ?_;refine g_go ?_;refine g_op rfl ?_;refine f_not (rightB ks[i] s (msg t b)) (!rightB ks[i] s (msg t b)) rfl rfl rfl rfl rfl rfl ?_;refine g_go ?_;refine g_end fun w8 hw8 _=>?_;refine l_nil ?_;refine k_sub (E':=[(0,ptr g0),(11,ptr gs),(45,.bool (!rightB ks[i] s (msg t b)))]) ⟨rfl,rfl,rfl,trivial⟩ ?_;refine hK _ _ ?_;replace b2:=b2.later hw8;replace hU:=hU.step hw8;replace h1:=h1.later hw8;replace hM:=hM.keep (hw8.block m hM.lt);clear hK K hw8 hx2 hcc hlt h3 b1;refine c_cond (!rightB ks[i] s (msg t b)) rfl ?_
 by_cases hr : rightB ks[i] s (msg t b) = true
 ·rw [hr,Bool.not_true,if_neg (by decide)]
  refine c_skip ?_;refine hK0 _ _ ?_;clear hK0 K0;refine c_seq fun K hK=>?_;refine c_g 6 (by decide) (by kernel_rfl) (by kernel_rfl) ?_;refine g_op rfl ?_;refine f_move (ptr g0) rfl rfl rfl rfl rfl ?_;refine g_go ?_;refine g_op rfl ?_;refine f_nilc ⟨g0,0,none⟩ rfl rfl rfl rfl rfl ?_;refine g_go ?_;refine g_op rfl ?_;refine f_fld g0 0 1 rfl rfl rfl rfl rfl (rfld1 g0) ?_;refine g_go ?_;refine g_op rfl ?_;refine f_loadV ⟨g0,1,none⟩ (.map (some m)) (.inr rfl) rfl rfl rfl rfl rfl (fun _ h=>((h.1.blk h1).cell 1).trans rfl) ?_;refine g_go ?_;refine g_op rfl ?_;refine f_row gs 0 sc.toList _ rfl rfl rfl rfl rfl (fun _ h=>(h.1.blk b2).range) Tryz.underlying101 rfl (by rw [Array.length_toList,hsz]; exact info_stm) ?_;refine g_go ?_;refine g_op rfl ?_;refine f_build [] #[] rfl rfl rfl rfl rfl (by kernel_rfl) ?_;refine g_go ?_;refine g_end fun w9 hw9 _=>?_;replace hU:=hU.step hw9;replace hM:=hM.keep (hw9.block m hM.lt);refine l_mapPut (.agg sc) rfl rfl rfl rfl rfl rfl hM (SK.key hR.fit) ⟨i,t,b,s,hi,hstm.symm,by unfold maxLen; omega,hs,by rwa [getElem!_pos ks i hi]⟩ fun w10 es' hM' hg10=>?_;refine l_nil ?_;refine hK _ _ ?_;clear hK K
  have hRW : RgW w10 base g0 m ks:=by
   have h0:=hR.later hU;obtain ⟨b0,o0,c0,k1,k2,k3,k4,k5⟩:=h0.keys
   have hne : ∀ {x t cs},Blk w9 x t cs → x ≠ m:=fun {x t cs} hx e=>by
    obtain ⟨⟨cl,hmm⟩,_⟩:=hM;rw [← e] at hmm
    unfold Blk at hx
    rw [hx] at hmm
    cases hmm
   obtain ⟨b0',o0',e0,hlt0,hcc0⟩:=k3 h0.pos
   have hbne : b0 ≠ m:=fun e=>by
    obtain ⟨hl0,hr0⟩:=hcc0 0 ks[0] (List.getElem?_eq_getElem h0.pos)
    injection e0 with e0
    injection e0 with e1 e2
    subst e1 e2;have h5:=hr0 0 _ (List.getElem?_eq_getElem (by rw [By_len,hl0]; decide));obtain ⟨⟨cl,hmm⟩,_⟩:=hM;rw [World.cell?] at h5;simp only [e,hmm] at h5
    cases h5
   exact ⟨h0.fit,h0.gb,h0.mb,⟨b0,o0,c0,(hg10.block g0 k1.lt (fun e=>hne k1 (by injection e))).trans k1,k2,k3.keep hg10.size (fun b' o' e hlt=>by cases e; exact hg10.block _ hlt (fun e=>hbne (by injection e))),k4,k5⟩,es',hM'⟩
  refine c_seq fun K hK=>?_;refine c_qF ?_;refine f_assign (.bool true) rfl rfl rfl rfl rfl ?_;refine f_end fun w11 hw11=>hK _ _ ?_;exact c_ret fun a ha=>bodyPost_ret (results_tmp rfl _ _ _) ha.defers ⟨congrArg Ending.returned ((ha.get 10 _ rfl).trans (congrArg Value.bool hr.symm)),hRW.later hw11,((hgr hU).trans hg10).trans (hgr hw11)⟩
 ·have hr' : rightB ks[i] s (msg t b) = false:=by simpa using hr
  rw [hr',Bool.not_false,if_pos rfl];refine c_seq fun K hK=>?_;refine c_qF ?_;refine f_assign (.bool false) rfl rfl rfl rfl rfl ?_;refine f_end fun w9 hw9=>hK _ _ ?_;refine c_ret ?_;exact k_then_ret fun a ha=>bodyPost_ret (results_tmp rfl _ _ _) ha.defers ⟨congrArg Ending.returned (ha.get 10 _ rfl),hR.later (hU.step hw9),hgr (hU.step hw9)⟩
end Go.Proofs.YtlcbhbahchiofaaGreatDoor
/-
  THE RING OVER STATES: what is read of it, what of it is owned (what was verified); its calls' contracts.
-/
namespace Go.Proofs.YtlcbhbahchiofaaGreatDoor
open Go.RowKit Go.IntWalk Nums

structure RgI where
  g : Nat
  m : Nat
  b : Nat
  o : Nat
  c : Nat
def RingF (r : RgI) (ks : List (List UInt8)) (w : World) : Prop:=(ks.length = 1 ∨ ks.length = 4 ∨ ks.length = 7) ∧
  ObjF r.g 96 [.one (.v (.slice (some ⟨r.b,r.o,none⟩) ks.length r.c)),.one (.v (.map (some r.m)))] w ∧ Rd 32 (eY 32) (some ⟨r.b,r.o,none⟩) r.c ks w
instance {r : RgI} {ks : List (List UInt8)} : Pst (RingF r ks):=⟨fun _ _ ⟨h1,h2,h3⟩ hb=>⟨h1,Pst.later _ _ h2 hb,h3.later hb⟩⟩
def RingM (m : Nat) (ks : List (List UInt8)) : Res where
  holds w S:=(∃ es,MapK w m es (SK ks)) ∧ ∀ j,S j ↔ j = m
  keep:=fun ⟨⟨es,h1⟩,h2⟩ hk=>⟨⟨es,h1.keep (hk m ((h2 m).2 rfl))⟩,h2⟩
  lt:=fun ⟨⟨_,h1⟩,h2⟩ j hj=>by rw [(h2 j).1 hj]; exact h1.lt
set_option maxRecDepth 100000 in
theorem rsize_S (r : RgI) (ks : List (List UInt8)) : Spec 30 [ptr r.g] [] (RingF r ks) (one (.v (.int .i64 (ks.length : Int)))):=by
 refine spec_S [.c (.v (ptr r.g))] 10 Tryz.func30 rfl (by rw [Tryz.ntmps30]; rfl) (one_ok trivial) fun b=>?_;refine s_auto TY_ok rfl ?_;refine s_seq fun K hK=>?_;refine s_auto TY_ok rfl ?_;refine s_no rfl ?_;refine s_skip ?_;refine hK _ ?_;refine s_reg fun K hK=>?_;refine l_autoS TY_ok rfl ?_;refine l_ldO TY_ok rfl rfl rfl rfl rfl rfl (obj_fact fun w h _=>h.2.1) ?_;refine l_autoS TY_ok rfl ?_;refine s_end (hK _ ?_);exact s_ret (k_ret TY_ok () rfl (by decide) rfl rfl rfl (fun _ _ _=>trivial) (fun _ _=>trivial))
set_option maxRecDepth 100000 in
theorem rfaults_S (r : RgI) (ks : List (List UInt8)) : Spec 50 [ptr r.g] [] (RingF r ks) (one (.v (.int .i64 ((ks.length / 3 : Nat) : Int)))):=by
 refine spec_S [.c (.v (ptr r.g))] 6 Tryz.func50 rfl (by rw [Tryz.ntmps50]; rfl) (one_ok trivial) fun b=>?_;refine s_pure _ (fun w h _=>h.1) fun hf=>?_;refine s_auto TY_ok rfl ?_;refine s_regA TY_ok rfl fun K hK=>?_;refine l_callA [ptr r.g] rfl rfl rfl own_rsize rfl rfl (fun _ _=>rfl) (rsize_S r ks) (fun w h _=>h) fun _=>?_;refine l_autoS TY_ok rfl ?_;refine l_num 2 ((ks.length / 3 : Nat) : Int) rfl (wrapQ ks.length 3 (by omega)) ?_;refine s_end (hK _ ?_);exact s_ret (k_ret TY_ok () rfl (by decide) rfl rfl rfl (fun _ _ _=>trivial) (fun _ _=>trivial))
set_option maxRecDepth 100000 in
theorem rquorum_S (r : RgI) (ks : List (List UInt8)) : Spec 31 [ptr r.g] [] (RingF r ks) (one (.v (.int .i64 ((ks.length - ks.length / 3 : Nat) : Int)))):=by
 refine spec_S [.c (.v (ptr r.g))] 8 Tryz.func31 rfl (by rw [Tryz.ntmps31]; rfl) (one_ok trivial) fun b=>?_;refine s_pure _ (fun w h _=>h.1) fun hf=>?_;refine s_auto TY_ok rfl ?_;refine s_regA TY_ok rfl fun K hK=>?_;refine l_callA [ptr r.g] rfl rfl rfl own_rsize rfl rfl (fun _ _=>rfl) (rsize_S r ks) (fun w h _=>h) fun _=>?_;refine l_autoS TY_ok rfl ?_;refine l_callA [ptr r.g] rfl rfl rfl own_rfaults rfl rfl (fun _ _=>rfl) (rfaults_S r ks) (fun w h _=>h.2) fun _=>?_;refine l_autoS TY_ok rfl ?_;refine l_num 2 ((ks.length - ks.length / 3 : Nat) : Int) rfl (wrapI (by omega) (by omega) (by omega)) ?_;refine s_end (hK _ ?_);exact s_ret (k_ret TY_ok () rfl (by decide) rfl rfl rfl (fun _ _ _=>trivial) (fun _ _=>trivial))
theorem Rd.hv {A : Option Addr} {c : Nat} {ks : List (List UInt8)} {w : World} (h : Rd 32 (eY 32) A c ks w) : HV w A ks:=fun hl=>by
 obtain ⟨b,o,e,hb,hr⟩:=h.2.2.2.2 hl;refine ⟨b,o,e,hb,fun i l hi=>⟨?_,hr i l hi⟩⟩;have:=(h.2.2.2.1 l (List.mem_of_getElem? hi)).2
 rwa [SQ.cl,Array.length_toList,eY,SQ.den,Value.cells,catP,Pt.cells,List.size_toArray,By_len] at this
theorem RgW.off {w : World} {base g0 m g t : Nat} {ks : List (List UInt8)} {cs : Array Value} (h : RgW w base g0 m ks) (hb : Blk w g t cs) : g ≠ m:=fun e=>by
 obtain ⟨es,⟨cl,hm⟩,_⟩:=h.map;rw [← e] at hm
 unfold Blk at hb
 rw [hb] at hm
 cases hm
instance : Pst Ta:=⟨fun _ _ h hb=>h.below hb⟩
theorem starL_one {r : Res} {w : World} {S : Nat → Prop} : starL [r] w S ↔ r.holds w S:=by
 constructor
 ·rintro ⟨S1,S2,h1,h2,h3,_⟩
  have e : S = S1:=funext fun k=>propext ⟨fun h=>((h3 k).1 h).resolve_right (h2 k),fun h=>(h3 k).2 (.inl h)⟩;rw [e];exact h1
 ·exact fun h=>⟨S,fun _=>False,h,fun _ h=>h,fun k=>⟨.inl,fun h=>h.elim id False.elim⟩,fun _ _ h=>h⟩
theorem RingF.w {r : RgI} {ks : List (List UInt8)} {w : World} {S : Nat → Prop} (h : RingF r ks w) (hm : (RingM r.m ks).holds w S) : RgW w 0 r.g r.m ks:=by
 obtain ⟨h1,h2,h3⟩:=h;exact ⟨h1,Nat.zero_le _,Nat.zero_le _,⟨r.b,r.o,r.c,h2.1,Nat.zero_le _,h3.hv,h3.1,h3.2.1⟩,hm.1⟩
theorem ropen_S (r : RgI) (ks : List (List UInt8)) {A : Option Addr} {c : Nat} {b s : List UInt8} (i : Nat) (t : UInt8) (hi : i < ks.length) (hs : s.length = 64) (hb : b.length ≤ 140737488355312) :
  Spec 36 [ptr r.g,.int .i64 (i : Int),.int .u8 (t.toNat : Int),.slice A b.length c,.agg (By s).toArray] [RingM r.m ks] (fun w=>RingF r ks w ∧ Ta w ∧ Rd 1 eB A c b w)
   { ret:=fun _ : Unit=>.q (.c (.b (rightB ks[i] s (msg t b)))),own:=fun _=>[RingM r.m ks] }:=fun w S X hS _ hF=>by
 obtain ⟨h1,h2,h3⟩:=hF.now;have hm:=starL_one.1 hS;refine (ropen_f i t hi hs w h2 h3.sb hb (h1.w hm)).mono ?_
 rintro e w' ⟨he,hR,hg⟩
 refine ⟨(),S,he,trivial,(Chg.of_grown hg).mono fun k _ hk=>(hm.2 k).2 (by injection hk with hk; exact hk.symm),starL_one.2 ⟨hR.map,hm.2⟩,fun _ h _=>h,fun _ _=>trivial,fun _ _=>trivial⟩
theorem rnew_S {A : Option Addr} {ks : List (List UInt8)} {c : Nat} (hf : ks.length = 1 ∨ ks.length = 4 ∨ ks.length = 7) (hd : ks.Nodup) :
  Spec 29 [.slice A ks.length c] [] (Rd 32 (eY 32) A c ks) { ret:=fun r : RgI=>.t [.c (.v (ptr r.g)),.c (.v (.int .i64 0))],own:=fun r=>[RingM r.m ks],n:=fun r=>RingF r ks }:=fun w S X hS _ hF=>by
 have h0:=hF.now;refine (rnew7_yes h0.1 h0.2.1 hf hd w h0.hv).mono ?_
 rintro e w' ⟨⟨g,m,rfl,hR⟩,hb⟩
 obtain ⟨bb,o,cc,h1,h2,h3,h4,h5⟩:=hR.keys;have hgm : g ≠ m:=hR.off h1
 have hbm : bb ≠ m:=fun e=>by
  obtain ⟨b',o',e',_,hr⟩:=h3 hR.pos
  injection e' with e'
  injection e' with e1 e2
  subst e1 e2
  obtain ⟨hl,hr⟩:=hr 0 ks[0]! (by
   have hp:=hR.pos;rw [getElem!_pos ks 0 hp]
   exact List.getElem?_eq_getElem hp)
  obtain ⟨es,⟨cl,hmm⟩,_⟩:=hR.map
  have h9 : 0 < (By ks[0]!).length:=by rw [By_len,hl]; decide
  have h8:=hr 0 (By ks[0]!)[0] (List.getElem?_eq_getElem h9);rw [World.cell?,e,hmm] at h8
  cases h8
 refine ⟨⟨g,m,bb,o,cc⟩,fun k=>k = m,rfl,fun x hx=>?_,Chg.of_up hb,starL_one.2 ⟨hR.map,fun _=>Iff.rfl⟩,fun k hk hlt=>?_,fun _ _=>trivial,fun w2 hw2=>⟨hR.fit,⟨?_,?_⟩,?_⟩⟩
 ·simp only [List.mem_cons,List.not_mem_nil,or_false] at hx
  rcases hx with rfl | rfl <;> trivial
 ·rw [hk] at hlt
  exact absurd (Nat.lt_of_lt_of_le hlt hR.mb) (Nat.lt_irrefl _)
 ·exact (hw2.block g h1.lt fun hk=>hk.elim (fun hk=>Nat.lt_irrefl _ (Nat.lt_of_lt_of_le hk hR.gb)) hgm).trans h1
 ·exact fun p hp=>by
   simp only [List.mem_cons,List.not_mem_nil,or_false] at hp
   rcases hp with rfl | rfl <;> exact ⟨trivial,rfl,rfl⟩
 ·have h6 : Rd 32 (eY 32) (some ⟨bb,o,none⟩) cc ks w':=⟨h4,h5,fun h=>(by cases h),okF_Y fun l hl=>hR.len l hl,fun hl=>by
   obtain ⟨b',o',e',h7,hr⟩:=h3 hl
   exact ⟨b',o',e',h7,fun i x hi=>(hr i x hi).2⟩⟩
  exact h6.keep hw2.size fun b' e hlt=>hw2.block b' hlt fun hk=>by
   simp only [Option.map_some,Option.some.injEq] at e;subst e;exact hk.elim (fun hk=>Nat.lt_irrefl _ (Nat.lt_of_lt_of_le hk h2)) hbm
theorem seal_S {A : Option Addr} {c : Nat} {seed b : List UInt8} (t : UInt8) (hs : seed.length = 32) (hb : b.length ≤ 140737488355312) :
  Spec 12 [.agg (By seed).toArray,.int .u8 (t.toNat : Int),.slice A b.length c] [] (fun w=>Ta w ∧ Rd 1 eB A c b w) (one (.q (eY 64 (sgSig seed (msg t b))))) :=
 Spec.pure (eY_ok (sgSig_len _ _)).1 fun w h=>seal_f t hs w h.1 h.2.sb hb
theorem public_S {seed : List UInt8} (hs : seed.length = 32) : Spec 28 [.agg (By seed).toArray] [] Ta (one (.q (eY 32 (sgKey seed)))) :=
 Spec.pure (eY_ok (sgKey_len _)).1 fun w h=>public_f hs w h
end Go.Proofs.YtlcbhbahchiofaaGreatDoor
/-
  CERTIFICATES: the first right share of a replica.
-/
namespace Go.Proofs.YtlcbhbahchiofaaGreatDoor
open Go.RowKit Go.IntWalk Nums

abbrev Share:=Int × List UInt8
def eSh (x : Share) : SQ:=.p [.one (.v (.int .i64 x.1)),.agg 64 (By x.2).toArray]
theorem eSh_ok {x : Share} (h : x.2.length = 64) : OkP (eSh x).parts1 ∧ (eSh x).cl.length = 65:=by
 have h1 : (By x.2).toArray.size = 64:=by rw [List.size_toArray,By_len,h]
 refine ⟨fun p hp=>?_,?_⟩
 ·rcases List.mem_cons.1 hp with rfl | hp
  ·exact ⟨trivial,rfl,rfl⟩
  ·rw [List.mem_singleton.1 hp]
   exact ⟨h1,By_one x.2⟩
 ·rw [SQ.cl,Array.length_toList]
  show (catP [Pt.one (.v (.int .i64 x.1)),.agg 64 (By x.2).toArray]).size = 65
  rw [catP_cons,Array.size_append]
  simp [Pt.cells,catP,By_len,h]
theorem eSh_len {x : Share} (h : OkP (eSh x).parts1) : x.2.length = 64:=by
 have h1:=(h (.agg 64 (By x.2).toArray) (by simp [eSh,SQ.parts1])).1
 rwa [List.size_toArray,By_len] at h1
noncomputable def isR (key m : List UInt8) (i : Int) (x : Share) : Bool:=decide (x.1 = i) && rightB key x.2 m
noncomputable def firstR (key m : List UInt8) (i : Int) (l : List Share) : Option (List UInt8):=(l.find? (isR key m i)).map (·.2)
def retR : Option (List UInt8) → RV
  | some s=>.t [eY 64 s,.c (.v (.bool true))]
  | none=>.t [eY 64 (List.replicate 64 0),.c (.v (.bool false))]
theorem own_cfirst : Own 32:=fun _ _=>by go_simp
theorem find_take {α : Type} (p : α → Bool) (l : List α) (i : Nat) {x : α} (h : ∀ y ∈ l.take i,p y = false) (hx : l[i]? = some x) (hp : p x = true) : l.find? p = some x:=by
 have e : l = l.take i ++ x :: l.drop (i + 1):=by
  have hlt:=(List.getElem?_eq_some_iff.1 hx).1;have:=List.take_append_drop i l;rw [List.drop_eq_getElem_cons hlt,(List.getElem?_eq_some_iff.1 hx).2] at this;exact this.symm
 rw [e,List.find?_append,List.find?_eq_none.2 (fun y hy=>by rw [h y hy]; decide),Option.none_or,List.find?_cons_of_pos hp]
theorem take_next {α : Type} {p : α → Prop} {l : List α} {i : Nat} {x : α} (h : ∀ y ∈ l.take i,p y) (hx : l[i]? = some x) (hp : p x) : ∀ y ∈ l.take (i + 1),p y:=fun y hy=>by
 rw [List.take_add_one,hx] at hy
 rcases List.mem_append.1 hy with hy | hy
 ·exact h y hy
 ·simp at hy
  rw [hy];exact hp
set_option maxRecDepth 100000 in
set_option maxHeartbeats 2000000 in
theorem cfirst_S (r : RgI) (ks : List (List UInt8)) {A A2 : Option Addr} {c c2 : Nat} {bd : List UInt8} (l : List Share) (i : Nat) (t : UInt8) (hi : i < ks.length) (hb : bd.length ≤ 140737488355312) :
  Spec 32 [ptr r.g,.int .i64 (i : Int),.int .u8 (t.toNat : Int),.slice A bd.length c,.slice A2 l.length c2] [RingM r.m ks] (fun w=>(RingF r ks w ∧ Ta w ∧ Rd 1 eB A c bd w) ∧ Rd 65 eSh A2 c2 l w)
   { ret:=fun _ : Unit=>retR (firstR ks[i] (msg t bd) i l),own:=fun _=>[RingM r.m ks] }:=by
 refine spec_S [.c (.v (ptr r.g)),.c (.v (.int .i64 (i : Int))),.c (.v (.int .u8 (t.toNat : Int))),.c (.v (.slice A bd.length c)),.c (.v (.slice A2 l.length c2))] 37 Tryz.func32 rfl (by rw [Tryz.ntmps32]; rfl) (more_ok trivial (more_ok trivial (more_ok trivial (two_ok trivial trivial)))) fun b=>?_;refine s_pure (l.length ≤ 9223372036854775807 ∧ ∀ x ∈ l,x.2.length = 64) (fun w h _=>⟨Nat.le_trans h.2.1 h.2.2.1,fun x hx=>eSh_len (h.2.2.2.2.1 x hx).1⟩) fun ⟨hl,hs⟩=>?_;refine s_auto TY_ok rfl ?_;refine s_seq fun K hK=>?_;refine s_auto TY_ok rfl ?_;refine s_block ?_
 let F : Nat → Env:=fun j=>⟨[(16,.v (.int .i64 (j : Int))),(15,.v (.int .i64 (l.length : Int))),(14,.v (.slice A2 l.length c2)),(0,.v (ptr r.g)),(1,.v (.int .i64 (i : Int))),(2,.v (.int .u8 (t.toNat : Int))),(3,.v (.slice A bd.length c)),(10,.a 10 0)],
  [⟨10,none,43,[.agg 64 (By (List.replicate 64 0)).toArray]⟩],[RingM r.m ks],fun w=>(RingF r ks w ∧ Ta w ∧ Rd 1 eB A c bd w) ∧ Rd 65 eSh A2 c2 l w,fun _=>True⟩
 refine c_weak (e':=F 0) ⟨⟨rfl,rfl,rfl,rfl,rfl,rfl,rfl,rfl,trivial⟩,⟨rfl,rfl,trivial⟩,.refl _,fun _ h _=>h,fun _ h=>h⟩ (s_loop (fun j=>l.length - j) F (fun j=>j ≤ l.length ∧ ∀ y ∈ l.take j,isR ks[i] (msg t bd) i y = false) ?_ 0 ⟨Nat.zero_le _,by simp⟩)
 rintro j ⟨hj,hno⟩
 refine s_auto TY_ok rfl ?_;refine s_seq fun K1 hK1=>?_;refine s_ifD ((j : Int) < (l.length : Int)) rfl (fun hlt=>?_) (fun hge=>?_)
 ·have hlt : j < l.length:=by omega
  obtain ⟨x,hx⟩ : ∃ x,l[j]? = some x:=⟨_,List.getElem?_eq_getElem hlt⟩;have hx64:=hs x (List.mem_of_getElem? hx);refine s_skip (hK1 _ ?_);refine s_seq fun K2 hK2=>?_;refine s_block ?_;refine s_regA TY_ok rfl fun K3 hK3=>?_;refine l_elem TY_ok rfl rfl rfl j rfl hx rfl rfl (rd_fact fun w h _=>h.2) ?_;refine l_autoS TY_ok rfl ?_;refine s_end (hK3 _ ?_);refine s_regA TY_ok rfl fun K5 hK5=>?_
  have hnext : isR ks[i] (msg t bd) i x = false → ∀ e : Env,Weak e ⟨[(16,.v (.int .i64 (j : Int))),(15,.v (.int .i64 (l.length : Int))),(14,.v (.slice A2 l.length c2)),(0,.v (ptr r.g)),(1,.v (.int .i64 (i : Int))),(2,.v (.int .u8 (t.toNat : Int))),(3,.v (.slice A bd.length c)),(10,.a 10 0)],(F j).L,[RingM r.m ks],(F j).F,fun _=>True⟩ → kS b K2 37 e:=fun hf e hw=>by
   refine k_weak hw (hK2 _ ?_);refine s_autoE TY_ok rfl ?_;exact k_next (j + 1) ⟨hlt,take_next hno hx hf⟩ (by omega) ⟨⟨congrArg some (congrArg SV.v (congrArg (Value.int .i64) (wrapI rfl (by omega) (by omega)))),rfl,rfl,rfl,rfl,rfl,rfl,rfl,trivial⟩,⟨rfl,rfl,trivial⟩,.refl _,fun _ h _=>h,fun _ h=>h⟩
  by_cases h1 : x.1 = (i : Int)
  ·refine l_is 24 true rfl (decide_eq_true h1) ?_
   refine l_autoS TY_ok rfl ?_;refine l_callA [ptr r.g,.int .i64 (i : Int),.int .u8 (t.toNat : Int),.slice A bd.length c,.agg (By x.2).toArray] rfl rfl rfl own_ropen rfl rfl (fun _ _=>rfl) (ropen_S r ks i t hi hx64 hb) (fun w h _=>h.1) fun _=>?_;refine l_autoS TY_ok rfl ?_;refine s_end (hK5 _ ?_);refine s_if (rightB ks[i] x.2 (msg t bd)) rfl (fun h2=>?_) (fun h2=>?_)
   ·have hf : l.find? (isR ks[i] (msg t bd) i) = some x:=find_take _ l j hno hx (by rw [isR,decide_eq_true h1,h2]; rfl)
    have hfr : firstR ks[i] (msg t bd) i l = some x.2:=by rw [firstR,hf]; rfl
    refine s_auto TY_ok rfl ?_;exact s_ret (k_ret TY_ok () rfl (by decide) rfl (congrArg retR hfr) rfl (fun _ _ _=>trivial) (fun _ _=>trivial))
   ·exact s_skip (hnext (by rw [isR,h2,Bool.and_false]) _ ⟨⟨rfl,rfl,rfl,rfl,rfl,rfl,rfl,rfl,trivial⟩,⟨rfl,rfl,trivial⟩,.refl _,fun _ h _=>h.2,fun _ h=>h.2⟩)
  ·refine l_is 24 false rfl (decide_eq_false h1) ?_
   refine l_autoS TY_ok rfl ?_;refine s_end (hK5 _ ?_);refine s_no rfl ?_;exact s_skip (hnext (by rw [isR,decide_eq_false h1,Bool.false_and]) _ ⟨⟨rfl,rfl,rfl,rfl,rfl,rfl,rfl,rfl,trivial⟩,⟨rfl,rfl,trivial⟩,.refl _,fun _ h _=>h,fun _ h=>h⟩)
 ·obtain rfl : j = l.length:=by omega
  rw [List.take_length] at hno
  have hfr : firstR ks[i] (msg t bd) i l = none:=by
   rw [firstR,List.find?_eq_none.2 fun y hy=>by rw [hno y hy]; decide]
   rfl
  refine s_exit (k_pass (k_pass (k_out ?_)));refine hK _ ?_;refine s_auto TY_ok rfl ?_;exact s_ret (k_ret TY_ok () rfl (by decide) rfl (congrArg retR hfr) rfl (fun _ _ _=>trivial) (fun _ _=>trivial))
end Go.Proofs.YtlcbhbahchiofaaGreatDoor
/-
  CALLS IN DRAWN REGIONS BY THEIR CONTRACTS; slices of slices.
-/
namespace Go.Proofs.YtlcbhbahchiofaaGreatDoor
open Go.RowKit Go.IntWalk

instance {p q : World → Prop} [hp : Pst p] [hq : Pst q] : Pst (fun w=>p w ∧ q w):=⟨fun _ _ h hb=>⟨hp.later _ _ h.1 hb,hq.later _ _ h.2 hb⟩⟩
instance {α : Type} {p : α → World → Prop} {l : List α} [hp : ∀ a,Pst (p a)] : Pst (fun w=>∀ a ∈ l,p a w):=⟨fun _ _ h hb a ha=>(hp a).later _ _ (h a ha) hb⟩
theorem g_callS {b : Base} {ops : Array Oper} {Q : Exit → Act → World → Prop} {N : Nat} {T' : List Oper} {G : Nat → Nat} {S : Nat → Prop} {L : List LV} {R : List Res} {F M F' : World → Prop} {w0 : World} {E : SE} {o : Oper} {rest : List (Nat × Oper)} {i k : Nat} {f : FuncId} {xs : Array Operand} {ats : Array TypeId} {svs : List SV} {r : RV} [Pst F']
  (hst : StW b G S L R F M w0) (args : List Value) (hg : o.guard = none) (hd : o.dst = some k) (hk : Nat.blt k N = true) (hf : Own f) (ho : o.op = .call { callee:=.value (.func f),args:=xs,argTypes:=ats }) (hx : evSs E xs.toList = some svs)
  (ha : (∀ x ∈ L,∀ g,x.g = some g → G x.j = g) → svs.map (SV.den G) = args) (hs : Spec f args [] F' (one r)) (hr : r.sv.Ok) (hF : ∀ G S w,View G S L R F M w → F' w)
  (hn : gS Tryz.prog b ops Q N T' G w0 rest ((k,r.sv) :: E)) : gS Tryz.prog b ops Q N T' G w0 ((i,o) :: rest) E :=
 g_call1 hst args hg hd hk hf ho hx ha hr (fun w hv=>(hs w (fun _=>False) (fun _=>False) (fun _ h=>h) (fun _ h=>h.elim) (Stb.of_pst (hF _ _ _ hv) fun _ _ h=>h.elim id id)).mono fun _ _ ⟨_,_,h1,_,h2,_⟩=>⟨h1,h2.up fun _ _ h=>h⟩) hn
theorem l_call0 {b : Base} {ops : Array Oper} {Q : Exit → Act → World → Prop} {N : Nat} {E : SE} {L : List LV} {R : List Res} {F M F' : World → Prop} {o : Oper} {rest : List Oper} {k : Nat} {α : Type} {post : Post α} {f : FuncId} {xs : Array Operand} {ats : Array TypeId} {svs : List SV}
  (args : List Value) (hg : o.guard = none) (hd : o.dst = some k) (hk : Nat.blt k N = true) (hf : Own f) (ho : o.op = .call { callee:=.value (.func f),args:=xs,argTypes:=ats }) (hx : evSs E xs.toList = some svs)
  (ha : ∀ G : Nat → Nat,(∀ x ∈ L,∀ g,x.g = some g → G x.j = g) → svs.map (SV.den G) = args) (hs : Spec f args [] F' post) (hF : ∀ w,F w → M w → F' w)
  (hn : ∀ x,lS Tryz.prog b ops Q N rest ⟨(k,(post.ret x).sv) :: E,L,post.own x ++ R,fun w=>post.p x w ∧ F w,fun w=>post.n x w ∧ M w⟩) : lS Tryz.prog b ops Q N (o :: rest) ⟨E,L,R,F,M⟩ :=
 l_callA (own:=[]) (R':=R) args hg hd hk hf ho hx ha hs hF hn
theorem l_as {P : Program} {b : Base} {ops : Array Oper} {Q : Exit → Act → World → Prop} {N : Nat} {E : SE} {L : List LV} {R : List Res} {F M : World → Prop} {l : List Oper} (k : Nat) {v : SV} (v' : SV) (h : lookS E k = some v) (he : ∀ G,v.den G = v'.den G) (ho : v'.Ok) (hn : lS P b ops Q N l ⟨(k,v') :: E,L,R,F,M⟩) : lS P b ops Q N l ⟨E,L,R,F,M⟩:=fun a w ⟨G,S,h1,h2,h3⟩ =>
 hn a w ⟨G,S,h1.more (h1.get k _ (by rw [look_den,h]; exact congrArg some (he G))),h2.cons ho,h3⟩
theorem l_R {P : Program} {b : Base} {ops : Array Oper} {Q : Exit → Act → World → Prop} {N : Nat} {E : SE} {L : List LV} {R : List Res} {F M : World → Prop} {l : List Oper} (R2 : List Res) (h : R = R2) (hn : lS P b ops Q N l ⟨E,L,R2,F,M⟩) : lS P b ops Q N l ⟨E,L,R,F,M⟩:=h ▸ hn
theorem k_drop {b : Base} {K : Act → World → Prop} {N : Nat} {E : SE} {L : List LV} {R : List Res} {F M : World → Prop} (i : Nat) {r : Res} (hi : R[i]? = some r) (h : kS b K N ⟨E,L,R.eraseIdx i,F,M⟩) : kS b K N ⟨E,L,R,F,M⟩:=fun a w ⟨G,S,h1,h2,h3⟩=>by
 obtain ⟨S1,S2,_,_,_,h4⟩:=h3.let hi;exact h a w ⟨G,S2,h1,h2,h4⟩
structure Seg where
  A : Option Addr
  c : Nat
  l : List UInt8
def eSeg (s : Seg) : SQ:=.c (.v (.slice s.A s.l.length s.c))
theorem eSeg_ok (s : Seg) : OkP (eSeg s).parts1 ∧ (eSeg s).cl.length = 1:=⟨fun p hp=>by rw [List.mem_singleton.1 hp]; exact ⟨trivial,rfl,rfl⟩,rfl⟩
theorem okF_seg (l : List Seg) : OkF 1 eSeg l:=fun s _=>eSeg_ok s
def Seg.rd (s : Seg) (w : World) : Prop:=Rd 1 eB s.A s.c s.l w
instance {s : Seg} : Pst s.rd:=⟨fun _ _ h hb=>h.later hb⟩
theorem Rd.sl {A : Option Addr} {c : Nat} {l : List UInt8} {w : World} (h : Rd 1 eB A c l w) : SL w 0 w.heap.size A l c:=by
 obtain ⟨A',c',e,h1⟩:=h.sb
 injection e with e1 _ e2
 subst e1 e2;exact h1
theorem parts_of {A : Option Addr} {c : Nat} {ss : List Seg} {w : World} (h : Rd 1 eSeg A c ss w) (h2 : ∀ s ∈ ss,s.rd w) : Parts w w.heap.size A (ss.map Seg.l):=fun hl=>by
 obtain ⟨b,o,e,hb,hr⟩:=h.2.2.2.2 (by simpa using hl);refine ⟨⟨b,o,none⟩,e,hb,fun i l hi=>?_⟩;rw [List.getElem?_map] at hi
 cases hs : ss[i]? with
 | none=>rw [hs] at hi; cases hi
 | some s =>
  rw [hs] at hi;simp only [Option.map_some,Option.some.injEq] at hi;subst hi;refine ⟨s.A,s.c,?_,(h2 s (List.mem_of_getElem? hs)).sl⟩;have:=hr i s hs 0 (.slice s.A s.l.length s.c) rfl;rw [Addr.add_mid]
  simpa using this
end Go.Proofs.YtlcbhbahchiofaaGreatDoor
/-
  WRITING BYTES, over states: contracts of Join.
-/
namespace Go.Proofs.YtlcbhbahchiofaaGreatDoor
open Go.RowKit Go.IntWalk

theorem own_join : Own 16:=fun _ _=>by go_simp
theorem join_S {A : Option Addr} {c : Nat} (ss : List Seg) (ht : (ss.map Seg.l).flatten.length ≤ 281474976710656) : Spec 16 [.slice A ss.length c] [] (fun w=>Rd 1 eSeg A c ss w ∧ ∀ s ∈ ss,s.rd w)
  { ret:=fun g : Nat=>.v (.slice (some ⟨g,0,none⟩) (ss.map Seg.l).flatten.length (ss.map Seg.l).flatten.length),n:=fun g=>Rd 1 eB (some ⟨g,0,none⟩) (ss.map Seg.l).flatten.length (ss.map Seg.l).flatten }:=fun w S X hS _ hF=>by
 obtain ⟨h1,h2⟩:=hF.now;have hj:=join_any A (ss.map Seg.l) c w.heap.size w (parts_of h1 h2) (Nat.le_refl _) (by rw [List.length_map]; exact h1.1) h1.2.1 ht;rw [List.length_map] at hj;refine hj.mono ?_
 rintro e w' ⟨he,ho,hb⟩
 refine ⟨w.heap.size,S,he,trivial,Chg.of_up hb,hS.keep fun k hk=>hb.block k (hS.lt k hk),fun _ h _=>h,fun _ _=>trivial,?_⟩;have h3 : (OwnS w.heap.size 5 1 eB (some ⟨w.heap.size,0,none⟩) (ss.map Seg.l).flatten.length (ss.map Seg.l).flatten).holds w' fun j=>(some (⟨w.heap.size,0,none⟩ : Addr)).map (·.block) = some j:=⟨okF_B _,by rw [flat_B]; exact ho,fun _=>Iff.rfl⟩;have h4:=OwnS.rd h3
 intro w2 hw2
 refine h4.keep hw2.size fun b' e hlt=>hw2.block b' hlt ?_;simp only [Option.map_some,Option.some.injEq] at e;subst e
 rintro (h5 | h5)
 ·exact Nat.lt_irrefl _ h5
 ·exact Nat.lt_irrefl _ (hS.lt _ h5)
end Go.Proofs.YtlcbhbahchiofaaGreatDoor
/-
  CERTIFICATES: Make.
-/
namespace Go.Proofs.YtlcbhbahchiofaaGreatDoor
open Go.RowKit Go.IntWalk Nums

structure CV where
  body : List UInt8
  sg : List Int
  si : List (List UInt8)
structure CI where
  A0 : Option Addr
  c0 : Nat
  A1 : Option Addr
  c1 : Nat
  A2 : Option Addr
  c2 : Nat
def eC (i : CI) (c : CV) : SQ:=.p [.one (.v (.slice i.A0 c.body.length i.c0)),.one (.v (.slice i.A1 c.sg.length i.c1)),.one (.v (.slice i.A2 c.si.length i.c2))]
theorem eC_ok (i : CI) (c : CV) : (eC i c).Ok:=fun p hp=>by
 simp only [List.mem_cons,List.not_mem_nil,or_false] at hp
 rcases hp with rfl | rfl | rfl <;> exact ⟨trivial,rfl,rfl⟩
def CertF (i : CI) (c : CV) (w : World) : Prop:=Rd 1 eB i.A0 i.c0 c.body w ∧ Rd 1 eI i.A1 i.c1 c.sg w ∧ Rd 64 (eY 64) i.A2 i.c2 c.si w
instance {i : CI} {c : CV} : Pst (CertF i c):=⟨fun _ _ h hb=>⟨h.1.later hb,h.2.1.later hb,h.2.2.later hb⟩⟩
def ci0 : CI:=⟨none,0,none,0,none,0⟩
def cv0 : CV:=⟨[],[],[]⟩
theorem certF0 (w : World) : CertF ci0 cv0 w:=⟨Rd.nil _ _ _,Rd.nil _ _ _,Rd.nil _ _ _⟩
noncomputable def gotL (ks : List (List UInt8)) (m : List UInt8) (l : List Share) (i : Nat) : List (Nat × List UInt8):=(List.range i).filterMap fun j : Nat=>(firstR (ks[j]!) m j l).map fun s=>(j,s)
theorem gotL_next (ks : List (List UInt8)) (m : List UInt8) (l : List Share) (i : Nat) : gotL ks m l (i + 1) = gotL ks m l i ++ ((firstR (ks[i]!) m i l).map fun s=>(i,s)).toList:=by
 unfold gotL
 rw [List.range_succ,List.filterMap_append];rw [List.filterMap_cons]
 cases firstR (ks[i]!) m i l <;> simp only [Option.map_none,Option.map_some,List.filterMap_nil,Option.toList]
theorem gotL_pre (ks : List (List UInt8)) (m : List UInt8) (l : List Share) (i d : Nat) : gotL ks m l i <+: gotL ks m l (i + d):=by
 induction d with
 | zero=>exact List.prefix_rfl
 | succ d ih =>
  rw [← Nat.add_assoc,gotL_next];exact ih.trans (List.prefix_append _ _)
theorem gotL_take (ks : List (List UInt8)) (m : List UInt8) (l : List Share) {i n : Nat} (h : i ≤ n) : (gotL ks m l n).take (gotL ks m l i).length = gotL ks m l i:=by
 obtain ⟨t,ht⟩:=gotL_pre ks m l i (n - i);rw [show i + (n - i) = n by omega] at ht;rw [← ht,List.take_left]
theorem gotL_le (ks : List (List UInt8)) (m : List UInt8) (l : List Share) (i : Nat) : (gotL ks m l i).length ≤ i:=by
 induction i with
 | zero=>exact Nat.le_of_eq rfl
 | succ i ih =>
  rw [gotL_next,List.length_append]
  have : (((firstR (ks[i]!) m i l).map fun s=>(i,s)).toList).length ≤ 1:=by cases firstR (ks[i]!) m i l <;> simp
  omega
noncomputable def sgL (ks : List (List UInt8)) (m : List UInt8) (l : List Share) (i : Nat) : List Int:=(gotL ks m l i).map fun x=>(x.1 : Int)
noncomputable def siL (ks : List (List UInt8)) (m : List UInt8) (l : List Share) (i : Nat) : List (List UInt8):=(gotL ks m l i).map (·.2)
theorem firstR_len {key m : List UInt8} {i : Int} {l : List Share} {s : List UInt8} (hs : ∀ x ∈ l,x.2.length = 64) (h : firstR key m i l = some s) : s.length = 64:=by
 unfold firstR at h
 cases hf : l.find? (isR key m i) with
 | none=>rw [hf] at h; cases h
 | some x =>
  rw [hf] at h;simp only [Option.map_some,Option.some.injEq] at h;rw [← h];exact hs x (List.mem_of_find?_eq_some hf)
noncomputable def makeC (ks : List (List UInt8)) (m bd : List UInt8) (l : List Share) : Option CV :=
  if (gotL ks m l ks.length).length < ks.length - ks.length / 3 then none
  else some ⟨bd,((gotL ks m l ks.length).take (ks.length - ks.length / 3)).map fun x=>(x.1 : Int),((gotL ks m l ks.length).take (ks.length - ks.length / 3)).map (·.2)⟩
def retC (i : CI) : Option CV → RV
  | some c=>.t [eC i c,.c (.v (.int .i64 0))]
  | none=>.t [eC ci0 cv0,.c (.v (.int .i64 80))]
theorem own_make : Own 11:=fun _ _=>by go_simp
set_option maxRecDepth 100000 in
set_option maxHeartbeats 4000000 in
theorem make_S (r : RgI) (ks : List (List UInt8)) {A A2 : Option Addr} {c c2 : Nat} {bd : List UInt8} (l : List Share) (t : UInt8) (hb : bd.length ≤ 140737488355312) :
  Spec 11 [ptr r.g,.int .u8 (t.toNat : Int),.slice A bd.length c,.slice A2 l.length c2] [RingM r.m ks] (fun w=>(RingF r ks w ∧ Ta w ∧ Rd 1 eB A c bd w) ∧ Rd 65 eSh A2 c2 l w)
   { ret:=fun i : CI=>retC i (makeC ks (msg t bd) bd l),own:=fun _=>[RingM r.m ks],n:=fun i w=>∀ cv,makeC ks (msg t bd) bd l = some cv → CertF i cv w }:=by
 refine spec_S [.c (.v (ptr r.g)),.c (.v (.int .u8 (t.toNat : Int))),.c (.v (.slice A bd.length c)),.c (.v (.slice A2 l.length c2))] 65 Tryz.func11 rfl (by rw [Tryz.ntmps11]; rfl) (more_ok trivial (more_ok trivial (two_ok trivial trivial))) fun b=>?_;refine s_pure (ks.length ≤ 7 ∧ ∀ x ∈ l,x.2.length = 64) (fun w h _=>⟨by have:=h.1.1.1; omega,fun x hx=>eSh_len (h.2.2.2.2.1 x hx).1⟩) fun ⟨hl,hs⟩=>?_;refine s_auto TY_ok rfl ?_;refine s_seq fun K hK=>?_;refine s_auto TY_ok rfl ?_;refine s_no rfl ?_;refine s_skip (hK _ ?_);refine s_regA TY_ok rfl fun K1 hK1=>?_;refine l_list TY_ok b.B.heap.size [⟨A,c,bd⟩] (fe:=eSeg) rfl rfl rfl rfl rfl (fun _=>rfl) rfl (by decide) (by decide) (okF_seg _) (Nat.le_refl _) fun P=>?_;refine l_free 0 rfl ?_;refine l_callA [.slice P 1 1] rfl rfl rfl own_join rfl rfl (fun _ _=>rfl) (join_S (A:=P) (c:=1) [⟨A,c,bd⟩] (by simp; omega)) (fun w h _=>⟨h.1,fun s hs=>by rw [List.mem_singleton.1 hs]; exact h.2.1.2.2⟩) fun gb=>?_
 have e0 : (List.map Seg.l [⟨A,c,bd⟩]).flatten = bd:=by simp
 rw [e0];refine l_autoS TY_ok rfl ?_
 let mB:=msg t bd
 have hmB : msg t bd = mB:=rfl
 let F : Nat × Option Addr × Nat × Option Addr × Nat → Env:=fun ⟨j,B1,d1,B2,d2⟩=>⟨[(11,.v (.int .i64 (j : Int))),(0,.v (ptr r.g)),(1,.v (.int .u8 (t.toNat : Int))),(2,.v (.slice A bd.length c)),(3,.v (.slice A2 l.length c2)),(8,.a 8 0),(10,.a 10 0)],
  [⟨10,none,26,[.one (.v (.slice (some ⟨gb,0,none⟩) bd.length bd.length)),.one (.v (.slice B1 (sgL ks mB l j).length d1)),.one (.v (.slice B2 (siL ks mB l j).length d2))]⟩,⟨8,none,26,[.one (.v (.slice none 0 0)),.one (.v (.slice none 0 0)),.one (.v (.slice none 0 0))]⟩],
  [RingM r.m ks,OwnS b.B.heap.size 3 1 eI B1 d1 (sgL ks mB l j),OwnS b.B.heap.size 43 64 (eY 64) B2 d2 (siL ks mB l j)],
  fun w=>(RingF r ks w ∧ Ta w ∧ Rd 1 eB A c bd w) ∧ Rd 65 eSh A2 c2 l w,Rd 1 eB (some ⟨gb,0,none⟩) bd.length bd⟩
 refine s_end (hK1 _ ?_);refine s_nil0 b.B.heap.size 43 64 (eY 64) ?_;refine s_nil0 b.B.heap.size 3 1 eI ?_;refine s_seq fun K2 hK2=>?_
 have hend : ∀ x : Nat × Option Addr × Nat × Option Addr × Nat,x.1 ≤ ks.length → (gotL ks mB l x.1).length ≤ ks.length - ks.length / 3 → (x.1 = ks.length ∨ ¬ (gotL ks mB l x.1).length < ks.length - ks.length / 3) → ∀ e,Weak e (F x) → kS b K2 65 e:=by
  rintro ⟨j,B1,d1,B2,d2⟩ hj hq hor e hw
  dsimp only at hj hq hor
  have hql : (sgL ks mB l j).length = (gotL ks mB l j).length:=List.length_map _;refine k_weak hw (hK2 _ ?_);refine s_seq fun K9 hK9=>?_;refine s_regD 6 (by decide) (by kernel_rfl) (by kernel_rfl) fun K10 hK10 G S w0 hst=>?_;refine g_autoS TY_ok hst rfl ?_;refine g_callS hst [ptr r.g] rfl rfl rfl own_rquorum rfl rfl (fun _=>rfl) (rquorum_S r ks) trivial (fun _ _ w h=>h.fact.1.1) ?_;refine g_autoS TY_ok hst rfl ?_;refine g_endS hst ?_;refine s_end (hK10 _ ?_);refine s_ifD (((sgL ks mB l j).length : Int) < ((ks.length - ks.length / 3 : Nat) : Int)) rfl (fun h2=>?_) (fun h2=>?_)
  ·have hjn : j = ks.length:=by
    rcases hor with h | h
    ·exact h
    ·exact absurd (show (gotL ks mB l j).length < ks.length - ks.length / 3 by omega) h
   have hmk : makeC ks mB bd l = none:=by
    unfold makeC
    rw [if_pos (by rw [← hjn]; omega)]
   refine s_auto TY_ok rfl ?_
   exact s_ret (k_freeM 2 rfl (Nat.le_refl _) (k_freeM 1 rfl (Nat.le_refl _) (k_ret TY_ok ci0 rfl (by decide) rfl (congrArg (retC ci0) hmk) rfl (fun _ _ _=>trivial) (fun w _ cv h=>by
    rw [show makeC ks (msg t bd) bd l = none from hmk] at h
    cases h))))
  ·have hle : (gotL ks mB l j).length = ks.length - ks.length / 3:=by omega
   have hmk : makeC ks mB bd l = some ⟨bd,sgL ks mB l j,siL ks mB l j⟩:=by
    have h3:=gotL_take ks mB l hj;rw [hle] at h3
    unfold makeC
    rw [if_neg (by rw [← hle]; have:=(gotL_pre ks mB l j (ks.length - j)).length_le; rw [show j + (ks.length - j) = ks.length by omega] at this; omega),h3]
    rfl
   refine s_skip (hK9 _ ?_);refine s_auto TY_ok rfl ?_
   exact s_ret (k_freeM 2 rfl (Nat.le_refl _) (k_freeM 1 rfl (Nat.le_refl _) (k_ret TY_ok ⟨some ⟨gb,0,none⟩,bd.length,B1,d1,B2,d2⟩ rfl (by decide) rfl (congrArg (retC _) hmk) rfl (fun _ _ _=>trivial) (fun w hM cv h=>by
    rw [show makeC ks (msg t bd) bd l = some ⟨bd,sgL ks mB l j,siL ks mB l j⟩ from hmk] at h
    injection h with h
    rw [← h]
    exact ⟨hM.2.2,hM.1,hM.2.1⟩))))
 refine s_auto TY_ok rfl ?_;refine s_block ?_;refine c_weak (e':=F (0,none,0,none,0)) ⟨⟨rfl,rfl,rfl,rfl,rfl,rfl,rfl,trivial⟩,⟨rfl,rfl,rfl,rfl,trivial⟩,.trans (.cons _ (.swap _ _ _)) (.swap _ _ _),fun _ h _=>h.2.2,fun _ h=>h.1⟩ (s_loop (fun j=>ks.length - j.1) F (fun j=>j.1 ≤ ks.length ∧ (gotL ks mB l j.1).length ≤ ks.length - ks.length / 3) ?_ (0,none,0,none,0) ⟨Nat.zero_le _,Nat.zero_le _⟩)
 rintro ⟨j,B1,d1,B2,d2⟩ ⟨hj,hq⟩
 have hql : (sgL ks mB l j).length = (gotL ks mB l j).length:=List.length_map _;have hqs : (siL ks mB l j).length = (gotL ks mB l j).length:=List.length_map _;have hgl:=gotL_le ks mB l j;refine s_seq fun K3 hK3=>?_;refine s_regD 12 (by decide) (by kernel_rfl) (by kernel_rfl) fun K4 hK4 G S w0 hst=>?_;refine g_autoS TY_ok hst rfl ?_;refine g_callS hst [ptr r.g] rfl rfl rfl own_rsize rfl rfl (fun _=>rfl) (rsize_S r ks) trivial (fun _ _ w h=>h.fact.1.1) ?_;refine g_autoS TY_ok hst rfl ?_
 by_cases h1 : (j : Int) < (ks.length : Int)
 ·refine g_is 25 true rfl (decide_eq_true h1) ?_
  refine g_autoS TY_ok hst rfl ?_;refine g_callS hst [ptr r.g] rfl rfl rfl own_rquorum rfl rfl (fun _=>rfl) (rquorum_S r ks) trivial (fun _ _ w h=>h.fact.1.1) ?_;refine g_autoS TY_ok hst rfl ?_;refine g_endS hst ?_;refine s_end (hK4 _ ?_);refine s_ifD (((sgL ks mB l j).length : Int) < ((ks.length - ks.length / 3 : Nat) : Int)) rfl (fun h2=>?_) (fun h2=>?_)
  ·refine s_skip (hK3 _ ?_)
   refine s_seq fun K5 hK5=>?_;refine s_block ?_
   have hj' : j < ks.length:=by omega
   cases hfr : firstR ks[j] mB j l with
   | none =>
    have hc:=cfirst_S r ks l j t hj' hb (A:=A) (A2:=A2) (c:=c) (c2:=c2);rw [hmB,hfr] at hc;refine s_regA TY_ok rfl fun K7 hK7=>?_;refine l_callA [ptr r.g,.int .i64 (j : Int),.int .u8 (t.toNat : Int),.slice A bd.length c,.slice A2 l.length c2] rfl rfl rfl own_cfirst rfl rfl (fun _ _=>rfl) hc (fun w h _=>h) fun _=>?_;refine l_autoS TY_ok rfl ?_;refine s_end (hK7 _ ?_);refine s_auto TY_ok rfl ?_;refine s_no rfl ?_;refine s_skip (hK5 _ ?_);refine s_autoE TY_ok rfl ?_
    have hg : gotL ks mB l (j + 1) = gotL ks mB l j:=by rw [gotL_next,getElem!_pos ks j hj',hfr]; exact List.append_nil _
    have hg1 : sgL ks mB l (j + 1) = sgL ks mB l j:=congrArg (List.map _) hg;have hg2 : siL ks mB l (j + 1) = siL ks mB l j:=congrArg (List.map _) hg;rw [← hg1,← hg2];refine k_next (j + 1,B1,d1,B2,d2) ⟨hj',by rw [hg]; exact hq⟩ (by omega) ⟨⟨congrArg some (congrArg SV.v (congrArg (Value.int .i64) (wrapI rfl (by omega) (by omega)))),rfl,rfl,rfl,rfl,rfl,rfl,trivial⟩,⟨rfl,rfl,rfl,rfl,trivial⟩,.refl _,fun _ h _=>h.2,fun _ h=>h.2⟩
   | some s =>
    have hc:=cfirst_S r ks l j t hj' hb (A:=A) (A2:=A2) (c:=c) (c2:=c2);have hsl:=firstR_len hs hfr;rw [hmB,hfr] at hc;refine s_regA TY_ok rfl fun K7 hK7=>?_;refine l_callA [ptr r.g,.int .i64 (j : Int),.int .u8 (t.toNat : Int),.slice A bd.length c,.slice A2 l.length c2] rfl rfl rfl own_cfirst rfl rfl (fun _ _=>rfl) hc (fun w h _=>h) fun _=>?_;refine l_autoS TY_ok rfl ?_;refine s_end (hK7 _ ?_);refine s_auto TY_ok rfl ?_;refine s_yes rfl ?_;refine s_regA TY_ok rfl fun K8 hK8=>?_;refine l_push TY_ok 1 (j : Int) rfl rfl rfl rfl rfl rfl rfl (eI_ok _) (by decide) (by decide) (by rw [hql]; show (_ + 1) * 8 ≤ _; omega) (by rw [hql]; omega) (Nat.le_refl _) fun B1' d1'=>?_;refine l_autoS TY_ok rfl ?_;refine s_end (hK8 _ ?_);refine s_lit ?_;refine l_autoS TY_ok rfl ?_;refine l_push TY_ok 2 s rfl rfl rfl rfl rfl rfl rfl (eY_ok hsl) (by decide) (by decide) (by rw [hqs]; show (_ + 1) * 64 ≤ _; omega) (by rw [hqs]; omega) (Nat.le_refl _) fun B2' d2'=>?_;refine l_autoS TY_ok rfl ?_;refine s_end ?_;refine hK5 _ ?_;refine s_autoE TY_ok rfl ?_
    have hg : gotL ks mB l (j + 1) = gotL ks mB l j ++ [(j,s)]:=by rw [gotL_next,getElem!_pos ks j hj',hfr]; rfl
    have hg1 : sgL ks mB l (j + 1) = sgL ks mB l j ++ [(j : Int)]:=by unfold sgL; rw [hg,List.map_append]; rfl
    have hg2 : siL ks mB l (j + 1) = siL ks mB l j ++ [s]:=by unfold siL; rw [hg,List.map_append]; rfl
    rw [← hg1,← hg2];refine k_next (j + 1,B1',d1',B2',d2') ⟨hj',by rw [hg,List.length_append]; simp only [List.length_singleton]; omega⟩ (by omega) ⟨⟨congrArg some (congrArg SV.v (congrArg (Value.int .i64) (wrapI rfl (by omega) (by omega)))),rfl,rfl,rfl,rfl,rfl,rfl,trivial⟩,⟨rfl,rfl,rfl,rfl,trivial⟩,.refl _,fun _ h _=>h.2,fun _ h=>h.2⟩
  ·refine s_exit (k_pass (k_pass (k_out ?_)))
   exact hend (j,B1,d1,B2,d2) hj hq (.inr (by show ¬ (gotL ks mB l j).length < _; omega)) _ ⟨⟨rfl,rfl,rfl,rfl,rfl,rfl,rfl,trivial⟩,⟨rfl,rfl,rfl,rfl,trivial⟩,.refl _,fun _ h _=>h,fun _ h=>h⟩
 ·refine g_is 25 false rfl (decide_eq_false h1) ?_
  refine g_autoS TY_ok hst rfl ?_;refine g_endS hst ?_;refine s_end (hK4 _ ?_);refine s_no rfl ?_;refine s_exit (k_pass (k_pass (k_out ?_)));exact hend (j,B1,d1,B2,d2) hj hq (.inl (by show j = _; omega)) _ ⟨⟨rfl,rfl,rfl,rfl,rfl,rfl,rfl,trivial⟩,⟨rfl,rfl,rfl,rfl,trivial⟩,.refl _,fun _ h _=>h,fun _ h=>h⟩
end Go.Proofs.YtlcbhbahchiofaaGreatDoor
