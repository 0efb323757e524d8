/-
  SEVERAL TEXTS IN ONE: SgLoop, SgRSign, SgRRight, EncMul, ShaK, SgOne, LawSg, LawSgF, LawSgR, LawSgM, Law6.
-/
import Derived.Test.YtminmeljonbogaaDoorMo
import Derived.Test.YtminmeljonbogaaDoorMf
import Derived.Test.YtminmeljonbogaaDoorMc
import Derived.Lib.SlBytesConst
import Derived.Test.YtminmeljonbogaaDoorMb
import Derived.Test.YtminmeljonbogaaDoorCards
import Derived.Test.YtminmeljonbogaaDoorTie
import Derived.LaidMore
import Derived.SevenTiedAt
import Derived.Stop.Joined
/-
  THE DOCUMENT'S SIGNATURES: the two halves are laid into one.
-/
namespace Go.Proofs.YtminmeljonbogaaDoor
open Go.RowKit Go.IntWalk Nums

def SBw (v : Value) (l : List UInt8) (w : World) : Prop:=SB w v l
theorem sb_cap {w : World} {A : Option Addr} {n c : Nat} {l : List UInt8} (h : SB w (.slice A n c) l) : n ≤ c:=by
 obtain ⟨A',c',e,hS⟩:=h
 injection e with e1 e2 e3
 subst e2 e3;exact hS.1
theorem own_rsign6 : Own 12:=fun _ _=>by go_simp
theorem hb2_len {a b : List UInt8} (ha : a.length = 32) (hb' : b.length = 32) {i j : Nat} (hi : i ≤ 32) (hj : j ≤ 32) : (hb a i ++ hb b j).length = 64:=by rw [List.length_append,hb_len ha hi,hb_len hb' hj]
theorem hb2_set1 {a b : List UInt8} (ha : a.length = 32) {i j : Nat} (hi : i < 32) : (hb a i ++ hb b j).set i a[i]! = hb a (i + 1) ++ hb b j:=by
 rw [List.set_append_left _ _ (by rw [hb_len ha (by omega)]; exact hi),hb_set ha hi]
theorem hb2_set2 {a b : List UInt8} (ha : a.length = 32) (hb' : b.length = 32) {i j : Nat} (hi : i ≤ 32) (hj : j < 32) : (hb a i ++ hb b j).set (32 + j) b[j]! = hb a i ++ hb b (j + 1):=by
 rw [List.set_append_right _ _ (by rw [hb_len ha hi]; omega),hb_len ha hi,Nat.add_sub_cancel_left,hb_set hb' hj]
noncomputable def sl6 (k : Nat) : Code:=((Tryd.f12.body.map loopsOf).getD [])[k]?.getD .skip
def FSg (g6 g10 g12 g13 i : Nat) : List (Nat × Value):=[(14,.int .i64 (i : Int)),(13,.pointer (some ⟨g13,0,none⟩)),(12,.pointer (some ⟨g12,0,none⟩)),(10,.pointer (some ⟨g10,0,none⟩)),(6,.pointer (some ⟨g6,0,none⟩))]
structure SgR (w0 : World) (a b : List UInt8) (g6 g10 g12 g13 i : Nat) (w : World) : Prop where
  le : i ≤ 32
  up : Up w0 w
  b6 : Blk w g6 32 (By z64).toArray
  b10 : Blk w g10 22 (By a).toArray
  b12 : Blk w g12 22 (By b).toArray
  b13 : Blk w g13 32 (By (hb a i ++ hb b i)).toArray
set_option maxRecDepth 100000 in
set_option maxHeartbeats 4000000 in
theorem sig_l {Q : Exit → Act → World → Prop} {w0 w : World} {a b : List UInt8} {g6 g10 g12 g13 : Nat} (ha : a.length = 32) (hb' : b.length = 32) (n6 : g6 ≠ g13) (n10 : g10 ≠ g13) (n12 : g12 ≠ g13) (q13 : w0.heap.size ≤ g13) (h0 : SgR w0 a b g6 g10 g12 g13 0 w)
  (hend : ∀ w',SgR w0 a b g6 g10 g12 g13 32 w' → kF (Q .normal) 62 (FSg g6 g10 g12 g13 32) w') :
  cF Tryd.prog (.loop (sl6 0)) (Exit.inBlock 0 Q) 62 (FSg g6 g10 g12 g13 0) w:=by
 have hstart : cF Tryd.prog (.loop (sl6 0)) (Exit.inBlock 0 Q) 62 ((fun i : Nat=>FSg g6 g10 g12 g13 i) 0) w:=by
  refine c_loop (m:=fun i : Nat=>32 - i) (F:=fun i : Nat=>FSg g6 g10 g12 g13 i) (R:=fun i w=>SgR w0 a b g6 g10 g12 g13 i w) ?_ 0 h0
  rintro i w ⟨hi,hU,b6,b10,b12,b13⟩
  conv=>arg 2; whnf
  refine c_seq fun K1 hK1=>?_;refine c_seq fun K9 hK9=>?_;refine c_qF ?_
  by_cases hil : i < 32
  ·refine f_move (.int .i64 (i : Int)) rfl rfl rfl rfl rfl ?_
   refine f_lssI (i : Int) 32 true rfl rfl rfl rfl rfl rfl (decide_eq_true (by omega)) ?_;refine f_end fun w1 hw1=>hK9 _ _ ?_;refine c_cond true rfl ?_;refine c_skip ?_;refine hK1 _ _ ?_;refine c_seq fun K3 hK3=>?_;refine c_block ?_;refine c_seq fun K4 hK4=>?_;replace hU : Up w0 w1:=hU.step hw1;replace b6:=b6.later hw1;replace b10:=b10.later hw1;replace b12:=b12.later hw1;replace b13:=b13.later hw1;have c0:=(b10.cell i).trans (By_get (l:=a) (j:=i) (by omega));have c1:=(b13.cell i).trans (By_get (l:=hb a i ++ hb b i) (j:=i) (by rw [hb2_len ha hb' hi hi]; omega));refine c_tF 5 ?_;refine f_move (.int .i64 (i : Int)) rfl rfl rfl rfl rfl ?_;refine f_move (.int .i64 (i : Int)) rfl rfl rfl rfl rfl ?_;refine f_ix _ (i : Int) ⟨g10,i,none⟩ rfl rfl rfl rfl rfl rfl (ixH _ i hil) ?_;refine f_load ⟨g10,i,none⟩ (.int .u8 ((a[i]!).toNat : Int)) (by decide) rfl rfl rfl rfl rfl (fun _ h1=>(h1.cell b10.lt).trans c0) ?_;refine f_ix _ (i : Int) ⟨g13,i,none⟩ rfl rfl rfl rfl rfl rfl (ix64 _ i (by omega)) ?_;refine f_store ⟨g13,i,none⟩ ((a[i]!).toNat : Int) _ (.inr ⟨rfl,rfl⟩) rfl rfl rfl rfl rfl c1 (b13.free i) b13.lt fun w3 hw3=>?_;replace b6:=(b6.later hw3).far (p:=⟨g13,i,none⟩) n6 (.int .u8 ((a[i]!).toNat : Int));replace b10:=(b10.later hw3).far (p:=⟨g13,i,none⟩) n10 (.int .u8 ((a[i]!).toNat : Int));replace b12:=(b12.later hw3).far (p:=⟨g13,i,none⟩) n12 (.int .u8 ((a[i]!).toNat : Int));replace b13:=(b13.later hw3).set i (.int .u8 ((a[i]!).toNat : Int));replace hU : Up w0 _:=(hU.step hw3).setCell (p:=⟨g13,i,none⟩) q13 (.int .u8 ((a[i]!).toNat : Int));rw [By_set,hb2_set1 ha hil] at b13;generalize w3.setCell ⟨g13,i,none⟩ (.int .u8 ((a[i]!).toNat : Int)) = W3 at *;clear c0 c1;refine hK4 _ _ ?_;have c0:=(b12.cell i).trans (By_get (l:=b) (j:=i) (by omega));have c1:=(b13.cell (32 + i)).trans (By_get (l:=hb a (i + 1) ++ hb b i) (j:=32 + i) (by rw [hb2_len ha hb' hil hi]; omega));refine c_tF 6 ?_;refine f_move (.int .i64 (i : Int)) rfl rfl rfl rfl rfl ?_;refine f_addI 32 (i : Int) ((32 + i : Nat) : Int) rfl rfl rfl rfl rfl rfl (addI 32 i (by omega)) ?_;refine f_move (.int .i64 (i : Int)) rfl rfl rfl rfl rfl ?_;refine f_ix _ (i : Int) ⟨g12,i,none⟩ rfl rfl rfl rfl rfl rfl (ixH _ i hil) ?_;refine f_load ⟨g12,i,none⟩ (.int .u8 ((b[i]!).toNat : Int)) (by decide) rfl rfl rfl rfl rfl (fun _ h1=>(h1.cell b12.lt).trans c0) ?_;refine f_ix _ ((32 + i : Nat) : Int) ⟨g13,32 + i,none⟩ rfl rfl rfl rfl rfl rfl (ix64 _ (32 + i) (by omega)) ?_;refine f_store ⟨g13,32 + i,none⟩ ((b[i]!).toNat : Int) _ (.inr ⟨rfl,rfl⟩) rfl rfl rfl rfl rfl c1 (b13.free (32 + i)) b13.lt fun w4 hw4=>?_;replace b6:=(b6.later hw4).far (p:=⟨g13,32 + i,none⟩) n6 (.int .u8 ((b[i]!).toNat : Int));replace b10:=(b10.later hw4).far (p:=⟨g13,32 + i,none⟩) n10 (.int .u8 ((b[i]!).toNat : Int));replace b12:=(b12.later hw4).far (p:=⟨g13,32 + i,none⟩) n12 (.int .u8 ((b[i]!).toNat : Int));replace b13:=(b13.later hw4).set (32 + i) (.int .u8 ((b[i]!).toNat : Int))
   replace hU : Up w0 _:=(hU.step hw4).setCell (p:=⟨g13,32 + i,none⟩) q13 (.int .u8 ((b[i]!).toNat : Int));rw [By_set,hb2_set2 ha hb' hil hil] at b13;generalize w4.setCell ⟨g13,32 + i,none⟩ (.int .u8 ((b[i]!).toNat : Int)) = W4 at *;refine hK3 _ _ ?_;refine c_qF ?_;refine f_move (.int .i64 (i : Int)) rfl rfl rfl rfl rfl ?_;refine f_addI (i : Int) 1 ((i + 1 : Nat) : Int) rfl rfl rfl rfl rfl rfl (addI i 1 (by omega)) ?_;refine f_assign (.int .i64 ((i + 1 : Nat) : Int)) rfl rfl rfl rfl rfl ?_;refine f_end fun w5 hw5=>?_;exact k_round (F:=fun i : Nat=>FSg g6 g10 g12 g13 i) (m:=fun i : Nat=>32 - i) (R:=fun i w=>SgR w0 a b g6 g10 g12 g13 i w) (s:=i) (i + 1) ⟨rfl,rfl,rfl,rfl,rfl,trivial⟩ ⟨hil,hU.step hw5,b6.later hw5,b10.later hw5,b12.later hw5,b13.later hw5⟩ (by omega)
  ·refine f_move (.int .i64 (i : Int)) rfl rfl rfl rfl rfl ?_
   refine f_lssI (i : Int) 32 false rfl rfl rfl rfl rfl rfl (decide_eq_false (by omega)) ?_;refine f_end fun w1 hw1=>hK9 _ _ ?_;refine c_cond false rfl ?_;refine c_exit ?_;refine k_exit (id:=0) (Q:=Q) ?_
   obtain rfl : i = 32:=by omega
   exact k_sub (E':=FSg g6 g10 g12 g13 32) ⟨rfl,rfl,rfl,rfl,rfl,trivial⟩ (hend w1 ⟨hi,hU.step hw1,b6.later hw1,b10.later hw1,b12.later hw1,b13.later hw1⟩)
 exact hstart
theorem hb_full {a : List UInt8} (h : a.length = 32) : hb a 32 = a:=by rw [hb,Nat.sub_self,List.replicate_zero,List.append_nil,List.take_of_length_le (by omega)]
end Go.Proofs.YtminmeljonbogaaDoor
/-
  THE DOCUMENT'S SIGNATURES: Sign.
-/
namespace Go.Proofs.YtminmeljonbogaaDoor
open Go.RowKit Go.IntWalk Nums

theorem sgR_eq2 {seed m : List UInt8} : le (digest s512 (sgPre seed ++ m)) % LL = sgR seed m:=rfl
theorem rS_eq {seed m : List UInt8} : (le (Nums.bytes 32 (sgR seed m)) + le (Nums.bytes 32 ((le (Nums.bytes 32 (sgK (sgRB seed m) (sgKey seed) m)) * le (Nums.bytes 32 (le (sgAB seed) % LL))) % LL))) % LL = sgS seed m:=by
 rw [le_bytesL (sgR_lt _ _),le_bytesL (sgK_lt _ _ _),le_bytesL (mod_LL_lt _),le_bytesL (mod_LL_lt _),sgS,Nat.mul_mod_mod,Nat.add_mod_mod]

set_option maxRecDepth 100000 in
set_option maxHeartbeats 2000000 in
theorem rsign6_f {D : List Int} {seed m : List UInt8} {v : Value} (hD : NB 65573 D dd) (hs : seed.length = 32) (hml : m.length ≤ 1000000) (w : World) (hm : SB w v m) :
  Calls Tryd.prog 12 #[.agg (Is D).toArray,.agg (By seed).toArray,v] w fun e w'=>e = .returned (.agg (By (sgSig seed m)).toArray) ∧ Below w.heap.size w w':=by
 refine calls_F (vs:=[.agg (Is D).toArray,.agg (By seed).toArray,v]) 62 Tryd.func12 rfl (by rw [Tryd.ntmps12]; rfl) ?_;have hU:=Up.refl w;refine c_seq fun K hK=>?_;refine c_lit ?_;refine l_boxA ((Is D).toArray) rfl rfl rfl rfl rfl fun W1 g1 hw1 hg1 b1=>?_;replace hU:=hU.step hw1;clear hw1 hg1;refine l_boxA ((By seed).toArray) rfl rfl rfl rfl rfl fun W2 g2 hw2 hg2 b2=>?_;replace b1:=b1.later hw2;replace hU:=hU.step hw2;clear hw2 hg2;refine l_allocA ((By z64).toArray) rfl rfl rfl rfl zero64 fun W3 g3 hw3 hg3 b3=>?_
 have q3 : w.heap.size ≤ g3:=by rw [hg3]; exact hU.size
 replace b1:=b1.later hw3;replace b2:=b2.later hw3;replace hU:=hU.step hw3;clear hw3 hg3;refine l_nil ?_;refine hK _ _ ?_;clear hK K;refine c_seq fun K hK=>?_;refine c_gF 2 ?_;refine g_op rfl ?_;refine f_by g2 0 hs rfl rfl rfl rfl rfl (fun _ h1=>(h1.1.blk b2).range) ?_;refine g_go ?_;refine g_op rfl ?_;refine f_call #[.agg (By seed).toArray] (.agg (By (sgAB seed)).toArray) rfl rfl rfl own_rnum6 (fun w1 h1=>rnum6_f hs w1) rfl rfl ?_;refine g_go ?_;refine g_end fun W4 hw4 hF4=>?_;clear hF4;replace b1:=b1.later hw4;replace b2:=b2.later hw4;replace b3:=b3.later hw4;replace hU:=hU.step hw4;clear hw4;refine l_allocA z32 rfl rfl rfl rfl (by kernel_rfl) fun W5 g5 hw5 hg5 b5=>?_
 have n1_5 : g1 ≠ g5:=by have:=b1.lt; omega
 have n2_5 : g2 ≠ g5:=by have:=b2.lt; omega
 have n3_5 : g3 ≠ g5:=by have:=b3.lt; omega
 have q5 : w.heap.size ≤ g5:=by rw [hg5]; exact hU.size
 replace b1:=b1.later hw5;replace b2:=b2.later hw5;replace b3:=b3.later hw5;replace hU:=hU.step hw5;clear hw5 hg5;refine l_set g5 _ ((By (sgAB seed)).toArray) rfl rfl rfl rfl rfl b5 (size_H ((sgAB_len seed))) (by rw [len_by ((sgAB_len seed))]; rfl) (By_oneA _) ?_;replace b1:=b1.rowFar n1_5 ((By (sgAB seed)).toArray);replace b2:=b2.rowFar n2_5 ((By (sgAB seed)).toArray);replace b3:=b3.rowFar n3_5 ((By (sgAB seed)).toArray);replace b5:=b5.row ((By (sgAB seed)).toArray);replace hU:=up_row hU q5 ((By (sgAB seed)).toArray);generalize World.setRow _ g5 ((By (sgAB seed)).toArray) = W6 at *;refine l_nil ?_;refine hK _ _ ?_;clear hK K;refine c_seq fun K hK=>?_;refine c_gF 3 ?_;refine g_op rfl ?_;refine f_cu g1 hD.len rfl rfl rfl rfl rfl (fun _ h1=>(h1.1.blk b1).range) ?_;refine g_go ?_;refine g_op rfl ?_;refine f_by g2 0 hs rfl rfl rfl rfl rfl (fun _ h1=>(h1.1.blk b2).range) ?_;refine g_go ?_;refine g_op rfl ?_;refine f_call #[.agg (Is D).toArray,.agg (By seed).toArray] (.agg (By (sgKey seed)).toArray) rfl rfl rfl own_rkey6 (fun w1 h1=>rkey6_f hD hs w1) rfl rfl ?_;refine g_go ?_;refine g_end fun W7 hw7 hF7=>?_;clear hF7;replace b1:=b1.later hw7;replace b2:=b2.later hw7;replace b3:=b3.later hw7;replace b5:=b5.later hw7;replace hU:=hU.step hw7;clear hw7;refine l_allocA z32 rfl rfl rfl rfl (by kernel_rfl) fun W8 g8 hw8 hg8 b8=>?_
 have n1_8 : g1 ≠ g8:=by have:=b1.lt; omega
 have n2_8 : g2 ≠ g8:=by have:=b2.lt; omega
 have n3_8 : g3 ≠ g8:=by have:=b3.lt; omega
 have n5_8 : g5 ≠ g8:=by have:=b5.lt; omega
 have q8 : w.heap.size ≤ g8:=by rw [hg8]; exact hU.size
 replace b1:=b1.later hw8;replace b2:=b2.later hw8;replace b3:=b3.later hw8;replace b5:=b5.later hw8;replace hU:=hU.step hw8;clear hw8 hg8;refine l_set g8 _ ((By (sgKey seed)).toArray) rfl rfl rfl rfl rfl b8 (size_H ((sgKey_len seed))) (by rw [len_by ((sgKey_len seed))]; rfl) (By_oneA _) ?_;replace b1:=b1.rowFar n1_8 ((By (sgKey seed)).toArray);replace b2:=b2.rowFar n2_8 ((By (sgKey seed)).toArray);replace b3:=b3.rowFar n3_8 ((By (sgKey seed)).toArray);replace b5:=b5.rowFar n5_8 ((By (sgKey seed)).toArray);replace b8:=b8.row ((By (sgKey seed)).toArray);replace hU:=up_row hU q8 ((By (sgKey seed)).toArray);generalize World.setRow _ g8 ((By (sgKey seed)).toArray) = W9 at *;refine l_nil ?_;refine hK _ _ ?_;clear hK K;refine c_seq fun K hK=>?_;refine c_gF 8 ?_;refine g_op rfl ?_;refine f_slice32 g2 rfl rfl rfl rfl rfl ?_;refine g_go ?_;refine g_slices [.slice (some ⟨g2,0,none⟩) 32 32] [seed] (W9).heap.size rfl rfl rfl rfl rfl rfl rfl (by decide) (by decide) (fun _ h=>h.size) (fun _ h hu=>⟨SB.all (b2.later h) hs (by decide),trivial⟩) fun gs10 _ _ _=>?_
 refine g_call #[.slice (some ⟨gs10,0,none⟩) 1 1] (DG · (sgD seed)) rfl rfl rfl rfl (fun _ _ _ h hr=>h.later hr) own_rlong (fun w1 h1 hu=>by
   have:=rlong_g (P:=some ⟨gs10,0,none⟩) (ls:=[seed]) (pc:=1) (by simp only [List.length_cons,List.length_nil]; omega) (by simp; omega) w1 (hu 1 _ rfl (by kernel_rfl) : NewS _ _ _ _ _).pt
   rwa [show [seed].flatten = seed from by simp,show digest s512 seed = sgD seed from rfl] at this) rfl rfl fun _ _ _ hv11=>?_
 obtain ⟨gd11,cd11,rfl,_,hsb11⟩:=hv11;refine g_opP (SBw (.slice (if cd11 = 32 then some ⟨gd11,0,none⟩ else some ⟨gd11,32,none⟩) ((sgD seed).length - 32) (cd11 - 32)) (sgPre seed)) (fun _ _ h hr=>SB.later h hr) rfl (fun w1 h hu=>cut_sb (hu 2 _ rfl (by kernel_rfl) : DG _ _ _).sb (by rw [sgD_len]; decide)) ?_ rfl;refine f_cutB gd11 (sgD seed).length cd11 (by rw [sgD_len]; decide) (sb_cap hsb11) rfl rfl rfl rfl rfl ?_;refine g_goP ?_;refine g_op rfl ?_;refine f_move (v) rfl rfl rfl rfl rfl ?_;refine g_go ?_;refine g_slices [.slice (if cd11 = 32 then some ⟨gd11,0,none⟩ else some ⟨gd11,32,none⟩) ((sgD seed).length - 32) (cd11 - 32),v] [(sgPre seed),m] (W9).heap.size rfl rfl rfl rfl rfl rfl rfl (by decide) (by decide) (fun _ h=>h.size) (fun _ h hu=>⟨(hu 3 _ rfl (by kernel_rfl) : SBw _ _ _),hm.later (hU.step h),trivial⟩) fun gs12 _ _ _=>?_
 refine g_call #[.slice (some ⟨gs12,0,none⟩) 2 2] (DG · (digest s512 (sgPre seed ++ m))) rfl rfl rfl rfl (fun _ _ _ h hr=>h.later hr) own_rlong (fun w1 h1 hu=>by
   have:=rlong_g (P:=some ⟨gs12,0,none⟩) (ls:=[(sgPre seed),m]) (pc:=2) (by simp only [List.length_cons,List.length_nil]; omega) (by simp only [List.flatten_cons,List.flatten_nil,List.length_append,List.append_nil,sgPre_len]; omega) w1 (hu 5 _ rfl (by kernel_rfl) : NewS _ _ _ _ _).pt
   rwa [show [sgPre seed,m].flatten = sgPre seed ++ m from by simp] at this) rfl rfl fun _ _ _ hv13=>?_
 obtain ⟨gd13,cd13,rfl,_,hsb13⟩:=hv13;refine g_op rfl ?_
 refine f_call #[.slice (some ⟨gd13,0,none⟩) (digest s512 (sgPre seed ++ m)).length cd13] (.agg (By (Nums.bytes 32 (sgR seed m))).toArray) rfl rfl rfl own_rmod4 (fun w1 h1=>by
   have:=mod_any (digest s512 (sgPre seed ++ m)) gd13 cd13 w1 (by rw [digest512_len]; decide) (h1.2 6 _ rfl (by kernel_rfl) : DG _ _ _).bl
   rwa [sgR_eq2] at this) rfl rfl ?_
 refine g_go ?_;refine g_end fun W14 hw14 hF14=>?_;clear hF14;replace b1:=b1.later hw14;replace b3:=b3.later hw14;replace b5:=b5.later hw14;replace b8:=b8.later hw14;replace hU:=hU.step hw14;clear hw14;refine l_allocA z32 rfl rfl rfl rfl (by kernel_rfl) fun W15 g15 hw15 hg15 b15=>?_
 have n1_15 : g1 ≠ g15:=by have:=b1.lt; omega
 have n3_15 : g3 ≠ g15:=by have:=b3.lt; omega
 have n5_15 : g5 ≠ g15:=by have:=b5.lt; omega
 have n8_15 : g8 ≠ g15:=by have:=b8.lt; omega
 have q15 : w.heap.size ≤ g15:=by rw [hg15]; exact hU.size
 replace b1:=b1.later hw15;replace b3:=b3.later hw15;replace b5:=b5.later hw15;replace b8:=b8.later hw15;replace hU:=hU.step hw15;clear hw15 hg15;refine l_set g15 _ ((By (Nums.bytes 32 (sgR seed m))).toArray) rfl rfl rfl rfl rfl b15 (size_H ((bytes_len _ _))) (by rw [len_by ((bytes_len _ _))]; rfl) (By_oneA _) ?_;replace b1:=b1.rowFar n1_15 ((By (Nums.bytes 32 (sgR seed m))).toArray);replace b3:=b3.rowFar n3_15 ((By (Nums.bytes 32 (sgR seed m))).toArray);replace b5:=b5.rowFar n5_15 ((By (Nums.bytes 32 (sgR seed m))).toArray);replace b8:=b8.rowFar n8_15 ((By (Nums.bytes 32 (sgR seed m))).toArray);replace b15:=b15.row ((By (Nums.bytes 32 (sgR seed m))).toArray);replace hU:=up_row hU q15 ((By (Nums.bytes 32 (sgR seed m))).toArray);generalize World.setRow _ g15 ((By (Nums.bytes 32 (sgR seed m))).toArray) = W16 at *;refine l_nil ?_;refine hK _ _ ?_;clear hK K;refine c_seq fun K hK=>?_;refine c_g 7 (by decide) (by kernel_rfl) (by kernel_rfl) ?_;refine g_op rfl ?_;refine f_cu g1 hD.len rfl rfl rfl rfl rfl (fun _ h1=>(h1.1.blk b1).range) ?_;refine g_go ?_;refine g_op rfl ?_;refine f_cu g1 hD.len rfl rfl rfl rfl rfl (fun _ h1=>(h1.1.blk b1).range) ?_;refine g_go ?_;refine g_op rfl ?_;refine f_rpt #[.agg (Is D).toArray] base rfl rfl rfl own_rbase (fun w1 h1=>base_f hD w1) rfl rfl fun X30 Y30 Z30 T30 v30=>?_;refine g_go ?_;refine g_op rfl ?_;refine f_by g15 0 ((bytes_len _ _)) rfl rfl rfl rfl rfl (fun _ h1=>(h1.1.blk b15).range) ?_;refine g_go ?_;refine g_op rfl ?_;refine f_rpt #[.agg (Is D).toArray,.agg (pt X30 Y30 Z30 T30).toArray,.agg (By (Nums.bytes 32 (sgR seed m))).toArray] (Ed.mul dd (le (Nums.bytes 32 (sgR seed m))) base) rfl rfl rfl own_rmul5 (fun w1 h1=>pmul_f hD v30 ((bytes_len _ _)) w1) rfl rfl fun X32 Y32 Z32 T32 v32=>?_;refine g_go ?_;refine g_op rfl ?_
 refine f_call #[.agg (pt X32 Y32 Z32 T32).toArray] (.agg (By (sgRB seed m)).toArray) rfl rfl rfl own_rbytes (fun w1 h1=>by
   have:=pbytes_f v32 w1
   rwa [le_bytesL (sgR_lt _ _),sgRB_eq] at this) rfl rfl ?_
 refine g_go ?_;refine g_alloc z32 (W16).heap.size rfl rfl rfl rfl rfl (by kernel_rfl) (fun _ h=>h.size) (fun g w w' h hr=>⟨h.1,h.2.later hr⟩) fun g17 _ _ _ _=>?_;refine g_end fun W18 hw18 hF18=>?_;have b17:=(hF18 6 _ rfl).2;have ge17:=(hF18 6 _ rfl).1
 have n3_17 : g3 ≠ g17:=by have:=b3.lt; omega
 have n5_17 : g5 ≠ g17:=by have:=b5.lt; omega
 have n8_17 : g8 ≠ g17:=by have:=b8.lt; omega
 have n15_17 : g15 ≠ g17:=by have:=b15.lt; omega
 have q17 : w.heap.size ≤ g17:=Nat.le_trans hU.size ge17;clear ge17;clear hF18;replace b3:=b3.later hw18;replace b5:=b5.later hw18;replace b8:=b8.later hw18;replace b15:=b15.later hw18;replace hU:=hU.step hw18;clear hw18;refine l_set g17 _ ((By (sgRB seed m)).toArray) rfl rfl rfl rfl rfl b17 (size_H ((sgRB_len seed m))) (by rw [len_by ((sgRB_len seed m))]; rfl) (By_oneA _) ?_;replace b3:=b3.rowFar n3_17 ((By (sgRB seed m)).toArray);replace b5:=b5.rowFar n5_17 ((By (sgRB seed m)).toArray);replace b8:=b8.rowFar n8_17 ((By (sgRB seed m)).toArray);replace b15:=b15.rowFar n15_17 ((By (sgRB seed m)).toArray);replace b17:=b17.row ((By (sgRB seed m)).toArray);replace hU:=up_row hU q17 ((By (sgRB seed m)).toArray);generalize World.setRow _ g17 ((By (sgRB seed m)).toArray) = W19 at *;refine l_nil ?_;refine hK _ _ ?_;clear hK K;refine c_seq fun K hK=>?_;refine c_g 7 (by decide) (by kernel_rfl) (by kernel_rfl) ?_;refine g_op rfl ?_;refine f_slice32 g17 rfl rfl rfl rfl rfl ?_;refine g_go ?_;refine g_op rfl ?_;refine f_slice32 g8 rfl rfl rfl rfl rfl ?_;refine g_go ?_;refine g_op rfl ?_;refine f_move (v) rfl rfl rfl rfl rfl ?_;refine g_go ?_;refine g_slices [.slice (some ⟨g17,0,none⟩) 32 32,.slice (some ⟨g8,0,none⟩) 32 32,v] [sgRB seed m,sgKey seed,m] (W19).heap.size rfl rfl rfl rfl rfl rfl rfl (by decide) (by decide) (fun _ h=>h.size) (fun _ h hu=>⟨SB.all (b17.later h) ((sgRB_len seed m)) (by decide),SB.all (b8.later h) ((sgKey_len seed)) (by decide),hm.later (hU.step h),trivial⟩) fun gs20 _ _ _=>?_
 refine g_call #[.slice (some ⟨gs20,0,none⟩) 3 3] (DG · (digest s512 (sgRB seed m ++ (sgKey seed ++ m)))) rfl rfl rfl rfl (fun _ _ _ h hr=>h.later hr) own_rlong (fun w1 h1 hu=>by
   have:=rlong_g (P:=some ⟨gs20,0,none⟩) (ls:=[sgRB seed m,sgKey seed,m]) (pc:=3) (by simp only [List.length_cons,List.length_nil]; omega) (by simp only [List.flatten_cons,List.flatten_nil,List.length_append,List.append_nil,sgRB_len,sgKey_len]; omega) w1 (hu 3 _ rfl (by kernel_rfl) : NewS _ _ _ _ _).pt
   rwa [show [sgRB seed m,sgKey seed,m].flatten = sgRB seed m ++ (sgKey seed ++ m) from by simp] at this) rfl rfl fun _ _ _ hv21=>?_
 obtain ⟨gd21,cd21,rfl,_,hsb21⟩:=hv21;refine g_op rfl ?_
 refine f_call #[.slice (some ⟨gd21,0,none⟩) (digest s512 (sgRB seed m ++ (sgKey seed ++ m))).length cd21] (.agg (By (Nums.bytes 32 (sgK (sgRB seed m) (sgKey seed) m))).toArray) rfl rfl rfl own_rmod4 (fun w1 h1=>by
   have:=mod_any (digest s512 (sgRB seed m ++ (sgKey seed ++ m))) gd21 cd21 w1 (by rw [digest512_len]; decide) (h1.2 4 _ rfl (by kernel_rfl) : DG _ _ _).bl
   rwa [sgK_eq] at this) rfl rfl ?_
 refine g_go ?_;refine g_alloc z32 (W19).heap.size rfl rfl rfl rfl rfl (by kernel_rfl) (fun _ h=>h.size) (fun g w w' h hr=>⟨h.1,h.2.later hr⟩) fun g22 _ _ _ _=>?_;refine g_end fun W23 hw23 hF23=>?_;have b22:=(hF23 6 _ rfl).2;have ge22:=(hF23 6 _ rfl).1
 have n3_22 : g3 ≠ g22:=by have:=b3.lt; omega
 have n5_22 : g5 ≠ g22:=by have:=b5.lt; omega
 have n15_22 : g15 ≠ g22:=by have:=b15.lt; omega
 have n17_22 : g17 ≠ g22:=by have:=b17.lt; omega
 have q22 : w.heap.size ≤ g22:=Nat.le_trans hU.size ge22;clear ge22;clear hF23;replace b3:=b3.later hw23;replace b5:=b5.later hw23;replace b15:=b15.later hw23;replace b17:=b17.later hw23;replace hU:=hU.step hw23;clear hw23;refine l_set g22 _ ((By (Nums.bytes 32 (sgK (sgRB seed m) (sgKey seed) m))).toArray) rfl rfl rfl rfl rfl b22 (size_H ((bytes_len _ _))) (by rw [len_by ((bytes_len _ _))]; rfl) (By_oneA _) ?_;replace b3:=b3.rowFar n3_22 ((By (Nums.bytes 32 (sgK (sgRB seed m) (sgKey seed) m))).toArray);replace b5:=b5.rowFar n5_22 ((By (Nums.bytes 32 (sgK (sgRB seed m) (sgKey seed) m))).toArray);replace b15:=b15.rowFar n15_22 ((By (Nums.bytes 32 (sgK (sgRB seed m) (sgKey seed) m))).toArray);replace b17:=b17.rowFar n17_22 ((By (Nums.bytes 32 (sgK (sgRB seed m) (sgKey seed) m))).toArray);replace b22:=b22.row ((By (Nums.bytes 32 (sgK (sgRB seed m) (sgKey seed) m))).toArray);replace hU:=up_row hU q22 ((By (Nums.bytes 32 (sgK (sgRB seed m) (sgKey seed) m))).toArray);generalize World.setRow _ g22 ((By (Nums.bytes 32 (sgK (sgRB seed m) (sgKey seed) m))).toArray) = W24 at *;refine l_nil ?_;refine hK _ _ ?_;clear hK K;refine c_seq fun K hK=>?_;refine c_g 7 (by decide) (by kernel_rfl) (by kernel_rfl) ?_;refine g_op rfl ?_;refine f_by g15 0 ((bytes_len _ _)) rfl rfl rfl rfl rfl (fun _ h1=>(h1.1.blk b15).range) ?_;refine g_go ?_;refine g_op rfl ?_;refine f_by g22 0 ((bytes_len _ _)) rfl rfl rfl rfl rfl (fun _ h1=>(h1.1.blk b22).range) ?_;refine g_go ?_;refine g_op rfl ?_;refine f_slice32 g5 rfl rfl rfl rfl rfl ?_;refine g_go ?_;refine g_op rfl ?_
 refine f_call #[.slice (some ⟨g5,0,none⟩) 32 32] (.agg (By (Nums.bytes 32 (le (sgAB seed) % LL))).toArray) rfl rfl rfl own_rmod4 (fun w1 h1=>by
   have:=mod_any (sgAB seed) g5 32 w1 (by rw [sgAB_len]; decide) (bl_of (h1.1.blk b5))
   rwa [sgAB_len] at this) rfl rfl ?_
 refine g_go ?_;refine g_op rfl ?_;refine f_call #[.agg (By (Nums.bytes 32 (sgK (sgRB seed m) (sgKey seed) m))).toArray,.agg (By (Nums.bytes 32 (le (sgAB seed) % LL))).toArray] (.agg (By (Nums.bytes 32 ((le (Nums.bytes 32 (sgK (sgRB seed m) (sgKey seed) m)) * le (Nums.bytes 32 (le (sgAB seed) % LL))) % LL))).toArray) rfl rfl rfl own_rmul4 (fun w1 h1=>mul4_f (Nums.bytes 32 (sgK (sgRB seed m) (sgKey seed) m)) (Nums.bytes 32 (le (sgAB seed) % LL)) (bytes_len _ _) (bytes_len _ _) w1) rfl rfl ?_;refine g_go ?_;refine g_op rfl ?_
 refine f_call #[.agg (By (Nums.bytes 32 (sgR seed m))).toArray,.agg (By (Nums.bytes 32 ((le (Nums.bytes 32 (sgK (sgRB seed m) (sgKey seed) m)) * le (Nums.bytes 32 (le (sgAB seed) % LL))) % LL))).toArray] (.agg (By (Nums.bytes 32 (sgS seed m))).toArray) rfl rfl rfl own_radd4 (fun w1 h1=>by
   have:=add4_f (Nums.bytes 32 (sgR seed m)) (Nums.bytes 32 ((le (Nums.bytes 32 (sgK (sgRB seed m) (sgKey seed) m)) * le (Nums.bytes 32 (le (sgAB seed) % LL))) % LL)) (bytes_len _ _) (bytes_len _ _) w1
   rwa [rS_eq] at this) rfl rfl ?_
 refine g_go ?_;refine g_alloc z32 (W24).heap.size rfl rfl rfl rfl rfl (by kernel_rfl) (fun _ h=>h.size) (fun g w w' h hr=>⟨h.1,h.2.later hr⟩) fun g25 _ _ _ _=>?_;refine g_end fun W26 hw26 hF26=>?_;have b25:=(hF26 6 _ rfl).2;have ge25:=(hF26 6 _ rfl).1
 have n3_25 : g3 ≠ g25:=by have:=b3.lt; omega
 have n17_25 : g17 ≠ g25:=by have:=b17.lt; omega
 have q25 : w.heap.size ≤ g25:=Nat.le_trans hU.size ge25;clear ge25;clear hF26;replace b3:=b3.later hw26;replace b17:=b17.later hw26;replace hU:=hU.step hw26;clear hw26;refine l_set g25 _ ((By (Nums.bytes 32 (sgS seed m))).toArray) rfl rfl rfl rfl rfl b25 (size_H ((bytes_len _ _))) (by rw [len_by ((bytes_len _ _))]; rfl) (By_oneA _) ?_;replace b3:=b3.rowFar n3_25 ((By (Nums.bytes 32 (sgS seed m))).toArray);replace b17:=b17.rowFar n17_25 ((By (Nums.bytes 32 (sgS seed m))).toArray);replace b25:=b25.row ((By (Nums.bytes 32 (sgS seed m))).toArray);replace hU:=up_row hU q25 ((By (Nums.bytes 32 (sgS seed m))).toArray);generalize World.setRow _ g25 ((By (Nums.bytes 32 (sgS seed m))).toArray) = W27 at *;refine l_nil ?_;refine hK _ _ ?_;clear hK K;refine c_seq fun K hK=>?_;refine c_lit ?_;refine l_allocA ((By z64).toArray) rfl rfl rfl rfl zero64 fun W28 g28 hw28 hg28 b28=>?_
 have n3_28 : g3 ≠ g28:=by have:=b3.lt; omega
 have n17_28 : g17 ≠ g28:=by have:=b17.lt; omega
 have n25_28 : g25 ≠ g28:=by have:=b25.lt; omega
 have q28 : w.heap.size ≤ g28:=by rw [hg28]; exact hU.size
 replace b3:=b3.later hw28;replace b17:=b17.later hw28;replace b25:=b25.later hw28;replace hU:=hU.step hw28;clear hw28 hg28;refine l_nil ?_;refine hK _ _ ?_;clear hK K;refine c_seq fun K hK=>?_;refine c_seq fun K2 hK2=>?_;refine c_qF ?_;refine f_assign (.int .i64 0) rfl rfl rfl rfl rfl ?_;refine f_end fun WL hwL=>?_;refine k_sub (E':=FSg g3 g17 g25 g28 0) ⟨rfl,rfl,rfl,rfl,rfl,trivial⟩ ?_;refine hK2 _ _ ?_;refine c_block ?_;refine sig_l (w0:=w) (a:=sgRB seed m) (b:=Nums.bytes 32 (sgS seed m)) (sgRB_len _ _) (bytes_len _ _) n3_28 n17_28 n25_28 q28 ⟨by decide,hU.step hwL,b3.later hwL,b17.later hwL,b25.later hwL,b28.later hwL⟩ fun W hR=>?_;replace hU:=hR.up;have b6:=hR.b6;have b13:=hR.b13;rw [hb_full (sgRB_len _ _),hb_full (bytes_len _ _),show sgRB seed m ++ Nums.bytes 32 (sgS seed m) = sgSig seed m from rfl] at b13;clear hR hwL;refine hK _ _ ?_;clear hK2 K2 hK K;refine c_seq fun K hK=>?_;refine c_gF 1 ?_;refine g_op rfl ?_;refine f_b64 g28 ((sgSig_len _ _)) rfl rfl rfl rfl rfl (fun _ h1=>(h1.1.blk b13).range) ?_;refine g_go ?_;refine g_end fun W29 hw29 hF29=>?_;clear hF29;replace b6:=b6.later hw29;replace hU:=hU.step hw29;clear hw29;refine l_set g3 _ ((By (sgSig seed m)).toArray) rfl rfl rfl rfl rfl b6 (size_64 ((sgSig_len _ _))) (by rw [List.size_toArray,List.size_toArray,By_len,By_len,((sgSig_len _ _))]; rfl) (By_oneA _) ?_;replace b6:=b6.row ((By (sgSig seed m)).toArray);replace hU:=up_row hU q3 ((By (sgSig seed m)).toArray);generalize World.setRow _ g3 ((By (sgSig seed m)).toArray) = W30 at *;refine l_nil ?_;refine hK _ _ ?_;clear hK K;exact c_ret (k_ret_row g3 _ rfl rfl b6 Tryd.underlying32 rfl (size_64 ((sgSig_len _ _))) ⟨rfl,hU⟩)
end Go.Proofs.YtminmeljonbogaaDoor
/-
  THE DOCUMENT'S SIGNATURES: Right.
-/
namespace Go.Proofs.YtminmeljonbogaaDoor
open Go.RowKit Go.IntWalk Nums

end Go.Proofs.YtminmeljonbogaaDoor
/-
  PLAIN NUMBERS: the bytes of a known multiple of the base point, reckoned by the kernel. No program is imported.
-/
namespace Nums
def triZ : Tri:=⟨0,1,1⟩
def triB : Tri:=⟨bx,bY,1⟩
theorem triZ_rep : TriRep triZ Ed.zero:=by
 unfold TriRep triZ
 rw [fof_zero,fof_one];exact Ed.Rep.zero prime_p
theorem triB_rep : TriRep triB base:=by
 unfold TriRep triB
 rw [fof_one]
 have e : ∀ u : F,u = u * 1:=fun u=>by grind only
 exact ⟨fun h=>ne_one prime_p h.symm,e _,e _⟩
theorem tri_mul (n : Nat) (hn : n < 2 ^ 256) : TriRep (triMul 256 n triZ triB) (Ed.mul dd n base):=by
 have h:=triMul_rep 256 n triZ triB Ed.zero base hn Ed.on_zero on_base triZ_rep triB_rep
 rwa [Ed.zero_add good] at h
def encTri (t : Tri) (zi : Nat) : List UInt8:=forced (t.y * zi % p) fun y=>forced (t.x * zi % p % 2) fun o=>bytes 32 (y + 57896044618658097711785492504343953926634992332820282019728792003956564819968 * o)
theorem enc_tri {t : Tri} {A : Ed.Pt p} (h : TriRep t A) {zi : Nat} (hz : t.z * zi % p = 1) : encP A = encTri t zi:=by
 have h1 : fof t.z * fof zi = 1:=by
  rw [← fof_mul,← fof_one];exact fof_eq (by rw [hz]; decide)
 have hf : finv (fof t.z) = fof zi:=finv_of prime_p h1;have ha:=h.aff prime_p;rw [hf,← fof_mul,← fof_mul] at ha
 unfold encTri
 simp only [forced_eq];rw [encP,encN,← ha.1,← ha.2,fof_val,fof_val]
theorem enc_mul (n zi : Nat) (b : List UInt8) (hn : n < 2 ^ 256) (h : (forced (triMul 256 n triZ triB).z fun z=>decide (z * zi % p = 1)) = true) (hb : encTri (triMul 256 n triZ triB) zi = b) : encP (Ed.mul dd n base) = b:=by
 rw [forced_eq] at h;rw [enc_tri (tri_mul n hn) (of_decide_eq_true h),hb]
end Nums
/-
  PLAIN NUMBERS: digests reckoned by the kernel: each word once. No program is imported.
-/
namespace Nums

def xsl (s : Sha) (b : List UInt8) : Nat → List Nat
  | 0=>[]
  | t + 1=>sx s b t :: xsl s b t
theorem xsl_len (s : Sha) (b : List UInt8) : ∀ t,(xsl s b t).length = t
 | 0=>rfl
 | t + 1=>by rw [xsl,List.length_cons,xsl_len]
theorem xsl_at (s : Sha) (b : List UInt8) : ∀ t j,j < t → (xsl s b t)[j]! = sx s b (t - 1 - j)
 | 0,_,h=>absurd h (by omega)
 | t + 1,0,_=>by
  show (sx s b t :: xsl s b t)[0]! = _
  rw [Nat.add_sub_cancel,Nat.sub_zero]
  rfl
 | t + 1,j + 1,h=>by
  show (sx s b t :: xsl s b t)[j + 1]! = _
  have e : (sx s b t :: xsl s b t)[j + 1]! = (xsl s b t)[j]!:=by simp
  rw [e,xsl_at s b t j (by omega)]
  congr 1
  omega
def firstF (s : Sha) (b : List UInt8) : Nat → List Nat
  | 0=>[]
  | t + 1=>forced (bword s b t) fun v=>v :: firstF s b t
theorem firstF_eq (s : Sha) (b : List UInt8) : ∀ t,t ≤ 16 → firstF s b t = xsl s b t
 | 0,_=>rfl
 | t + 1,h=>by
  have e : sx s b t = bword s b t:=by rw [sx,dif_pos (by omega)]
  rw [firstF,forced_eq,xsl,firstF_eq s b t (by omega),e]
def grow (s : Sha) : Nat → List Nat → List Nat
  | 0,L=>L
  | k + 1,L=>forced ((loww s.w s.low1 L[1]! + L[6]! + loww s.w s.low0 L[14]! + L[15]!) % 2 ^ s.w) fun v=>grow s k (v :: L)
theorem grow_eq (s : Sha) (b : List UInt8) : ∀ k t,16 ≤ t → grow s k (xsl s b t) = xsl s b (t + k)
 | 0,_,_=>rfl
 | k + 1,t,h=>by
  have e : (loww s.w s.low1 (xsl s b t)[1]! + (xsl s b t)[6]! + loww s.w s.low0 (xsl s b t)[14]! + (xsl s b t)[15]!) % 2 ^ s.w = sx s b t:=by
   rw [xsl_at s b t 1 (by omega),xsl_at s b t 6 (by omega),xsl_at s b t 14 (by omega),xsl_at s b t 15 (by omega)]
   conv=>rhs; rw [sx,dif_neg (by omega)]
   rw [show t - 1 - 1 = t - 2 from by omega,show t - 1 - 6 = t - 7 from by omega,show t - 1 - 14 = t - 15 from by omega,show t - 1 - 15 = t - 16 from by omega]
  rw [grow,forced_eq,e];have h2:=grow_eq s b k (t + 1) (by omega);rw [xsl] at h2;rw [h2]
  congr 1
  omega
def rndF (s : Sha) : List Nat → Nat → Oct → Oct
  | [],_,o=>o
  | x :: r,t,o=>forced (t1w s (s.k t) x o) fun T=>forced ((T + t2w s o) % 2 ^ s.w) fun A=>forced ((o.d + T) % 2 ^ s.w) fun E=>rndF s r (t + 1) ⟨A,o.a,o.b,o.c,E,o.e,o.f,o.g⟩
theorem rndF_eq (s : Sha) (b : List UInt8) (o : Oct) : ∀ (l : List Nat) (t : Nat),(∀ j x,l[j]? = some x → x = sx s b (t + j)) → rndF s l t (rnds s b o t) = rnds s b o (t + l.length)
 | [],_,_=>rfl
 | x :: r,t,h=>by
  have hx:=h 0 x rfl;rw [Nat.add_zero] at hx;subst hx;rw [rndF];simp only [forced_eq];have h2:=rndF_eq s b o r (t + 1) (fun j x hj=>by rw [h (j + 1) x (by simpa using hj)]; congr 1; omega);rw [show rnds s b o (t + 1) = rnd s (s.k t) (sx s b t) (rnds s b o t) from rfl] at h2;rw [show t + (sx s b t :: r).length = t + 1 + r.length from by rw [List.length_cons]; omega,← h2]
  rfl
def add8F (w : Nat) (o q : Oct) : Oct :=
  forced ((o.a + q.a) % 2 ^ w) fun a=>forced ((o.b + q.b) % 2 ^ w) fun b=>forced ((o.c + q.c) % 2 ^ w) fun c=>forced ((o.d + q.d) % 2 ^ w) fun d =>
  forced ((o.e + q.e) % 2 ^ w) fun e=>forced ((o.f + q.f) % 2 ^ w) fun f=>forced ((o.g + q.g) % 2 ^ w) fun g=>forced ((o.h + q.h) % 2 ^ w) fun h=>⟨a,b,c,d,e,f,g,h⟩
theorem add8F_eq (w : Nat) (o q : Oct) : add8F w o q = add8 w o q:=by
 unfold add8F
 simp only [forced_eq]
 rfl
def turnF (s : Sha) (o : Oct) (b : List UInt8) : Oct:=add8F s.w o (rndF s (grow s (s.n - 16) (firstF s b 16)).reverse 0 o)
theorem turnF_eq {s : Sha} (hn : 16 ≤ s.n) (o : Oct) (b : List UInt8) : turnF s o b = turnw s o b:=by
 rw [turnF,add8F_eq,turnw,firstF_eq s b 16 (Nat.le_refl _),grow_eq s b _ 16 (Nat.le_refl _),show 16 + (s.n - 16) = s.n from by omega]
 congr 1
 have h:=rndF_eq s b o (xsl s b s.n).reverse 0 (fun j x hj=>by
  have hl : j < (xsl s b s.n).reverse.length:=(List.getElem?_eq_some_iff.1 hj).1;rw [List.length_reverse,xsl_len] at hl;rw [List.getElem?_reverse (by rw [xsl_len]; exact hl),xsl_len] at hj;have h1:=xsl_at s b s.n (s.n - 1 - j) (by omega);rw [List.getElem!_eq_getElem?_getD,hj] at h1;rw [show 0 + j = s.n - 1 - (s.n - 1 - j) from by omega,← h1]
  rfl)
 rw [List.length_reverse,xsl_len,Nat.zero_add] at h;exact h
def runF (s : Sha) (B : Nat) : Nat → Oct → List UInt8 → Oct
  | 0,o,_=>o
  | k + 1,o,l=>runF s B k (turnF s o (l.take B)) (l.drop B)
theorem runF_eq {s : Sha} {B : Nat} (hB : 0 < B) (hn : 16 ≤ s.n) : ∀ k o l,l.length = k * B → runF s B k o l = runw s B o l
 | 0,o,l,h=>by
  have h0 : l = []:=List.eq_nil_of_length_eq_zero (by omega);subst h0;rw [runF,runw_short (by simpa using hB)]
 | k + 1,o,l,h=>by
  have hl : (l.take B).length = B:=by rw [List.length_take,h,Nat.add_mul]; omega
  have hd : (l.drop B).length = k * B:=by rw [List.length_drop,h,Nat.add_mul]; omega
  rw [runF,turnF_eq hn,runF_eq hB hn k _ _ hd]
  conv=>rhs; rw [← List.take_append_drop B l,runw_block hB hl]
def digestF (s : Sha) (n : Nat) (m : List UInt8) : List UInt8 :=
  ((runF s (2 * s.w) n ⟨s.start[0]!,s.start[1]!,s.start[2]!,s.start[3]!,s.start[4]!,s.start[5]!,s.start[6]!,s.start[7]!⟩ (m ++ tailw (2 * s.w) (m.length % (2 * s.w)) (8 * m.length))).list.map (layw s)).flatten
theorem digest_eq {s : Sha} (n : Nat) (m : List UInt8) (hw : 0 < 2 * s.w) (hn : 16 ≤ s.n) (h : (m ++ tailw (2 * s.w) (m.length % (2 * s.w)) (8 * m.length)).length = n * (2 * s.w)) : digest s m = digestF s n m:=by
 rw [digest,sumw,digestF,runF_eq hw hn n _ _ h]
end Nums
/-
  PLAIN NUMBERS: the signature of 'a' by the seed 1, reckoned.
-/
namespace Go.Proofs.YtminmeljonbogaaDoor
open Nums

theorem d_one : sgD oneB = [206,12,38,94,204,130,221,140,238,110,86,206,68,228,93,175,215,160,197,117,13,249,20,178,83,161,251,122,138,246,109,219,153,118,54,7,240,168,93,11,212,54,105,25,74,58,64,87,122,82,138,243,149,244,241,126,6,241,222,252,198,222,178,165]:=by
 unfold sgD
 rw [digest_eq 1 _ (by decide) (by decide) (by decide +kernel)]
 decide +kernel
theorem ab_one : sgAB oneB = [200,12,38,94,204,130,221,140,238,110,86,206,68,228,93,175,215,160,197,117,13,249,20,178,83,161,251,122,138,246,109,91]:=by
 rw [sgAB,d_one]
 decide +kernel
theorem a_one : le (sgAB oneB) = 41354757114163650016304086911142683682198188400503391378057401993857692208328:=by
 rw [ab_one]
 decide +kernel
theorem key_one : sgKey oneB = [206,204,21,7,220,29,221,114,149,149,28,41,8,136,240,149,173,185,4,77,27,115,214,150,230,223,6,93,104,59,212,252]:=by
 rw [sgKey,a_one];exact enc_mul _ 32737897441611558381963852900261925463262532777030881128296994126400953990578 _ (by decide) (by decide +kernel) (by decide +kernel)
theorem pre_one : sgPre oneB = [153,118,54,7,240,168,93,11,212,54,105,25,74,58,64,87,122,82,138,243,149,244,241,126,6,241,222,252,198,222,178,165]:=by
 rw [sgPre,d_one]
 decide +kernel
theorem r_one : sgR oneB [97] = 3074186201944897198078527609885529445307900368435549988070374619371579677415:=by
 rw [sgR,pre_one];rw [digest_eq 1 _ (by decide) (by decide) (by decide +kernel)]
 decide +kernel
theorem rb_one : sgRB oneB [97] = [222,230,150,190,162,57,102,46,103,239,222,218,202,143,82,47,127,122,238,17,43,215,179,107,123,33,250,35,237,226,2,31]:=by
 rw [sgRB,r_one];exact enc_mul _ 48853289196050390018626512990030386311778699772629295210228896671331256438033 _ (by decide) (by decide +kernel) (by decide +kernel)
theorem ka_one : sgK [222,230,150,190,162,57,102,46,103,239,222,218,202,143,82,47,127,122,238,17,43,215,179,107,123,33,250,35,237,226,2,31] [206,204,21,7,220,29,221,114,149,149,28,41,8,136,240,149,173,185,4,77,27,115,214,150,230,223,6,93,104,59,212,252] [97] = 6285308940129792820454355301134625136493137520830403794332846006747471739295:=by
 have e : [222,230,150,190,162,57,102,46,103,239,222,218,202,143,82,47,127,122,238,17,43,215,179,107,123,33,250,35,237,226,2,31] ++ ([206,204,21,7,220,29,221,114,149,149,28,41,8,136,240,149,173,185,4,77,27,115,214,150,230,223,6,93,104,59,212,252] ++ [97]) = ([222,230,150,190,162,57,102,46,103,239,222,218,202,143,82,47,127,122,238,17,43,215,179,107,123,33,250,35,237,226,2,31,206,204,21,7,220,29,221,114,149,149,28,41,8,136,240,149,173,185,4,77,27,115,214,150,230,223,6,93,104,59,212,252,97] : List UInt8):=by decide +kernel
 rw [sgK,e];clear e;rw [digest_eq 1 _ (by decide) (by decide) (by decide +kernel)]
 decide +kernel
theorem kb_one : sgK [222,230,150,190,162,57,102,46,103,239,222,218,202,143,82,47,127,122,238,17,43,215,179,107,123,33,250,35,237,226,2,31] [206,204,21,7,220,29,221,114,149,149,28,41,8,136,240,149,173,185,4,77,27,115,214,150,230,223,6,93,104,59,212,252] [98] = 262307218321006939220002667173930045618374775600874168278653889227109580481:=by
 have e : [222,230,150,190,162,57,102,46,103,239,222,218,202,143,82,47,127,122,238,17,43,215,179,107,123,33,250,35,237,226,2,31] ++ ([206,204,21,7,220,29,221,114,149,149,28,41,8,136,240,149,173,185,4,77,27,115,214,150,230,223,6,93,104,59,212,252] ++ [98]) = ([222,230,150,190,162,57,102,46,103,239,222,218,202,143,82,47,127,122,238,17,43,215,179,107,123,33,250,35,237,226,2,31,206,204,21,7,220,29,221,114,149,149,28,41,8,136,240,149,173,185,4,77,27,115,214,150,230,223,6,93,104,59,212,252,98] : List UInt8):=by decide +kernel
 rw [sgK,e];clear e;rw [digest_eq 1 _ (by decide) (by decide) (by decide +kernel)]
 decide +kernel
theorem not_b : ¬ Right (sgKey oneB) (sgSig oneB [97]) [98]:=fun h=>by
 have h1:=right_msg (right_own oneB [97]) h;rw [sgSig_take,key_one,rb_one,ka_one,kb_one] at h1;exact absurd h1 (by decide)
theorem not_bit {seed m : List UInt8} {y : UInt8} (h : y ≠ (sgSig seed m)[40]!) : ¬ Right (sgKey seed) ((sgSig seed m).set 40 y) m:=fun hr=>by
 have hl:=sgSig_len seed m;have ho:=right_own seed m
 have ht : ((sgSig seed m).set 40 y).take 32 = (sgSig seed m).take 32:=by rw [List.take_set,List.set_eq_of_length_le (by rw [List.length_take,hl]; decide)]
 have h1:=right_one ho hr ht.symm;have h2:=le_inj (by rw [List.length_drop,List.length_drop,List.length_set]) h1;have h3:=congrArg (fun l=>l[8]!) h2;rw [getElem!_pos _ 8 (by rw [List.length_drop,hl]; decide),getElem!_pos _ 8 (by rw [List.length_drop,List.length_set,hl]; decide),List.getElem_drop,List.getElem_drop,List.getElem_set_self] at h3;exact h (by rw [getElem!_pos _ 40 (by omega)]; exact h3.symm)
end Go.Proofs.YtminmeljonbogaaDoor
/-
  STEPS OF THE SIGNATURES' LAWS: slices of bytes, new ones and parts; lengths; '==' of signatures.
-/
namespace Go.Proofs.YtminmeljonbogaaDoor
open Go.RowKit Go.IntWalk Nums

theorem equal64 (l m : List UInt8) (hl : l.length = 64) (hm : m.length = 64) (w : World) : (Op.equalIn 10000 32 (.agg (By l).toArray) (.agg (By m).toArray)).run Tryd.prog w = .ok (decide (l = m)) w:=equalIn_bytes 9998 64 32 l m Tryd.underlying32 hl hm w
section
variable {ops : Array Oper} {C0 : World → Prop} {Q : Act → Prop} {N : Nat} {E : List (Nat × Value)} {o : Oper} {rest : List Oper} {k : Nat}
theorem f_xorB {x y : Operand} {t : TypeId} (m n r : Int) (hg : o.guard = none) (hd : o.dst = some k) (hk : Nat.blt k N = true) (ho : o.op = .binOp .xor 5 x y t) (hx : ev E x = some (.int .u8 m)) (hy : ev E y = some (.int .u8 n))
  (hr : bits .xor .u8 m n = r) (hn : bF Tryd.prog ops C0 Q rest N ((k,.int .u8 r) :: E)) : bF Tryd.prog ops C0 Q (o :: rest) N E :=
 f_val _ hg hd hk (fun a ha w _=>by
  have h1:=ha.eval hx;have h2:=ha.eval hy
  unfold execOp
  simp only [ho,h1,h2]
  go_simp) hn
theorem f_minI {x y : Operand} (p q : Nat) (hg : o.guard = none) (hd : o.dst = some k) (hk : Nat.blt k N = true) (ho : o.op = .call { callee:=.builtin .min,args:=#[x,y],argTypes:=#[3,3] }) (hx : ev E x = some (.int .i64 (p : Int))) (hy : ev E y = some (.int .i64 (q : Int)))
  (hn : bF Tryd.prog ops C0 Q rest N ((k,.int .i64 ((min p q : Nat) : Int)) :: E)) : bF Tryd.prog ops C0 Q (o :: rest) N E :=
 f_val _ hg hd hk (fun a ha w _=>by
  have h1:=ha.eval hx;have h2:=ha.eval hy
  unfold execOp
  simp only [ho];generalize a.eval = ρ at *
  go_simp
  split <;> omega) hn
theorem f_cutHi {x y : Operand} (A : Option Addr) (n c j : Nat) (hj : j ≤ c) (hA : A = none → c = 0) (hg : o.guard = none) (hd : o.dst = some k) (hk : Nat.blt k N = true) (ho : o.op = .slice 23 x none (some y) none) (hx : ev E x = some (.slice A n c)) (hy : ev E y = some (.int .i64 (j : Int)))
  (hn : bF Tryd.prog ops C0 Q rest N ((k,.slice A j c) :: E)) : bF Tryd.prog ops C0 Q (o :: rest) N E :=
 f_val _ hg hd hk (fun a ha w _=>by
  have h1:=ha.eval hx;have h2:=ha.eval hy
  have h3 : (j : Int) ≤ (c : Int):=by omega
  have h4 : (0 : Int) ≤ (j : Int):=by omega
  unfold execOp
  simp only [ho];generalize a.eval = ρ at *;simp only [Option.map,h1,h2]
  cases A with
  | none =>
   have:=hA rfl;obtain rfl : c = 0:=this
   obtain rfl : j = 0:=by omega
   go_simp
  | some ad=>go_simp) hn
theorem f_cutLo {x y : Operand} (A : Option Addr) (n c j : Nat) (hj : j ≤ n) (hc : n ≤ c) (hA : A = none → c = 0) (hg : o.guard = none) (hd : o.dst = some k) (hk : Nat.blt k N = true) (ho : o.op = .slice 23 x (some y) none none) (hx : ev E x = some (.slice A n c)) (hy : ev E y = some (.int .i64 (j : Int)))
  (hn : bF Tryd.prog ops C0 Q rest N ((k,.slice (if c = j then A else A.map (·.add j)) (n - j) (c - j)) :: E)) : bF Tryd.prog ops C0 Q (o :: rest) N E :=
 f_val _ hg hd hk (fun a ha w _=>by
  have h1:=ha.eval hx;have h2:=ha.eval hy
  have h3 : (j : Int) ≤ (n : Int):=by omega
  have h4 : (0 : Int) ≤ (j : Int):=by omega
  have h5 : (n : Int) ≤ (c : Int):=by omega
  unfold execOp
  simp only [ho];generalize a.eval = ρ at *;simp only [Option.map,h1,h2]
  cases A with
  | none =>
   have:=hA rfl;obtain rfl : c = 0:=this
   obtain rfl : n = 0:=by omega
   obtain rfl : j = 0:=by omega
   go_simp
  | some ad=>go_simp) hn
theorem f_uint {x : Operand} (m r : Int) (hg : o.guard = none) (hd : o.dst = some k) (hk : Nat.blt k N = true) (ho : o.op = .convert 3 25 x) (hx : ev E x = some (.int .i64 m)) (hr : IntKind.u64.wrap m = r)
  (hn : bF Tryd.prog ops C0 Q rest N ((k,.int .u64 r) :: E)) : bF Tryd.prog ops C0 Q (o :: rest) N E :=
 f_val _ hg hd hk (fun a ha w _=>by
  have h1:=ha.eval hx;subst hr
  unfold execOp
  simp only [ho,h1]
  go_simp) hn
theorem f_remV {x y : Operand} {t : TypeId} (m n r : Int) (hz : n ≠ 0) (hg : o.guard = none) (hd : o.dst = some k) (hk : Nat.blt k N = true) (ho : o.op = .binOp .rem 25 x y t) (hx : ev E x = some (.int .u64 m)) (hy : ev E y = some (.int .u64 n))
  (hr : m.tmod n = r) (hn : bF Tryd.prog ops C0 Q rest N ((k,.int .u64 r) :: E)) : bF Tryd.prog ops C0 Q (o :: rest) N E :=
 f_val _ hg hd hk (fun a ha w _=>by
  have h1:=ha.eval hx;have h2:=ha.eval hy;subst hr
  unfold execOp
  simp only [ho,h1,h2]
  go_simp) hn
theorem f_eqs64 {t t' : TypeId} {x y : Operand} (l : List UInt8) (hg : o.guard = none) (hd : o.dst = some k) (hk : Nat.blt k N = true) (ho : o.op = .binOp .eql t x y t') (ht : t = 32) (hx : ev E x = some (.agg (By l).toArray)) (hy : ev E y = some (.agg (By l).toArray))
  (hl : l.length = 64) (hn : bF Tryd.prog ops C0 Q rest N ((k,.bool true) :: E)) : bF Tryd.prog ops C0 Q (o :: rest) N E:=by
 subst ht
 exact f_eq (By l).toArray (By l).toArray hg hd hk ho hx hy (by kernel_rfl) (fun w=>by
  have:=equal64 l l hl hl w
  rwa [decide_eq_true rfl] at this) hn
end

/-! ### Regions whose order is forced -/
section
variable {P : Program} {ops : Array Oper} {Q : Exit → Act → World → Prop} {N : Nat} {E : List (Nat × Value)} {w : World} {o : Oper} {rest l : List Oper} {k : Nat}
theorem l_ops (m : Nat) (h : bF P ops (Up w) (fun a'=>∀ w',Up w w' → wpList P ops Q (l.drop m) a' w') (l.take m) N E) : lF P ops Q l N E w:=fun a ha=>by
 have h1:=wpList_of_B (Q:=Q) (T:=l.drop m) (l.take m) a w w (Up.refl w) (h a ha)
 rwa [List.take_append_drop] at h1
def WG (ops : Array Oper) (N : Nat) (E : List (Nat × Value)) (o : Oper) : Prop:=o.guard = none ∨ ∃ j b t,o.guard = some (j,b) ∧ (ops[j]?).bind (·.dst) = some t ∧ Nat.blt t N = true ∧ look E t = some (.bool b)
theorem WG.wanted {a : Act} (h : WG ops N E o) (ha : Fr N E a) : Region.wanted o (yielded ops a.tmps) = true:=by
 rcases h with h | ⟨j,b,t,hgd,hj,hN,ht⟩
 ·simp [Region.wanted,h]
 ·have htN : t < a.tmps.size:=by rw [ha.size]; simpa using hN
  have h2:=ha.get t _ ht
  have h3 : a.tmps[t]? = some (.bool b):=by
   simp only [Act.eval,Array.getD_eq_getD_getElem?] at h2;rw [Array.getElem?_eq_getElem htN] at h2 ⊢
   simpa using h2
  unfold Region.wanted
  rw [hgd]
  simp [yielded,hj,h3]
theorem l_guard (hw : WG ops N E o) (h : lF P ops Q ({ o with guard:=none } :: rest) N E w) : lF P ops Q (o :: rest) N E w:=fun a ha=>by
 have h1:=h a ha;obtain ⟨dst,op,ty,pos,af,gd⟩:=o
 unfold wpList at h1 ⊢
 rw [if_pos (hw.wanted ha)];rw [if_pos (by rfl)] at h1;exact h1
theorem l_valW (v : Value) (w' : World) (hw : WG ops N E o) (hd : o.dst = some k) (hk : Nat.blt k N = true) (h : ∀ a,Fr N E a → (execOp a.eval o).run P w = .ok (.value v) w') (hn : lF P ops Q rest N ((k,v) :: E) w') : lF P ops Q (o :: rest) N E w:=fun a ha=>by
 have h1:=h a ha;have h2:=hn _ (ha.put hk v)
 unfold wpList
 rw [if_pos (hw.wanted ha)];refine .inl ?_
 unfold Oper.wp
 rw [h1];simp only [Oper.upon,hd];exact h2
end
section
variable {ops : Array Oper} {Q : Exit → Act → World → Prop} {N : Nat} {E : List (Nat × Value)} {w : World} {o o2 : Oper} {rest : List Oper} {k k2 : Nat}
theorem l_lit1 {x : Operand} (y : UInt8) (hw : WG ops N E o) (hd : o.dst = some k) (hk : Nat.blt k N = true) (ho : o.op = .buildSlice 23 1 #[(0,x)]) (hx : ev E x = some (.int .u8 (y.toNat : Int)))
  (hw2 : ∀ v,WG ops N ((k,v) :: E) o2) (hd2 : o2.dst = some k2) (hk2 : Nat.blt k2 N = true) (ho2 : o2.op = .convert 23 23 (.tmp k))
  (hn : ∀ W g,Up w W → SB W (.slice (some ⟨g,0,none⟩) 1 1) [y] → lF Tryd.prog ops Q rest N ((k2,.slice (some ⟨g,0,none⟩) 1 1) :: (k,.slice (some ⟨g,0,none⟩) 1 1) :: E) W) : lF Tryd.prog ops Q (o :: o2 :: rest) N E w:=by
 refine l_valW (.slice (some ⟨w.heap.size,0,none⟩) 1 1) (w.alloc (.cells (By [y]).toArray 5)) hw hd hk (fun a ha=>?_) ?_
 ·have h1:=ha.eval hx
  have hr:=run_slice1B (y.toNat : Int) w
  unfold execOp
  simp only [ho,List.map_toArray,List.map_cons,List.map_nil,h1,Sem.run_bind,hr,Result.andThen_ok,Sem.run_pure]
  rfl
 ·refine l_valW (.slice (some ⟨w.heap.size,0,none⟩) 1 1) (w.alloc (.cells (By [y]).toArray 5 (1,2))) (hw2 _) hd2 hk2 (fun a ha=>?_) (hn _ w.heap.size ((Up.refl w).alloc _) ?_)
  ·have h1 : a.eval (.tmp k) = .slice (some ⟨w.heap.size,0,none⟩) 1 1:=ha.get k _ (by rw [look_cons,if_pos rfl])
   have hr:=Lib.run_convert_bytes_const (P:=Tryd.prog) w 23 5 (By [y]).toArray 1 1 Tryd.underlying23 Tryd.underlying5
   unfold execOp
   simp only [ho2,h1,Sem.run_bind,hr,Result.andThen_ok,Sem.run_pure]
   rfl
  ·have hc : (w.alloc (.cells (By [y]).toArray 5 (1,2))).heap[w.heap.size]? = some (.cells (By [y]).toArray 5 (1,2)):=heap_alloc_new w _
   have hsz : (w.alloc (.cells (By [y]).toArray 5 (1,2))).heap.size = w.heap.size + 1:=World.size_alloc _ _;refine ⟨some ⟨w.heap.size,0,none⟩,1,rfl,Nat.le_refl _,by decide,fun h=>(by cases h),fun _=>⟨_,rfl,Nat.zero_le _,by rw [hsz]; exact Nat.lt_succ_self _,fun j u hu=>?_⟩⟩
   cases j with
   | zero =>
    simp only [List.getElem?_cons_zero,Option.some.injEq] at hu;subst hu;rw [Addr.add_mid,cell_of_row _ _ _ _ _ _ hc]
    rfl
   | succ j=>simp at hu
theorem l_slices {n : Nat} {parts : Array (Nat × Operand)} (vs : List Value) (ls : List (List UInt8)) (hw : WG ops N E o) (hd : o.dst = some k) (hk : Nat.blt k N = true) (ho : o.op = .buildSlice 63 n parts)
  (hv : parts.toList.map (fun p=>(p.1,ev E p.2)) = (vs.zipIdx 0).map fun x=>(x.2,some x.1)) (hn : vs.length = n) (h0 : 0 < n) (h24 : n ≤ 16777216) (hA : All2 w vs ls)
  (hk2 : ∀ W g,Up w W → PT W (some ⟨g,0,none⟩) ls → lF Tryd.prog ops Q rest N ((k,.slice (some ⟨g,0,none⟩) n n) :: E) W) : lF Tryd.prog ops Q (o :: rest) N E w:=by
 have hal:=(Below.refl w.heap.size w).alloc (Nat.le_refl _) (.cells vs.toArray 23);have hN : NewS w.heap.size vs ls w.heap.size (w.alloc (.cells vs.toArray 23)):=⟨Nat.le_refl _,Blk.new w _ _,All2.later hal hA⟩;refine l_valW (.slice (some ⟨w.heap.size,0,none⟩) n n) (w.alloc (.cells vs.toArray 23)) hw hd hk (fun a ha=>?_) (hk2 _ w.heap.size hal hN.pt)
 have hm : ∀ (l : List (Nat × Operand)) (m : List (Value × Nat)),l.map (fun p=>(p.1,ev E p.2)) = m.map (fun x=>(x.2,some x.1)) → l.map (fun (i,x)=>(i,a.eval x)) = m.map fun x=>(x.2,x.1):=by
  intro l
  induction l with
  | nil=>intro m h; cases m with
   | nil=>rfl
   | cons=>cases h
  | cons p l ih=>intro m h; cases m with
   | nil=>cases h
   | cons u m =>
    simp only [List.map_cons,List.cons.injEq,Prod.mk.injEq] at h ⊢;exact ⟨⟨h.1.1,ha.eval h.1.2⟩,ih m h.2⟩
 have hr:=run_slices vs n (parts.map fun (i,x)=>(i,a.eval x)) (by rw [Array.toList_map]; exact hm _ _ hv) hn h0 h24 (fun v hv=>(hA.one v hv).1) w
 unfold execOp
 simp only [ho,Sem.run_bind,hr,Result.andThen_ok,Sem.run_pure]
end
theorem xor1 (m : Nat) (h : m < 256) : bits .xor .u8 (m : Int) 1 = ((if m % 2 = 0 then m + 1 else m - 1 : Nat) : Int):=by
 have key : ∀ m : Nat,m < 256 → bits .xor .u8 (m : Int) 1 = ((if m % 2 = 0 then m + 1 else m - 1 : Nat) : Int):=by decide +kernel
 exact key m h
end Go.Proofs.YtminmeljonbogaaDoor
/-
  THE SIGNATURES' LAWS: first.
-/
namespace Go.Proofs.YtminmeljonbogaaDoor
open Go.RowKit Go.IntWalk Nums

theorem own_lfirst6 : Own 7:=fun _ _=>by go_simp
open Classical in
set_option maxRecDepth 100000 in
set_option maxHeartbeats 2000000 in
theorem lfirst6_f (w : World) (hT : Ta w) :
  Calls Tryd.prog 7 #[] w fun e w'=>e = .returned (.bool true) ∧ Below w.heap.size w w':=by
 refine calls_F (vs:=[]) 40 Tryd.func7 rfl (by rw [Tryd.ntmps7]; rfl) ?_;have hU:=Up.refl w;have hv1 : rightB (sgKey oneB) (sgSig oneB [97]) [97] = true:=decide_eq_true (right_own _ _);have hv2 : rightB (sgKey oneB) (sgSig oneB [97]) [98] = false:=decide_eq_false not_b;refine c_seq fun K hK=>?_;refine c_lit ?_;refine l_ops 1 ?_;refine f_assign (.bool false) rfl rfl rfl rfl rfl ?_;refine f_tail fun W1 hw1=>?_;replace hU:=hU.step hw1;clear hw1;refine l_nil ?_;refine hK _ _ ?_;clear hK K;refine c_seq fun K hK=>?_;refine c_lit ?_;refine l_ops 1 ?_;refine f_build [(0,.int .u8 1)] (By oneB).toArray rfl rfl rfl rfl rfl builtOne ?_;refine f_tail fun W2 hw2=>?_;replace hU:=hU.step hw2;clear hw2;refine l_ops 1 ?_;refine f_call #[.agg (By oneB).toArray] (.agg (By (sgKey oneB)).toArray) rfl rfl rfl own_public (fun w1 h1=>public_f (rfl : oneB.length = 32) w1 (hT.below (hU.step h1))) rfl rfl ?_;refine f_tail fun W3 hw3=>?_;replace hU:=hU.step hw3;clear hw3;refine l_allocA z32 rfl rfl rfl rfl (by kernel_rfl) fun W4 g4 hw4 hg4 b4=>?_
 have q4 : w.heap.size ≤ g4:=by rw [hg4]; exact hU.size
 replace hU:=hU.step hw4;clear hw4 hg4;refine l_set g4 _ ((By (sgKey oneB)).toArray) rfl rfl rfl rfl rfl b4 (size_H ((sgKey_len _))) (by rw [len_by ((sgKey_len _))]; rfl) (By_oneA _) ?_;replace b4:=b4.row ((By (sgKey oneB)).toArray);replace hU:=up_row hU q4 ((By (sgKey oneB)).toArray);generalize World.setRow _ g4 ((By (sgKey oneB)).toArray) = W5 at *;refine l_nil ?_;refine hK _ _ ?_;clear hK K;refine c_seq fun K hK=>?_;refine c_lit ?_;refine l_ops 1 ?_;refine f_build [(0,.int .u8 1)] (By oneB).toArray rfl rfl rfl rfl rfl builtOne ?_;refine f_tail fun W6 hw6=>?_;replace b4:=b4.later hw6;replace hU:=hU.step hw6;clear hw6;refine l_lit1 97 (.inl rfl) rfl rfl rfl rfl (fun _=>(.inl rfl)) rfl rfl rfl fun W7 gl7 hw7 hb7=>?_;replace b4:=b4.later hw7;replace hU:=hU.step hw7;clear hw7;refine l_slices [.slice (some ⟨gl7,0,none⟩) 1 1] [[97]] (.inl rfl) rfl rfl rfl rfl rfl (by decide) (by decide) ⟨hb7,trivial⟩ fun W8 gs8 hw8 hp8=>?_;replace b4:=b4.later hw8;replace hb7:=hb7.later hw8;replace hU:=hU.step hw8;clear hw8;refine l_ops 1 ?_
 refine f_call #[.agg (By oneB).toArray,.slice (some ⟨gs8,0,none⟩) 1 1] (.agg (By (sgSig oneB [97])).toArray) rfl rfl rfl own_sign (fun w1 h1=>by
   have:=sign_f (seed:=oneB) (P:=some ⟨gs8,0,none⟩) (ls:=[[97]]) (pc:=1) (rfl : oneB.length = 32) w1 (hT.below (hU.step h1)) (hp8.later h1) (fun e=>by cases e) (by simp)
   rwa [show ([[97]] : List (List UInt8)).flatten = [97] from rfl] at this) rfl rfl ?_
 refine f_tail fun W9 hw9=>?_;replace b4:=b4.later hw9;replace hb7:=hb7.later hw9;replace hp8:=hp8.later hw9;replace hU:=hU.step hw9;clear hw9;refine l_allocA ((By z64).toArray) rfl rfl rfl rfl zero64 fun W10 g10 hw10 hg10 b10=>?_
 have n4_10 : g4 ≠ g10:=by have:=b4.lt; omega
 have q10 : w.heap.size ≤ g10:=by rw [hg10]; exact hU.size
 replace b4:=b4.later hw10;replace hb7:=hb7.later hw10;replace hp8:=hp8.later hw10;replace hU:=hU.step hw10;clear hw10 hg10;refine l_set g10 _ ((By (sgSig oneB [97])).toArray) rfl rfl rfl rfl rfl b10 (size_64 ((sgSig_len _ _))) (by rw [List.size_toArray,List.size_toArray,By_len,By_len,((sgSig_len _ _))]; rfl) (By_oneA _) ?_;replace b4:=b4.rowFar n4_10 ((By (sgSig oneB [97])).toArray);replace b10:=b10.row ((By (sgSig oneB [97])).toArray);replace hU:=up_row hU q10 ((By (sgSig oneB [97])).toArray);generalize World.setRow _ g10 ((By (sgSig oneB [97])).toArray) = W11 at *;refine l_nil ?_;clear hb7;clear hp8;refine hK _ _ ?_;clear hK K;refine c_seq fun K hK=>?_;refine c_lit ?_;refine l_ops 1 ?_;refine f_b64 g10 ((sgSig_len _ _)) rfl rfl rfl rfl rfl (fun _ h1=>(h1.blk b10).range) ?_;refine f_tail fun W12 hw12=>?_;replace b4:=b4.later hw12;replace b10:=b10.later hw12;replace hU:=hU.step hw12;clear hw12;refine l_allocA ((By z64).toArray) rfl rfl rfl rfl zero64 fun W13 g13 hw13 hg13 b13=>?_
 have n4_13 : g4 ≠ g13:=by have:=b4.lt; omega
 have n10_13 : g10 ≠ g13:=by have:=b10.lt; omega
 have q13 : w.heap.size ≤ g13:=by rw [hg13]; exact hU.size
 replace b4:=b4.later hw13;replace b10:=b10.later hw13;replace hU:=hU.step hw13;clear hw13 hg13;refine l_set g13 _ ((By (sgSig oneB [97])).toArray) rfl rfl rfl rfl rfl b13 (size_64 ((sgSig_len _ _))) (by rw [List.size_toArray,List.size_toArray,By_len,By_len,((sgSig_len _ _))]; rfl) (By_oneA _) ?_;replace b4:=b4.rowFar n4_13 ((By (sgSig oneB [97])).toArray);replace b10:=b10.rowFar n10_13 ((By (sgSig oneB [97])).toArray);replace b13:=b13.row ((By (sgSig oneB [97])).toArray);replace hU:=up_row hU q13 ((By (sgSig oneB [97])).toArray);generalize World.setRow _ g13 ((By (sgSig oneB [97])).toArray) = W14 at *;refine l_nil ?_;refine hK _ _ ?_;clear hK K;obtain ⟨s,hs⟩ : ∃ s,s = sgSig oneB [97]:=⟨_,rfl⟩
 have hsl : s.length = 64:=by rw [hs]; exact sgSig_len _ _
 have x0:=(s[40]!).toNat_lt;rw [← hs] at b13;have c0:=(b13.cell 40).trans (By_get (l:=s) (j:=40) (by omega));obtain ⟨r,hr⟩ : ∃ r,r = (if (s[40]!).toNat % 2 = 0 then (s[40]!).toNat + 1 else (s[40]!).toNat - 1):=⟨_,rfl⟩
 have hr2 : r < 256 ∧ r ≠ (s[40]!).toNat:=by rw [hr]; split <;> omega
 have hx:=xor1 _ x0;rw [← hr] at hx
 have e0 : ((UInt8.ofNat r).toNat : Int) = (r : Int):=by rw [ofNat_toNat hr2.1]
 have hv3 : rightB (sgKey oneB) (s.set 40 (UInt8.ofNat r)) [97] = false:=by
  rw [hs] at hr2 ⊢;exact decide_eq_false (not_bit fun h=>hr2.2 (by rw [← h,ofNat_toNat hr2.1]))
 have hl2 : (s.set 40 (UInt8.ofNat r)).length = 64:=by rw [List.length_set,hsl]
 refine c_seq fun K hK=>?_;refine c_tF 4 ?_;refine f_ix _ 40 ⟨g13,40,none⟩ rfl rfl rfl rfl rfl rfl (ix64 _ 40 (by decide)) ?_;refine f_load ⟨g13,40,none⟩ (.int .u8 ((s[40]!).toNat : Int)) (by decide) rfl rfl rfl rfl rfl (fun _ h1=>(h1.cell b13.lt).trans c0) ?_;refine f_xorB _ 1 (r : Int) rfl rfl rfl rfl rfl rfl hx ?_;refine f_ix _ 40 ⟨g13,40,none⟩ rfl rfl rfl rfl rfl rfl (ix64 _ 40 (by decide)) ?_;refine f_store ⟨g13,40,none⟩ (r : Int) _ (.inr ⟨rfl,rfl⟩) rfl rfl rfl rfl rfl c0 (b13.free 40) b13.lt fun w15 hw15=>?_;replace b4:=(b4.later hw15).far (p:=⟨g13,40,none⟩) n4_13 (.int .u8 (r : Int));replace b10:=(b10.later hw15).far (p:=⟨g13,40,none⟩) n10_13 (.int .u8 (r : Int));replace b13:=(b13.later hw15).set 40 (.int .u8 (r : Int));replace hU : Up w _:=(hU.step hw15).setCell (p:=⟨g13,40,none⟩) q13 (.int .u8 (r : Int));rw [← e0,By_set] at b13;rw [← e0] at b4 b10 hU ⊢;generalize World.setCell _ ⟨g13,40,none⟩ (.int .u8 ((UInt8.ofNat r).toNat : Int)) = W15 at *;generalize s.set 40 (UInt8.ofNat r) = t at *;refine k_sub (E':=[(1,.pointer (some ⟨g4,0,none⟩)),(2,.pointer (some ⟨g10,0,none⟩)),(3,.pointer (some ⟨g13,0,none⟩))]) ⟨rfl,rfl,rfl,trivial⟩ ?_;refine hK _ _ ?_;clear hK K hw15 c0 hx e0 hr2 hr x0 hsl hs s r;refine c_seq fun K hK=>?_;refine c_lit ?_;refine l_ops 1 ?_;refine f_by g4 0 ((sgKey_len _)) rfl rfl rfl rfl rfl (fun _ h1=>(h1.blk b4).range) ?_;refine f_tail fun W16 hw16=>?_;replace b4:=b4.later hw16;replace b10:=b10.later hw16;replace b13:=b13.later hw16;replace hU:=hU.step hw16;clear hw16;refine l_ops 1 ?_;refine f_b64 g10 ((sgSig_len _ _)) rfl rfl rfl rfl rfl (fun _ h1=>(h1.blk b10).range) ?_;refine f_tail fun W17 hw17=>?_;replace b4:=b4.later hw17;replace b10:=b10.later hw17;replace b13:=b13.later hw17;replace hU:=hU.step hw17;clear hw17;refine l_lit1 97 (.inl rfl) rfl rfl rfl rfl (fun _=>(.inl rfl)) rfl rfl rfl fun W18 gl18 hw18 hb18=>?_;replace b4:=b4.later hw18;replace b10:=b10.later hw18;replace b13:=b13.later hw18;replace hU:=hU.step hw18;clear hw18;refine l_slices [.slice (some ⟨gl18,0,none⟩) 1 1] [[97]] (.inl rfl) rfl rfl rfl rfl rfl (by decide) (by decide) ⟨hb18,trivial⟩ fun W19 gs19 hw19 hp19=>?_;replace b4:=b4.later hw19;replace b10:=b10.later hw19;replace b13:=b13.later hw19;replace hb18:=hb18.later hw19;replace hU:=hU.step hw19;clear hw19;refine l_ops 1 ?_
 refine f_call #[.agg (By (sgKey oneB)).toArray,.agg (By (sgSig oneB [97])).toArray,.slice (some ⟨gs19,0,none⟩) 1 1] (.bool true) rfl rfl rfl own_verify (fun w1 h1=>by
   have:=verify_f (key:=sgKey oneB) (sig:=sgSig oneB [97]) (P:=some ⟨gs19,0,none⟩) (ls:=[[97]]) (pc:=1) (sgKey_len _) (sgSig_len _ _) w1 (hT.below (hU.step h1)) (hp19.later h1) (fun e=>by cases e) (by simp)
   rwa [show ([[97]] : List (List UInt8)).flatten = [97] from rfl,hv1] at this) rfl rfl ?_
 refine f_tail fun W20 hw20=>?_;replace b4:=b4.later hw20;replace b10:=b10.later hw20;replace b13:=b13.later hw20;replace hb18:=hb18.later hw20;replace hp19:=hp19.later hw20;replace hU:=hU.step hw20;clear hw20;refine l_ops 1 ?_;refine f_move (.bool true) rfl rfl rfl rfl rfl ?_;refine f_tail fun W21 hw21=>?_;replace b4:=b4.later hw21;replace b10:=b10.later hw21;replace b13:=b13.later hw21;replace hb18:=hb18.later hw21;replace hp19:=hp19.later hw21;replace hU:=hU.step hw21;clear hw21;refine l_guard (.inr ⟨6,true,22,rfl,rfl,rfl,rfl⟩) ?_;refine l_ops 1 ?_;refine f_by g4 0 ((sgKey_len _)) rfl rfl rfl rfl rfl (fun _ h1=>(h1.blk b4).range) ?_;refine f_tail fun W22 hw22=>?_;replace b4:=b4.later hw22;replace b10:=b10.later hw22;replace b13:=b13.later hw22;replace hb18:=hb18.later hw22;replace hp19:=hp19.later hw22;replace hU:=hU.step hw22;clear hw22;refine l_guard (.inr ⟨6,true,22,rfl,rfl,rfl,rfl⟩) ?_;refine l_ops 1 ?_;refine f_b64 g10 ((sgSig_len _ _)) rfl rfl rfl rfl rfl (fun _ h1=>(h1.blk b10).range) ?_;refine f_tail fun W23 hw23=>?_;replace b4:=b4.later hw23;replace b13:=b13.later hw23;replace hb18:=hb18.later hw23;replace hp19:=hp19.later hw23;replace hU:=hU.step hw23;clear hw23;refine l_lit1 98 (.inr ⟨6,true,22,rfl,rfl,rfl,rfl⟩) rfl rfl rfl rfl (fun _=>(.inr ⟨6,true,22,rfl,rfl,rfl,rfl⟩)) rfl rfl rfl fun W24 gl24 hw24 hb24=>?_;replace b4:=b4.later hw24;replace b13:=b13.later hw24;replace hb18:=hb18.later hw24;replace hp19:=hp19.later hw24;replace hU:=hU.step hw24;clear hw24;refine l_slices [.slice (some ⟨gl24,0,none⟩) 1 1] [[98]] (.inr ⟨6,true,22,rfl,rfl,rfl,rfl⟩) rfl rfl rfl rfl rfl (by decide) (by decide) ⟨hb24,trivial⟩ fun W25 gs25 hw25 hp25=>?_;replace b4:=b4.later hw25;replace b13:=b13.later hw25;replace hb18:=hb18.later hw25;replace hp19:=hp19.later hw25;replace hb24:=hb24.later hw25;replace hU:=hU.step hw25;clear hw25;refine l_guard (.inr ⟨6,true,22,rfl,rfl,rfl,rfl⟩) ?_;refine l_ops 1 ?_
 refine f_call #[.agg (By (sgKey oneB)).toArray,.agg (By (sgSig oneB [97])).toArray,.slice (some ⟨gs25,0,none⟩) 1 1] (.bool false) rfl rfl rfl own_verify (fun w1 h1=>by
   have:=verify_f (key:=sgKey oneB) (sig:=sgSig oneB [97]) (P:=some ⟨gs25,0,none⟩) (ls:=[[98]]) (pc:=1) (sgKey_len _) (sgSig_len _ _) w1 (hT.below (hU.step h1)) (hp25.later h1) (fun e=>by cases e) (by simp)
   rwa [show ([[98]] : List (List UInt8)).flatten = [98] from rfl,hv2] at this) rfl rfl ?_
 refine f_tail fun W26 hw26=>?_;replace b4:=b4.later hw26;replace b13:=b13.later hw26;replace hb18:=hb18.later hw26;replace hp19:=hp19.later hw26;replace hb24:=hb24.later hw26;replace hp25:=hp25.later hw26;replace hU:=hU.step hw26;clear hw26;refine l_guard (.inr ⟨6,true,22,rfl,rfl,rfl,rfl⟩) ?_;refine l_ops 1 ?_;refine f_not false true rfl rfl rfl rfl rfl rfl ?_;refine f_tail fun W27 hw27=>?_;replace b4:=b4.later hw27;replace b13:=b13.later hw27;replace hb18:=hb18.later hw27;replace hp19:=hp19.later hw27;replace hb24:=hb24.later hw27;replace hp25:=hp25.later hw27;replace hU:=hU.step hw27;clear hw27;refine l_ops 1 ?_;refine f_pick (.bool true) rfl rfl rfl rfl rfl rfl ?_;refine f_tail fun W28 hw28=>?_;replace b4:=b4.later hw28;replace b13:=b13.later hw28;replace hb18:=hb18.later hw28;replace hp19:=hp19.later hw28;replace hb24:=hb24.later hw28;replace hp25:=hp25.later hw28;replace hU:=hU.step hw28;clear hw28;refine l_ops 1 ?_;refine f_move (.bool true) rfl rfl rfl rfl rfl ?_;refine f_tail fun W29 hw29=>?_;replace b4:=b4.later hw29;replace b13:=b13.later hw29;replace hb18:=hb18.later hw29;replace hp19:=hp19.later hw29;replace hb24:=hb24.later hw29;replace hp25:=hp25.later hw29;replace hU:=hU.step hw29;clear hw29;refine l_guard (.inr ⟨15,true,31,rfl,rfl,rfl,rfl⟩) ?_;refine l_ops 1 ?_;refine f_by g4 0 ((sgKey_len _)) rfl rfl rfl rfl rfl (fun _ h1=>(h1.blk b4).range) ?_;refine f_tail fun W30 hw30=>?_;replace b13:=b13.later hw30;replace hb18:=hb18.later hw30;replace hp19:=hp19.later hw30;replace hb24:=hb24.later hw30;replace hp25:=hp25.later hw30;replace hU:=hU.step hw30;clear hw30;refine l_guard (.inr ⟨15,true,31,rfl,rfl,rfl,rfl⟩) ?_;refine l_ops 1 ?_;refine f_b64 g13 hl2 rfl rfl rfl rfl rfl (fun _ h1=>(h1.blk b13).range) ?_;refine f_tail fun W31 hw31=>?_;replace hb18:=hb18.later hw31;replace hp19:=hp19.later hw31;replace hb24:=hb24.later hw31;replace hp25:=hp25.later hw31;replace hU:=hU.step hw31;clear hw31;refine l_lit1 97 (.inr ⟨15,true,31,rfl,rfl,rfl,rfl⟩) rfl rfl rfl rfl (fun _=>(.inr ⟨15,true,31,rfl,rfl,rfl,rfl⟩)) rfl rfl rfl fun W32 gl32 hw32 hb32=>?_;replace hb18:=hb18.later hw32;replace hp19:=hp19.later hw32;replace hb24:=hb24.later hw32;replace hp25:=hp25.later hw32;replace hU:=hU.step hw32;clear hw32;refine l_slices [.slice (some ⟨gl32,0,none⟩) 1 1] [[97]] (.inr ⟨15,true,31,rfl,rfl,rfl,rfl⟩) rfl rfl rfl rfl rfl (by decide) (by decide) ⟨hb32,trivial⟩ fun W33 gs33 hw33 hp33=>?_;replace hb18:=hb18.later hw33;replace hp19:=hp19.later hw33;replace hb24:=hb24.later hw33;replace hp25:=hp25.later hw33;replace hb32:=hb32.later hw33;replace hU:=hU.step hw33;clear hw33;refine l_guard (.inr ⟨15,true,31,rfl,rfl,rfl,rfl⟩) ?_;refine l_ops 1 ?_
 refine f_call #[.agg (By (sgKey oneB)).toArray,.agg (By t).toArray,.slice (some ⟨gs33,0,none⟩) 1 1] (.bool false) rfl rfl rfl own_verify (fun w1 h1=>by
   have:=verify_f (key:=sgKey oneB) (sig:=t) (P:=some ⟨gs33,0,none⟩) (ls:=[[97]]) (pc:=1) (sgKey_len _) hl2 w1 (hT.below (hU.step h1)) (hp33.later h1) (fun e=>by cases e) (by simp)
   rwa [show ([[97]] : List (List UInt8)).flatten = [97] from rfl,hv3] at this) rfl rfl ?_
 refine f_tail fun W34 hw34=>?_;replace hb18:=hb18.later hw34;replace hp19:=hp19.later hw34;replace hb24:=hb24.later hw34;replace hp25:=hp25.later hw34;replace hb32:=hb32.later hw34;replace hp33:=hp33.later hw34;replace hU:=hU.step hw34;clear hw34;refine l_guard (.inr ⟨15,true,31,rfl,rfl,rfl,rfl⟩) ?_;refine l_ops 1 ?_;refine f_not false true rfl rfl rfl rfl rfl rfl ?_;refine f_tail fun W35 hw35=>?_;replace hb18:=hb18.later hw35;replace hp19:=hp19.later hw35;replace hb24:=hb24.later hw35;replace hp25:=hp25.later hw35;replace hb32:=hb32.later hw35;replace hp33:=hp33.later hw35;replace hU:=hU.step hw35;clear hw35;refine l_ops 1 ?_;refine f_pick (.bool true) rfl rfl rfl rfl rfl rfl ?_;refine f_tail fun W36 hw36=>?_;replace hb18:=hb18.later hw36;replace hp19:=hp19.later hw36;replace hb24:=hb24.later hw36;replace hp25:=hp25.later hw36;replace hb32:=hb32.later hw36;replace hp33:=hp33.later hw36;replace hU:=hU.step hw36;clear hw36;refine l_ops 1 ?_;refine f_assign (.bool true) rfl rfl rfl rfl rfl ?_;refine f_tail fun W37 hw37=>?_;replace hb18:=hb18.later hw37;replace hp19:=hp19.later hw37;replace hb24:=hb24.later hw37;replace hp25:=hp25.later hw37;replace hb32:=hb32.later hw37;replace hp33:=hp33.later hw37;replace hU:=hU.step hw37;clear hw37;refine l_nil ?_;clear hb18;clear hp19;clear hb24;clear hp25;clear hb32;clear hp33;refine hK _ _ ?_;clear hK K;exact c_ret (fun a ha=>bodyPost_ret (results_tmp rfl _ _ _) ha.defers ⟨congrArg Ending.returned (ha.get 0 _ rfl),hU⟩)
end Go.Proofs.YtminmeljonbogaaDoor
/-
  THE SIGNATURES' LAWS: the walk of SignReads.
-/
namespace Go.Proofs.YtminmeljonbogaaDoor
open Go.RowKit Go.IntWalk Nums

theorem sb_all {w : World} {A : Option Addr} {l : List UInt8} {c : Nat} (h : SL w 0 w.heap.size A l c) : SB w (.slice A l.length c) l:=⟨A,c,rfl,h⟩
theorem sb_take {w : World} {A : Option Addr} {l : List UInt8} {c k : Nat} (h : SL w 0 w.heap.size A l c) (hk : k ≤ l.length) : SB w (.slice A k c) (l.take k):=⟨A,c,by rw [List.length_take,Nat.min_eq_left hk],h.take k⟩
theorem sb_drop {w : World} {A : Option Addr} {l : List UInt8} {c k : Nat} (h : SL w 0 w.heap.size A l c) (hk : k ≤ l.length) : SB w (.slice (if c = k then A else A.map (·.add k)) (l.length - k) (c - k)) (l.drop k):=⟨_,_,by rw [List.length_drop],h.cut hk⟩
open Classical in
theorem rightB_own (seed m : List UInt8) : rightB (sgKey seed) (sgSig seed m) m = true:=by
 unfold rightB
 exact decide_eq_true (right_own seed m)

end Go.Proofs.YtminmeljonbogaaDoor
/-
  THE SIGNATURES' LAWS: the walk of SignMakes.
-/
namespace Go.Proofs.YtminmeljonbogaaDoor
open Go.RowKit Go.IntWalk Nums

set_option maxRecDepth 100000 in
set_option maxHeartbeats 4000000 in
theorem signMakes_walk {seed m : List UInt8} {A : Option Addr} {c : Nat} (n : Int) (hs : seed.length = 32) (w : World) (hT : Ta w) (hS : SL w 0 w.heap.size A m c) :
  Calls Tryd.prog 3 #[.agg (By seed).toArray,.slice A m.length c,.int .i64 n] w fun e w'=>e = .returned (.bool true) ∧ Below w.heap.size w w':=by
 refine calls_F (vs:=[.agg (By seed).toArray,.slice A m.length c,.int .i64 n]) 71 Tryd.func3 rfl (by rw [Tryd.ntmps3]; rfl) ?_;have hU:=Up.refl w;have hA0 : A = none → c = 0:=hS.2.2.1;have hmc:=hS.1;refine c_seq fun K hK=>?_;refine c_lit ?_;refine l_boxA ((By seed).toArray) rfl rfl rfl rfl rfl fun W1 g1 hw1 hg1 b1=>?_;replace hU:=hU.step hw1;clear hw1 hg1;refine l_assign (.bool false) rfl rfl rfl rfl rfl ?_;refine l_nil ?_;refine hK _ _ ?_;clear hK K;refine c_seq fun K0 hK0=>?_;refine c_seq fun K hK=>?_;refine c_gF 2 ?_;refine g_op rfl ?_;refine f_call #[] (.bool true) rfl rfl rfl own_lfirst6 (fun w1 h1=>lfirst6_f w1 (hT.below (hU.step h1.1))) rfl rfl ?_;refine g_go ?_;refine g_op rfl ?_;refine f_not true false rfl rfl rfl rfl rfl rfl ?_;refine g_go ?_;refine g_end fun W2 hw2 hF2=>?_;clear hF2;replace b1:=b1.later hw2;replace hU:=hU.step hw2;clear hw2;refine l_nil ?_;refine hK _ _ ?_;clear hK K;refine c_cond false rfl ?_;rw [if_neg (by decide)];refine c_skip ?_;refine hK0 _ _ ?_;clear hK0 K0;refine c_seq fun K hK=>?_;refine c_gF 6 ?_;refine g_op rfl ?_;refine f_move (.slice A m.length c) rfl rfl rfl rfl rfl ?_;refine g_go ?_;refine g_op rfl ?_;refine f_move (.slice A m.length c) rfl rfl rfl rfl rfl ?_;refine g_go ?_;refine g_op rfl ?_;refine f_len A (m.length) c (.inr rfl) rfl rfl rfl rfl rfl ?_;refine g_go ?_;refine g_op rfl ?_;refine f_minI (m.length) 2000 rfl rfl rfl rfl rfl rfl ?_;refine g_go ?_;refine g_op rfl ?_;refine f_cutHi A (m.length) c (min m.length 2000) (by omega) hA0 rfl rfl rfl rfl rfl rfl ?_;refine g_go ?_;refine g_op rfl ?_;refine f_assign (.slice A (min m.length 2000) c) rfl rfl rfl rfl rfl ?_;refine g_go ?_;refine g_end fun W3 hw3 hF3=>?_;clear hF3;replace b1:=b1.later hw3;replace hU:=hU.step hw3;clear hw3;refine l_nil ?_;refine k_sub (E':=[(2,.int .i64 n),(3,.pointer (some ⟨g1,0,none⟩)),(7,.slice A (min m.length 2000) c)]) ⟨rfl,rfl,rfl,trivial⟩ ?_;refine hK _ _ ?_;clear hK K;obtain ⟨b,hb⟩ : ∃ b,b = m.take (min m.length 2000):=⟨_,rfl⟩
 have hbl : min m.length 2000 = b.length:=by rw [hb,List.length_take]; omega
 have hb0 : SL w 0 w.heap.size A b c:=by rw [hb]; exact hS.take _
 have hb1 : b.length ≤ 2000:=by omega
 have hbc:=hb0.1;rw [hbl];clear hb hbl
 have hu : IntKind.u64.wrap n = ((n % 18446744073709551616).toNat : Int):=by rw [IntKind.wrap_u64]; omega
 generalize (n % 18446744073709551616).toNat = u at hu;obtain ⟨k,hk⟩ : ∃ k,k = u % (b.length + 1):=⟨_,rfl⟩
 have hkb : k ≤ b.length:=by rw [hk]; have:=Nat.mod_lt u (show 0 < b.length + 1 by omega); omega
 refine c_seq fun K hK=>?_;refine c_gF 9 ?_;refine g_op rfl ?_;refine f_move (.int .i64 n) rfl rfl rfl rfl rfl ?_;refine g_go ?_;refine g_op rfl ?_;refine f_uint n (u : Int) rfl rfl rfl rfl rfl hu ?_;refine g_go ?_;refine g_op rfl ?_;refine f_move (.slice A b.length c) rfl rfl rfl rfl rfl ?_;refine g_go ?_;refine g_op rfl ?_;refine f_len A b.length c (.inr rfl) rfl rfl rfl rfl rfl ?_;refine g_go ?_;refine g_op rfl ?_;refine f_addI (b.length : Int) 1 ((b.length + 1 : Nat) : Int) rfl rfl rfl rfl rfl rfl (addI b.length 1 (by omega)) ?_;refine g_go ?_;refine g_op rfl ?_;refine f_uint ((b.length + 1 : Nat) : Int) ((b.length + 1 : Nat) : Int) rfl rfl rfl rfl rfl (by rw [IntKind.wrap_u64]; omega) ?_;refine g_go ?_;refine g_op rfl ?_;refine f_remV (u : Int) ((b.length + 1 : Nat) : Int) (k : Int) (by omega) rfl rfl rfl rfl rfl rfl (by rw [hk]; rfl) ?_;refine g_go ?_;refine g_op rfl ?_;refine f_intV (k : Int) (k : Int) rfl rfl rfl rfl rfl (by rw [i64_left,wrap64_in _ (by omega)]) ?_;refine g_go ?_;refine g_op rfl ?_;refine f_assign (.int .i64 ((k : Int))) rfl rfl rfl rfl rfl ?_;refine g_go ?_;refine g_end fun W4 hw4 hF4=>?_;clear hF4;replace b1:=b1.later hw4;replace hU:=hU.step hw4;clear hw4;refine l_nil ?_;refine k_sub (E':=[(3,.pointer (some ⟨g1,0,none⟩)),(7,.slice A b.length c),(8,.int .i64 ((k : Int)))]) ⟨rfl,rfl,rfl,trivial⟩ ?_;refine hK _ _ ?_;clear hK K;clear hk hu u;refine c_seq fun K hK=>?_;refine c_gF 1 ?_;refine g_op rfl ?_;refine f_cur #[] rfl rfl rfl own_rnew (fun w1 h1=>rnew_f w1) rfl rfl fun r27 v27=>?_;refine g_go ?_;refine g_end fun W5 hw5 hF5=>?_;clear hF5;replace b1:=b1.later hw5;replace hU:=hU.step hw5;clear hw5;refine l_allocA ((Is n16).toArray) rfl rfl rfl rfl (by kernel_rfl) fun W6 g6 hw6 hg6 b6=>?_
 have n1_6 : g1 ≠ g6:=by have:=b1.lt; omega
 have q6 : w.heap.size ≤ g6:=by rw [hg6]; exact hU.size
 replace b1:=b1.later hw6;replace hU:=hU.step hw6;clear hw6 hg6;refine l_set g6 _ ((Is r27).toArray) rfl rfl rfl rfl rfl b6 (size_C v27.len) (size_C0 v27.len) (Is_oneA _) ?_;replace b1:=b1.rowFar n1_6 ((Is r27).toArray);replace b6:=b6.row ((Is r27).toArray);replace hU:=up_row hU q6 ((Is r27).toArray);generalize World.setRow _ g6 ((Is r27).toArray) = W7 at *;refine l_nil ?_;refine hK _ _ ?_;clear hK K;refine c_seq fun K hK=>?_;refine c_g 13 (by decide) (by kernel_rfl) (by kernel_rfl) ?_;refine g_op rfl ?_;refine f_by g1 0 hs rfl rfl rfl rfl rfl (fun _ h1=>(h1.1.blk b1).range) ?_;refine g_go ?_;refine g_op rfl ?_;refine f_call #[.agg (By seed).toArray] (.agg (By (sgKey seed)).toArray) rfl rfl rfl own_public (fun w1 h1=>public_f hs w1 (hT.below (hU.step h1.1))) rfl rfl ?_;refine g_go ?_;refine g_op rfl ?_;refine f_by g1 0 hs rfl rfl rfl rfl rfl (fun _ h1=>(h1.1.blk b1).range) ?_;refine g_go ?_;refine g_op rfl ?_;refine f_move (.slice A b.length c) rfl rfl rfl rfl rfl ?_;refine g_go ?_;refine g_op rfl ?_;refine f_move (.int .i64 ((k : Int))) rfl rfl rfl rfl rfl ?_;refine g_go ?_;refine g_op rfl ?_;refine f_cutHi A b.length c k (by omega) hA0 rfl rfl rfl rfl rfl rfl ?_;refine g_go ?_;refine g_op rfl ?_;refine f_move (.slice A b.length c) rfl rfl rfl rfl rfl ?_;refine g_go ?_;refine g_op rfl ?_;refine f_move (.int .i64 ((k : Int))) rfl rfl rfl rfl rfl ?_;refine g_go ?_;refine g_op rfl ?_;refine f_cutLo A b.length c k hkb hbc hA0 rfl rfl rfl rfl rfl rfl ?_;refine g_go ?_;refine g_slices [.slice A k c,.slice (if c = k then A else A.map (·.add k)) (b.length - k) (c - k)] [(b.take k),(b.drop k)] (W7).heap.size rfl rfl rfl rfl rfl rfl rfl (by decide) (by decide) (fun _ h=>h.size) (fun _ h hu=>⟨(sb_take hb0 hkb).later (hU.step h),(sb_drop hb0 hkb).later (hU.step h),trivial⟩) fun gs8 _ _ _=>?_;refine g_op rfl ?_
 refine f_call #[.agg (By seed).toArray,.slice (some ⟨gs8,0,none⟩) 2 2] (.agg (By (sgSig seed b)).toArray) rfl rfl rfl own_sign (fun w1 h1=>by
   have:=sign_f (seed:=seed) (P:=some ⟨gs8,0,none⟩) (ls:=[(b.take k),(b.drop k)]) (pc:=2) hs w1 (hT.below (hU.step h1.1)) (h1.2 9 _ rfl (by kernel_rfl) : NewS _ _ _ _ _).pt (fun e=>by cases e) (by simp only [List.length_cons,List.length_nil]; omega)
   rwa [show [b.take k,b.drop k].flatten = b from by simp] at this) rfl rfl ?_
 refine g_go ?_;refine g_alloc z32 (W7).heap.size rfl rfl rfl rfl rfl (by kernel_rfl) (fun _ h=>h.size) (fun g w w' h hr=>⟨h.1,h.2.later hr⟩) fun g9 _ _ _ _=>?_;refine g_alloc (By z64).toArray (W7).heap.size rfl rfl rfl rfl rfl zero64 (fun _ h=>h.size) (fun g w w' h hr=>⟨h.1,h.2.later hr⟩) fun g10 _ _ _ _=>?_;refine g_end fun W11 hw11 hF11=>?_;have b9:=(hF11 11 _ rfl).2;have ge9:=(hF11 11 _ rfl).1
 have n1_9 : g1 ≠ g9:=by have:=b1.lt; omega
 have n6_9 : g6 ≠ g9:=by have:=b6.lt; omega
 have q9 : w.heap.size ≤ g9:=Nat.le_trans hU.size ge9;clear ge9;have b10:=(hF11 12 _ rfl).2;have ge10:=(hF11 12 _ rfl).1
 have n1_10 : g1 ≠ g10:=by have:=b1.lt; omega
 have n6_10 : g6 ≠ g10:=by have:=b6.lt; omega
 have q10 : w.heap.size ≤ g10:=Nat.le_trans hU.size ge10;clear ge10;clear hF11;replace b1:=b1.later hw11;replace b6:=b6.later hw11;replace hU:=hU.step hw11;clear hw11;have n9_10 : g9 ≠ g10:=blk_ne b9 b10 (by decide);refine l_set g9 _ ((By (sgKey seed)).toArray) rfl rfl rfl rfl rfl b9 (size_H ((sgKey_len _))) (by rw [len_by ((sgKey_len _))]; rfl) (By_oneA _) ?_;replace b1:=b1.rowFar n1_9 ((By (sgKey seed)).toArray);replace b6:=b6.rowFar n6_9 ((By (sgKey seed)).toArray);replace b10:=b10.rowFar n9_10.symm ((By (sgKey seed)).toArray);replace b9:=b9.row ((By (sgKey seed)).toArray);replace hU:=up_row hU q9 ((By (sgKey seed)).toArray);generalize World.setRow _ g9 ((By (sgKey seed)).toArray) = W12 at *;refine l_set g10 _ ((By (sgSig seed b)).toArray) rfl rfl rfl rfl rfl b10 (size_64 ((sgSig_len _ _))) (by rw [List.size_toArray,List.size_toArray,By_len,By_len,((sgSig_len _ _))]; rfl) (By_oneA _) ?_;replace b1:=b1.rowFar n1_10 ((By (sgSig seed b)).toArray);replace b6:=b6.rowFar n6_10 ((By (sgSig seed b)).toArray);replace b9:=b9.rowFar n9_10 ((By (sgSig seed b)).toArray);replace b10:=b10.row ((By (sgSig seed b)).toArray);replace hU:=up_row hU q10 ((By (sgSig seed b)).toArray);generalize World.setRow _ g10 ((By (sgSig seed b)).toArray) = W13 at *;refine l_nil ?_;refine hK _ _ ?_;clear hK K;have hv : rightB (sgKey seed) (sgSig seed b) b = true:=rightB_own seed b;refine c_seq fun K hK=>?_;refine c_g 33 (by decide) (by kernel_rfl) (by kernel_rfl) ?_;refine g_op rfl ?_;refine f_by g9 0 ((sgKey_len _)) rfl rfl rfl rfl rfl (fun _ h1=>(h1.1.blk b9).range) ?_;refine g_go ?_;refine g_op rfl ?_;refine f_cu g6 v27.len rfl rfl rfl rfl rfl (fun _ h1=>(h1.1.blk b6).range) ?_;refine g_go ?_;refine g_op rfl ?_;refine f_by g1 0 hs rfl rfl rfl rfl rfl (fun _ h1=>(h1.1.blk b1).range) ?_;refine g_go ?_;refine g_op rfl ?_;refine f_call #[.agg (Is r27).toArray,.agg (By seed).toArray] (.agg (By (sgKey seed)).toArray) rfl rfl rfl own_rkey6 (fun w1 h1=>rkey6_f v27 hs w1) rfl rfl ?_;refine g_go ?_;refine g_op rfl ?_;refine f_eqs (sgKey seed) (sgKey seed) rfl rfl rfl rfl rfl rfl rfl ((sgKey_len _)) rfl ?_;refine g_go ?_;refine g_op rfl ?_;refine f_move (.bool true) rfl rfl rfl rfl rfl ?_;refine g_go ?_;refine g_guard rfl rfl rfl rfl ?_;refine g_op rfl ?_;refine f_b64 g10 ((sgSig_len _ _)) rfl rfl rfl rfl rfl (fun _ h1=>(h1.1.blk b10).range) ?_;refine g_go ?_;refine g_guard rfl rfl rfl rfl ?_;refine g_op rfl ?_;refine f_cu g6 v27.len rfl rfl rfl rfl rfl (fun _ h1=>(h1.1.blk b6).range) ?_;refine g_go ?_;refine g_guard rfl rfl rfl rfl ?_;refine g_op rfl ?_;refine f_by g1 0 hs rfl rfl rfl rfl rfl (fun _ h1=>(h1.1.blk b1).range) ?_;refine g_go ?_;refine g_guard rfl rfl rfl rfl ?_;refine g_op rfl ?_;refine f_move (.slice A b.length c) rfl rfl rfl rfl rfl ?_;refine g_go ?_;refine g_guard rfl rfl rfl rfl ?_;refine g_op rfl ?_;refine f_call #[.agg (Is r27).toArray,.agg (By seed).toArray,.slice A b.length c] (.agg (By (sgSig seed b)).toArray) rfl rfl rfl own_rsign6 (fun w1 h1=>rsign6_f v27 hs (by omega) w1 ((sb_all hb0).later (hU.step h1.1))) rfl rfl ?_
 refine g_go ?_;refine g_guard rfl rfl rfl rfl ?_;refine g_op rfl ?_;refine f_eqs64 (sgSig seed b) rfl rfl rfl rfl rfl rfl rfl ((sgSig_len _ _)) ?_;refine g_go ?_;refine g_op rfl ?_;refine f_pick (.bool true) rfl rfl rfl rfl rfl rfl ?_;refine g_go ?_;refine g_op rfl ?_;refine f_move (.bool true) rfl rfl rfl rfl rfl ?_;refine g_go ?_;refine g_guard rfl rfl rfl rfl ?_;refine g_op rfl ?_;refine f_by g9 0 ((sgKey_len _)) rfl rfl rfl rfl rfl (fun _ h1=>(h1.1.blk b9).range) ?_;refine g_go ?_;refine g_guard rfl rfl rfl rfl ?_;refine g_op rfl ?_;refine f_b64 g10 ((sgSig_len _ _)) rfl rfl rfl rfl rfl (fun _ h1=>(h1.1.blk b10).range) ?_;refine g_go ?_;refine g_guard rfl rfl rfl rfl ?_;refine g_op rfl ?_;refine f_move (.slice A b.length c) rfl rfl rfl rfl rfl ?_;refine g_go ?_;refine g_guard rfl rfl rfl rfl ?_;refine g_slices [.slice A b.length c] [b] (W13).heap.size rfl rfl rfl rfl rfl rfl rfl (by decide) (by decide) (fun _ h=>h.size) (fun _ h hu=>⟨(sb_all hb0).later (hU.step h),trivial⟩) fun gs14 _ _ _=>?_;refine g_guard rfl rfl rfl rfl ?_;refine g_op rfl ?_
 refine f_call #[.agg (By (sgKey seed)).toArray,.agg (By (sgSig seed b)).toArray,.slice (some ⟨gs14,0,none⟩) 1 1] (.bool true) rfl rfl rfl own_verify (fun w1 h1=>by
   have:=verify_f (key:=sgKey seed) (sig:=sgSig seed b) (P:=some ⟨gs14,0,none⟩) (ls:=[b]) (pc:=1) (sgKey_len _) (sgSig_len _ _) w1 (hT.below (hU.step h1.1)) (h1.2 17 _ rfl (by kernel_rfl) : NewS _ _ _ _ _).pt (fun e=>by cases e) (by simp only [List.length_cons,List.length_nil]; omega)
   rwa [show [b].flatten = b from by simp,hv] at this) rfl rfl ?_
 refine g_go ?_;refine g_op rfl ?_;refine f_pick (.bool true) rfl rfl rfl rfl rfl rfl ?_;refine g_go ?_;refine g_op rfl ?_;refine f_move (.bool true) rfl rfl rfl rfl rfl ?_;refine g_go ?_;refine g_guard rfl rfl rfl rfl ?_;refine g_op rfl ?_;refine f_by g9 0 ((sgKey_len _)) rfl rfl rfl rfl rfl (fun _ h1=>(h1.1.blk b9).range) ?_;refine g_go ?_;refine g_guard rfl rfl rfl rfl ?_;refine g_op rfl ?_;refine f_b64 g10 ((sgSig_len _ _)) rfl rfl rfl rfl rfl (fun _ h1=>(h1.1.blk b10).range) ?_;refine g_go ?_;refine g_guard rfl rfl rfl rfl ?_;refine g_op rfl ?_;refine f_move (.slice A b.length c) rfl rfl rfl rfl rfl ?_;refine g_go ?_;refine g_guard rfl rfl rfl rfl ?_;refine g_op rfl ?_;refine f_move (.int .i64 ((k : Int))) rfl rfl rfl rfl rfl ?_;refine g_go ?_;refine g_guard rfl rfl rfl rfl ?_;refine g_op rfl ?_;refine f_cutHi A b.length c k (by omega) hA0 rfl rfl rfl rfl rfl rfl ?_;refine g_go ?_;refine g_guard rfl rfl rfl rfl ?_;refine g_op rfl ?_;refine f_move (.slice A b.length c) rfl rfl rfl rfl rfl ?_;refine g_go ?_;refine g_guard rfl rfl rfl rfl ?_;refine g_op rfl ?_;refine f_move (.int .i64 ((k : Int))) rfl rfl rfl rfl rfl ?_;refine g_go ?_;refine g_guard rfl rfl rfl rfl ?_;refine g_op rfl ?_;refine f_cutLo A b.length c k hkb hbc hA0 rfl rfl rfl rfl rfl rfl ?_;refine g_go ?_;refine g_guard rfl rfl rfl rfl ?_;refine g_slices [.slice A k c,.slice none 0 0,.slice (if c = k then A else A.map (·.add k)) (b.length - k) (c - k)] [(b.take k),[],(b.drop k)] (W13).heap.size rfl rfl rfl rfl rfl rfl rfl (by decide) (by decide) (fun _ h=>h.size) (fun _ h hu=>⟨(sb_take hb0 hkb).later (hU.step h),SB.nil _,(sb_drop hb0 hkb).later (hU.step h),trivial⟩) fun gs15 _ _ _=>?_;refine g_guard rfl rfl rfl rfl ?_;refine g_op rfl ?_
 refine f_call #[.agg (By (sgKey seed)).toArray,.agg (By (sgSig seed b)).toArray,.slice (some ⟨gs15,0,none⟩) 3 3] (.bool true) rfl rfl rfl own_verify (fun w1 h1=>by
   have:=verify_f (key:=sgKey seed) (sig:=sgSig seed b) (P:=some ⟨gs15,0,none⟩) (ls:=[(b.take k),[],(b.drop k)]) (pc:=3) (sgKey_len _) (sgSig_len _ _) w1 (hT.below (hU.step h1.1)) (h1.2 29 _ rfl (by kernel_rfl) : NewS _ _ _ _ _).pt (fun e=>by cases e) (by simp only [List.length_cons,List.length_nil]; omega)
   rwa [show [b.take k,[],b.drop k].flatten = b from by simp,hv] at this) rfl rfl ?_
 refine g_go ?_;refine g_op rfl ?_;refine f_pick (.bool true) rfl rfl rfl rfl rfl rfl ?_;refine g_go ?_;refine g_op rfl ?_;refine f_assign (.bool true) rfl rfl rfl rfl rfl ?_;refine g_go ?_;refine g_end fun W16 hw16 hF16=>?_;clear hF16;replace hU:=hU.step hw16;clear hw16;refine l_nil ?_;refine hK _ _ ?_;clear hK K;exact c_ret (fun a ha=>bodyPost_ret (results_tmp rfl _ _ _) ha.defers ⟨congrArg Ending.returned (ha.get 6 _ rfl),hU⟩)
end Go.Proofs.YtminmeljonbogaaDoor
/-
  FROM A WALK TO A LAW'S ROW: the three tables' cells, from what the row lists.
-/
namespace Go.Proofs.YtminmeljonbogaaDoor
open Go.ChangeShapes Go.WideShapes Go.ChangeAt Go.RowKit Nums

def laid3 : List (String × DataW Unit):=[("witan/field.twice",Rows.laid_witan_field_twice),("witan/sha.starts",Rows.laid_witan_sha_starts),("witan/sha.steps",Rows.laid_witan_sha_steps)]
theorem cells64 : Tryd.prog.cellsOf 56 = 1:=by kernel_rfl
theorem door_met (os : Os) (args : Array Value) : laidMetH Tryd.prog laid3 ((World.doorLaid Tryd.prog 400 os).forCall (fun _ _=>0) ⟨#[],args,[]⟩).memory :=
 laidMetH_of_parts3 (fuel:=8) (laidMet_of_run' 8 (by kernel_rfl) (by kernel_rfl)) (by kernel_rfl) (by kernel_rfl)
set_option maxRecDepth 20000 in
theorem table_cells {W : World} {nm : String} {g g0 t0 tid n fuel : Nat} {l : List Nat} {datum : DataW Unit} {cs : List Value} {p : List MemPlace} (hg : Tryd.prog.globalNamed nm = some g) (ht : (Tryd.prog.globals[g]?).map (·.type) = some tid) (hu : Tryd.prog.underlying tid = some (.array n 56))
  (hd : datum = .agg (l.map fun (x : Nat)=>.lit (.int .u64 (x : Int)))) (hg0 : Tryd.prog.globalNamed nm = some g0) (ht0 : (Tryd.prog.globals[g0]?).map (·.type) = some t0) (hv0 : W.var? Tryd.prog nm = some cs.toArray) (hd0 : DataW.trod (fun _=>()) Tryd.prog W 0 (fun _=>true) false fuel t0 cs = some (datum,p)) :
  ∀ i,i < n → W.cell? ⟨g,i,none⟩ = some (.int .u64 (l[i]! : Nat)):=by
 obtain rfl:=Option.some.inj (hg.symm.trans hg0);obtain rfl:=Option.some.inj (ht.symm.trans ht0);obtain ⟨xs,m1,rfl,hx1,hlen,hn5,hel⟩:=DataW.trod_array hu hd0;have hx2:=congrArg Prod.fst hx1;rw [hd] at hx2
 injection hx2 with hx2
 intro i hi
 have h0:=hel i hi;rw [cells64] at h0;obtain ⟨x,hxi⟩ : ∃ x,xs[i]? = some x:=⟨xs[i]'(by omega),List.getElem?_eq_getElem (by omega)⟩;rw [hxi] at h0;obtain ⟨n',e1,e2,_⟩:=DataW.trod_int Tryd.underlying56 h0
 have hll : l.length = n:=by
  have:=congrArg List.length hx2;simp only [List.length_map] at this
  omega
 have h3 : (l.map fun (x : Nat)=>(DataW.lit (.int .u64 (x : Int)) : DataW Unit))[i]? = (xs.map (·.1))[i]?:=by rw [hx2]
 rw [List.getElem?_map,List.getElem?_map,hxi,List.getElem?_eq_getElem (by omega)] at h3;simp only [Option.map_some,Option.some.injEq] at h3;rw [e2] at h3
 have hn : n' = ((l[i]! : Nat) : Int):=by
  rw [getElem!_pos l i (by omega)]
  injection h3 with h3
  injection h3 with _ h3
  exact h3.symm
 subst hn;have hcell:=World.var?_cell hg hv0 i;rw [hcell];have:=one_of e1
 simpa using this
set_option maxRecDepth 20000 in
theorem of_laid {W : World} (h : laidMetH Tryd.prog laid3 W) : Ta W:=by
 rw [MakeChecks.laidMetH_plain _ _ _ (by kernel_rfl)] at h;obtain ⟨ps,⟨g0,t0,cs0,f0,p0,q0,hg0,ht0,hv0,hd0,⟨g1,t1,cs1,f1,p1,q1,hg1,ht1,hv1,hd1,⟨g2,t2,cs2,f2,p2,q2,hg2,ht2,hv2,hd2,_,_⟩,_⟩,_⟩,_,_⟩:=h;have c0:=table_cells (l:=twl) (n:=5) (g:=1) (tid:=75) (by kernel_rfl) (by kernel_rfl) Tryd.underlying75 (by kernel_rfl) hg0 ht0 hv0 hd0;have c1:=table_cells (l:=sqs) (n:=8) (g:=0) (tid:=142) (by kernel_rfl) (by kernel_rfl) Tryd.underlying142 (by kernel_rfl) hg1 ht1 hv1 hd1;have c2:=table_cells (l:=cbs) (n:=80) (g:=2) (tid:=172) (by kernel_rfl) (by kernel_rfl) Tryd.underlying172 (by kernel_rfl) hg2 ht2 hv2 hd2;exact ⟨⟨c0,World.block_lt_of_cell? W ⟨1,0,none⟩ (c0 0 (by omega))⟩,⟨⟨c2,World.block_lt_of_cell? W ⟨2,0,none⟩ (c2 0 (by omega))⟩,c1,World.block_lt_of_cell? W ⟨0,0,none⟩ (c1 0 (by omega))⟩⟩
end Go.Proofs.YtminmeljonbogaaDoor
