import Derived.Test.YtfkchihlchlfdaaDoorMl
import Derived.Test.YtfkchihlchlfdaaDoorMc
import Derived.Test.YtfkchihlchlfdaaDoorMm
import Derived.Test.YtfkchihlchlfdaaDoorMk
import Derived.Test.YtfkchihlchlfdaaDoorMg
import Derived.Test.YtfkchihlchlfdaaDoorMe
import Derived.Lib.SlBytesConst
import Derived.Deep.RegionHeld3
import Derived.Laws.CopyOwn
import Derived.Test.YtfkchihlchlfdaaDoorMb
open Array renaming toList_map->sJ
open Bool renaming and_eq_true->aV
open Go.Act renaming put->aE
open Go.Addr renaming add_mid->k9
open Go.Ending renaming returned->l7
open Go.Instr renaming indexAt->mL,sureAddr->nJ
open Go.Region renaming wanted->aL,ready->bQ,binds->eL,noSelect_spec->Ap
open Go.Result renaming andThen_ok->aG
open Go.Sem renaming run_pure->aI,run_bind->aJ
open Go.World renaming setRow->dU
open Iff renaming rfl->Fg
open List renaming setIfInBounds_toArray->aA,set_cons_zero->aB,set_cons_succ->aC,replicate->aD,take_succ_cons->a9,size_toArray->bA,getElem?_eq_getElem->bC,mem_cons_of_mem->bE,take_zero->bN,length_cons->bW,mem_cons_self->bZ,mem_cons->cA,append_nil->cD,all_eq_true->cE,mem_singleton->cG,map_cons->cH,map_toArray->eD,mem_map->fV,map_nil->gK,mem_append->l6,length_map->wT
open Nat renaming le_refl->aF,blt->aQ,zero_le->dC,mod_lt->eR,mul_comm->gN,le_trans->jL,lt_irrefl->lY
open Option.some renaming injEq->bH
namespace Go.Proofs.YtfkchihlchlfdaaDoor
open Go.RowKit Go.IntWalk Nums
theorem Lr : Own 38:=λ_ _=>by go_simp
def Ud : Array Value:=(By (aD 64 0)).toArray
section
variable {ops : Array Oper} {C0 : World -> Prop} {Q : Act -> Prop} {a : Act} {o : Oper} {rest : List Oper}
theorem T5 {l : List UInt8} (g : Nat) (hl : l.length = 64) (x : Operand) (hg : aL o (yielded ops a.tmps) = true) (ho : o.op = .load 25 x) (hx : a.eval x = .pointer (some ⟨g,0,none⟩))
  (hc : ∀ w,C0 w -> Blk w g 25 (By l).toArray) (hk : wpB Tryd.prog ops C0 Q rest (a.put o.dst (.agg (By l).toArray))) : wpB Tryd.prog ops C0 Q (o :: rest) a :=
 y9 hg 25 x ho g 0 hx (By l) _ (λw h=>(hc w h).range) Tryd.underlying25 rfl (MH (By l).toArray (J2 hl)) hk
end
theorem le_zero : ∀ n,le (aD n 0) = 0
 | 0=>rfl
 | n + 1=>by
  show (0 : UInt8).toNat + 256 * le (aD n 0) = 0
  rw [le_zero n]
  rfl
theorem OZ {b : List UInt8} (hb : b.length = 32) : (cop (aD 64 0) 0 b).length = 64 /\ le (cop (aD 64 0) 0 b) = le b:=by
 have e : cop (aD 64 0) 0 b = b ++ aD 32 0:=by
  simp [cop,hb]
 rw [e];refine ⟨by simp [hb],?_⟩;rw [lP,le_zero,Nat.mul_zero,Nat.add_zero]
set_option maxRecDepth 100000 in
set_option maxHeartbeats 1000000 in
theorem PY {b : List UInt8} (hb : b.length = 32) (w : World) :
  Calls Tryd.prog 38 #[.agg (By b).toArray] w λe w'=>e = .returned (.tuple #[.agg (Us (ws (if le b < LL then le b else 0))).toArray,.bool (decide (le b < LL))]) /\ Below w.heap.size w w':=by
 obtain ⟨hl,hle⟩:=OZ hb;have hE:=λw1=>Bn (Nums.bytes 32 (le b % LL)) b (cK _ _) hb w1;rw [Oh hb] at hE;have hW:=λw1=>Hx hl w1;rw [hle] at hW;clear hle
 go_enter Tryd.func38,Tryd.ntmps38
 refine wp_seq_k λK hK=>?_;refine wp_region_lit ?_;refine jW (By b).toArray rfl rfl rfl ?_;refine dN (zs:=z4) rfl rfl (by kernel_rfl) ?_;refine iV rfl rfl ?_;refine dP ?_
 go_simp
 refine hK _ _ ?_;clear hK K;refine wp_seq_k λK hK=>?_;refine wp_region_lit ?_;refine dN (zs:=Ud) rfl rfl (by kernel_rfl) ?_;refine dP ?_
 go_simp
 refine hK _ _ ?_;clear hK K;refine pM (λW=>Blk W w.heap.size 24 (By b).toArray /\ Blk W (w.heap.size + 1) 57 z4 /\ Blk W (w.heap.size + 1 + 1) 25 Ud /\ Below w.heap.size w W) ⟨mV w _ _ _ _,lI w _ _ _ _,lV w _ _ _ _,(((Below.refl _ _).alloc (aF _) _).alloc (by simp) _).alloc (by simp; omega) _⟩ ?_
 rintro W ⟨h0,h1,h2,hbe⟩
 refine wp_seq_k λK hK=>?_;refine M5 2 (.tmp 6) (.tmp 7) rfl rfl rfl (cC (by kernel_rfl)) (λ_ _ d _ _ h=>by cases d <;> exact h) (by kernel_rfl) ?_;simp only [a9,bN];refine k5 (v:=.slice (some ⟨w.heap.size + 1 + 1,0,none⟩) 64 64) rfl (λw1 h1=>by go_simp) ?_;simp only [aE,aA,aB,aC];refine k5 (v:=.slice (some ⟨w.heap.size,0,none⟩) 32 32) rfl (λw1 h1=>by go_simp) ?_;simp only [aE,aA,aB,aC];refine cL ⟨w.heap.size + 1 + 1,0,64,64,w.heap.size,32,_,_,_,b,rfl,by rw [hb]; rfl,h2,h0,by omega,by rw [hb,List.length_replicate]; omega,λW1 hw1=>?_⟩;simp only [Exit.then,aE,aA,aB,aC];refine hK _ _ ?_;clear hK K;have k0:=(hw1.blk h0).aR (g':=w.heap.size + 1 + 1) (by omega) (By (cop (aD 64 0) 0 b)).toArray;have k1:=(hw1.blk h1).aR (g':=w.heap.size + 1 + 1) (by omega) (By (cop (aD 64 0) 0 b)).toArray;have k2:=(hw1.blk h2).row (By (cop (aD 64 0) 0 b)).toArray;have kbe:=below_setRow (a6 hbe hw1) (g:=w.heap.size + 1 + 1) (by omega) (By (cop (aD 64 0) 0 b)).toArray;clear hw1 h0 h1 h2 hbe;generalize cop (aD 64 0) 0 b = l at *;generalize W1.setRow (w.heap.size + 1 + 1) (By l).toArray = W2 at *;have hz:=kQ (eT (le b % LL));refine wp_seq_k λK hK=>?_;refine rN 2 5 57 (.tmp 10) z4 rfl rfl rfl rfl rfl rfl rfl (c9 rfl (by kernel_rfl)) ?_;simp only [a9,bN];refine T5 (w.heap.size + 1 + 1) hl _ rfl rfl rfl (λ_ h=>h.blk k2) ?_;simp only [aE,aA,aB,aC];refine jU rfl BQ (λw1=>hW w1) rfl rfl ?_;simp only [aE,aA,aB,aC];refine cL ⟨(Us (ws (le b % LL))).toArray,λ_=>rfl,λ_=>rfl,hz.symm,fH _ hz,cJ _,λgx W3 hgx hw1 hbx=>?_⟩;simp only [Exit.then,aE,aA,aB,aC];refine hK _ _ ?_;clear hK K;have k0:=hw1.blk k0;have k1:=hw1.blk k1;have kbe:=a6 kbe hw1;clear hw1 k2 hW hl;refine wp_seq_k λK hK=>?_;refine wp_seq_k λK2 hK2=>?_;refine yG (by kernel_rfl) (cC (by kernel_rfl)) (λ_ _ d _ _ h=>by cases d <;> exact h) ?_;refine Pc gx (eT _) _ rfl rfl rfl (λ_ h=>h.blk hbx) ?_;simp only [aE,aA,aB,aC];refine jU rfl pU (λw1=>tS (le b % LL) w1) rfl rfl ?_;simp only [aE,aA,aB,aC];refine V2 w.heap.size hb _ rfl rfl rfl (λ_ h=>h.blk k0) ?_;simp only [aE,aA,aB,aC]
 refine Sf (By (Nums.bytes 32 (le b % LL))).toArray (By b).toArray rfl rfl rfl rfl (by kernel_rfl) hE ?_;simp only [aE,aA,aB,aC];refine cL ?_
 intro W1 hw1
 simp only [Exit.then];refine hK2 _ _ ?_;clear hK2 K2;have hbx:=hw1.blk hbx;have k1:=hw1.blk k1;have kbe:=a6 kbe hw1;clear hw1 k0 hE
 by_cases hq : le b < LL
 ·rw [decide_eq_true hq]
  have hm : le b % LL = le b:=Nat.mod_eq_of_lt hq;rw [hm] at hbx hz;refine wp_cond (t:=false) rfl ?_;rw [if_neg (by decide)];refine wp_skip ?_;simp only [Exit.then];refine hK _ _ ?_;clear hK K;refine wp_seq_k λK hK=>?_;refine wp_region_lit ?_;refine wpList_load_row rfl 57 _ rfl gx rfl 57 (Us (ws (le b))).toArray (0,0) _ hbx Tryd.underlying57 rfl (fH _ hz) ?_;simp only [aE,aA,aB,aC];refine wpList_store_row rfl 57 _ _ rfl (w.heap.size + 1) rfl (Us (ws (le b))).toArray rfl 57 _ k1 (fH _ hz) (by rw [hz]; rfl) (cJ _) ?_;refine iV rfl rfl ?_;refine dP ?_;simp only [Exit.then,aE,aA,aB,aC];refine hK _ _ ?_;clear hK K;refine wp_ret ?_;refine bodyPost_ret (results_cell_tmp rfl _ _ (w.heap.size + 1) 57 (Us (ws (le b))).toArray (0,0) _ (.bool true) rfl rfl (k1.row _) Tryd.underlying57 rfl (fH _ hz)) rfl ⟨by rw [if_pos hq,decide_eq_true hq],?_⟩;exact below_setRow kbe (by omega) _
 ·rw [decide_eq_false hq]
  refine wp_cond (t:=true) rfl ?_;rw [if_pos rfl];refine wp_seq_k λK2 hK2=>?_;refine wp_region_lit ?_;refine uZ (t:=57) [] z4 rfl rfl rfl (by kernel_rfl) ?_;simp only [aE,aA,aB,aC];refine wpList_store_row rfl 57 _ _ rfl (w.heap.size + 1) rfl z4 rfl 57 _ k1 (fH _ rfl) rfl (cJ _) ?_;refine iV rfl rfl ?_;refine dP ?_;simp only [Exit.then,aE,aA,aB,aC];refine hK2 _ _ ?_;clear hK2 K2 hK;refine wp_ret ?_;simp only [Exit.then];refine bodyPost_ret (results_cell_tmp rfl _ _ (w.heap.size + 1) 57 z4 (0,0) _ (.bool false) rfl rfl (k1.row _) Tryd.underlying57 rfl (fH _ rfl)) rfl ⟨by rw [if_neg hq]; rfl,?_⟩;exact below_setRow kbe (by omega) _
theorem Lv : Own 40:=λ_ _=>by go_simp
theorem Iq : Own 22:=λ_ _=>by go_simp
open Classical in
noncomputable def kO (key sig m : List UInt8) : Bool:=decide (Sg key sig m)
open Classical in
theorem Lj {key sig m : List UInt8} (h : ¬ ∃ A,Ed.On dd A /\ eN A = key) : kO key sig m = false:=decide_eq_false λ⟨A,h1,h2,_⟩=>h ⟨A,h1,h2⟩
open Classical in
theorem Ej {A : Ed.Pt p} {sig m : List UInt8} (hA : Ed.On dd A) (h : Ed.mul dd 8 A = Ed.zero) : kO (eN A) sig m = false:=decide_eq_false λ⟨B,h1,h2,h3,_⟩=>h3 (by rw [uK h1 hA h2]; exact h)
open Classical in
theorem Ek {key sig m : List UInt8} (h : ¬ le (sig.drop 32) < LL) : kO key sig m = false:=decide_eq_false λ⟨_,_,_,_,h4,_⟩=>h h4
theorem Lk {A : Ed.Pt p} {sig m : List UInt8} (hA : Ed.On dd A) (h8 : Ed.mul dd 8 A ≠ Ed.zero) (hS : le (sig.drop 32) < LL) :
  kO (eN A) sig m = decide (eN (Ed.add dd (Ed.mul dd (le (Nums.bytes 32 (le (sig.drop 32)))) base) (Ed.mul dd (le (Nums.bytes 32 (sgK (sig.take 32) (eN A) m))) (Ed.neg A))) = sig.take 32):=by
 rw [vL hS,vL (MO _ _ _),Ed.mul_neg iL hA]
 unfold kO
 rw [decide_eq_decide]
 constructor
 ·rintro ⟨B,h1,h2,_,_,h5⟩
  obtain rfl:=uK h1 hA h2;exact h5
 ·exact λh=>⟨A,hA,rfl,h8,hS,h⟩
theorem Lb {A : Ed.Pt p} (hA : Ed.On dd A) : eN (Ed.mul dd 8 A) = eN Ed.zero ↔ Ed.mul dd 8 A = Ed.zero :=
 ⟨λh=>uK (Ed.j9 iL hA 8) Ed.sS h,λh=>by rw [h]⟩
section
variable {ops : Array Oper} {C0 : World -> Prop} {Q : Act -> Prop} {N : Nat} {E : List (Nat × Value)} {o : Oper} {rest : List Oper} {k : Nat}
theorem Sb {x y : Operand} {t t' : TypeId} (m n : Int) (q : Bool) (hg : o.guard = none) (hd : o.dst = some k) (hk : aQ k N = true) (ho : o.op = .binOp .neq t x y t') (ht : t = 29) (hx : ev E x = some (.int .i64 m)) (hy : ev E y = some (.int .i64 n))
  (hr : decide (m ≠ n) = q) (hn : bF Tryd.prog ops C0 Q rest N ((k,.bool q) :: E)) : bF Tryd.prog ops C0 Q (o :: rest) N E:=by
 subst ht
 exact dM _ hg hd hk (λa ha w _=>by
  have h1:=ha.eval hx;have h2:=ha.eval hy;subst hr
  unfold execOp
  simp only [ho,h1,h2]
  by_cases e : m = n <;> go_simp) hn
end
set_option maxRecDepth 100000 in
set_option maxHeartbeats 2000000 in
theorem Mv {key sig : List UInt8} {P : Option Addr} {ls : List (List UInt8)} {pc : Nat} (hk : key.length = 32) (hs : sig.length = 64) (w : World) (hT : Ta w) (hP : PT w P ls) (h0 : P = none -> pc = 0) (hls : ls.length <= 1000000) :
  Calls Tryd.prog 22 #[.agg (By key).toArray,.agg (By sig).toArray,.slice P ls.length pc] w λe w'=>e = .returned (.bool (kO key sig ls.flatten)) /\ Below w.heap.size w w':=by
 refine e9 (vs:=[.agg (By key).toArray,.agg (By sig).toArray,.slice P ls.length pc]) 50 Tryd.func22 rfl (by rw [Tryd.ntmps22]; rfl) ?_;have hU:=Up.refl w;refine aM λK hK=>?_;refine eQ ?_;refine gB ((By key).toArray) rfl rfl rfl rfl rfl λW1 g1 hw1 hg1 b1=>?_;replace hU:=hU.step hw1;clear hw1 hg1;refine gB ((By sig).toArray) rfl rfl rfl rfl rfl λW2 g2 hw2 hg2 b2=>?_;replace b1:=b1.later hw2;replace hU:=hU.step hw2;clear hw2 hg2;refine cP (.bool false) rfl rfl rfl rfl rfl ?_;refine bG ?_;refine hK _ _ ?_;clear hK K
 by_cases hA : ∃ A,Ed.On dd A /\ eN A = key
 ·obtain ⟨A,hA,rfl⟩:=hA
  refine aM λK hK=>?_;refine xP 5 ?_;refine cU rfl ?_;refine tG g1 0 hk rfl rfl rfl rfl rfl (λ_ h1=>(h1.1.blk b1).range) ?_;refine cV ?_;refine cU rfl ?_;refine sW #[.agg (By (eN A)).toArray] (λv=>∃ l,QB l A /\ v = .tuple #[.agg (Us l).toArray,.int .i64 0]) rfl rfl rfl AE (λw1 h1=>Rj hA w1 (hT.below (hU.step h1.1)).tw) rfl rfl ?_
  rintro _ ⟨l,hl,rfl⟩
  refine cV ?_;refine cU rfl ?_;refine aK (.tuple #[.agg (Us l).toArray,.int .i64 0]) rfl rfl rfl rfl rfl ?_;refine cV ?_;refine cU rfl ?_;refine dQ (.agg (Us l).toArray) rfl rfl rfl rfl rfl rfl ?_;refine cV ?_;refine cU rfl ?_;refine dQ (.int .i64 0) rfl rfl rfl rfl rfl rfl ?_;refine cV ?_;refine jC λW3 hw3 hF3=>?_;clear hF3;replace b1:=b1.later hw3;replace b2:=b2.later hw3;replace hU:=hU.step hw3;clear hw3;refine cT ((Us pz).toArray) rfl rfl rfl rfl (by kernel_rfl) λW4 g4 hw4 hg4 b4=>?_
  have n1_4 : g1 ≠ g4:=by have:=b1.lt; omega
  have n2_4 : g2 ≠ g4:=by have:=b2.lt; omega
  have q4 : w.heap.size <= g4:=by rw [hg4]; exact hU.size
  replace b1:=b1.later hw4;replace b2:=b2.later hw4;replace hU:=hU.step hw4;clear hw4 hg4;refine mH g4 _ ((Us l).toArray) rfl rfl rfl rfl rfl b4 (dR hl.len) ((aT eX).trans (aT hl.len).symm) (bP _) ?_;replace b1:=b1.aR n1_4 ((Us l).toArray);replace b2:=b2.aR n2_4 ((Us l).toArray);replace b4:=b4.row ((Us l).toArray);replace hU:=cM hU q4 ((Us l).toArray);generalize dU _ g4 ((Us l).toArray) = W5 at *;refine cP (.int .i64 0) rfl rfl rfl rfl rfl ?_;refine bG ?_;refine hK _ _ ?_;clear hK K;have hsm:=Lb hA;refine aM λK0 hK0=>?_;refine aM λK hK=>?_;refine xP 6 ?_;refine cU rfl ?_;refine aK (.int .i64 0) rfl rfl rfl rfl rfl ?_;refine cV ?_;refine cU rfl ?_;refine Sb _ 0 false rfl rfl rfl rfl rfl rfl rfl (by decide) ?_;refine cV ?_;refine cU rfl ?_;refine aK (.bool false) rfl rfl rfl rfl rfl ?_;refine cV ?_;refine Kg rfl rfl rfl rfl ?_;refine cU rfl ?_;refine rD g4 0 hl.len rfl rfl rfl rfl rfl (λ_ h1=>(h1.1.blk b4).range) ?_;refine cV ?_;refine Kg rfl rfl rfl rfl ?_;refine cU rfl ?_;refine dG #[.agg (Us l).toArray] (.bool (decide (eN (Ed.mul dd 8 A) = eN Ed.zero))) rfl rfl rfl Iw (λw1 h1=>OV (.inr hl) w1 (hT.below (hU.step h1.1)).tw) rfl rfl ?_;refine cV ?_;refine cU rfl ?_;refine Q6 (.bool ((decide (eN (Ed.mul dd 8 A) = eN Ed.zero)))) rfl rfl rfl rfl rfl rfl ?_;refine cV ?_;refine jC λW6 hw6 hF6=>?_;clear hF6;replace b1:=b1.later hw6;replace b2:=b2.later hw6;replace b4:=b4.later hw6;replace hU:=hU.step hw6;clear hw6;refine bG ?_;refine hK _ _ ?_;clear hK K
  by_cases h8 : Ed.mul dd 8 A = Ed.zero
  ·rw [decide_eq_true (hsm.2 h8)]
   refine cB true rfl ?_;rw [if_pos rfl];refine aM λK hK=>?_;refine eQ ?_;refine cP (.bool false) rfl rfl rfl rfl rfl ?_;refine bG ?_;refine hK _ _ ?_;clear hK K;rw [Ej hA h8];exact gI (lG (λa ha=>bodyPost_ret (results_tmp rfl _ _ _) ha.defers ⟨congrArg l7 (ha.get 6 _ rfl),hU⟩))
  ·rw [decide_eq_false λh=>h8 (hsm.1 h)]
   refine cB false rfl ?_;rw [if_neg (by decide)];refine eZ ?_;refine hK0 _ _ ?_;clear hK0 K0;clear hsm;refine aM λK hK=>?_;refine xP 7 ?_;refine cU rfl ?_;refine xL g2 rfl rfl rfl rfl rfl ?_;refine cV ?_;refine cU rfl ?_;refine I2 (some ⟨g2,32,none⟩) 32 rfl rfl rfl rfl rfl ?_;refine cV ?_;refine cU rfl ?_;refine tG g2 32 (I6 hs) rfl rfl rfl rfl rfl (λ_ h1=>M3 (h1.1.blk b2) hs) ?_;refine cV ?_;refine cU rfl ?_;refine dG #[.agg (By (sig.drop 32)).toArray] (.tuple #[.agg (Us (ws ((if le (sig.drop 32) < LL then le (sig.drop 32) else 0)))).toArray,.bool ((decide (le (sig.drop 32) < LL)))]) rfl rfl rfl Lr (λw1 h1=>PY (I6 hs) w1) rfl rfl ?_;refine cV ?_;refine cU rfl ?_;refine aK (.tuple #[.agg (Us (ws ((if le (sig.drop 32) < LL then le (sig.drop 32) else 0)))).toArray,.bool ((decide (le (sig.drop 32) < LL)))]) rfl rfl rfl rfl rfl ?_;refine cV ?_;refine cU rfl ?_;refine dQ (.agg (Us (ws ((if le (sig.drop 32) < LL then le (sig.drop 32) else 0)))).toArray) rfl rfl rfl rfl rfl rfl ?_;refine cV ?_;refine cU rfl ?_;refine dQ (.bool ((decide (le (sig.drop 32) < LL)))) rfl rfl rfl rfl rfl rfl ?_;refine cV ?_;refine jC λW7 hw7 hF7=>?_;clear hF7;replace b1:=b1.later hw7;replace b2:=b2.later hw7;replace b4:=b4.later hw7;replace hU:=hU.step hw7;clear hw7;refine cT z4 rfl rfl rfl rfl (by kernel_rfl) λW8 g8 hw8 hg8 b8=>?_
   have n1_8 : g1 ≠ g8:=by have:=b1.lt; omega
   have n2_8 : g2 ≠ g8:=by have:=b2.lt; omega
   have n4_8 : g4 ≠ g8:=by have:=b4.lt; omega
   have q8 : w.heap.size <= g8:=by rw [hg8]; exact hU.size
   replace b1:=b1.later hw8;replace b2:=b2.later hw8;replace b4:=b4.later hw8;replace hU:=hU.step hw8;clear hw8 hg8;refine mH g8 _ ((Us (ws ((if le (sig.drop 32) < LL then le (sig.drop 32) else 0)))).toArray) rfl rfl rfl rfl rfl b8 (pQ _) (by rw [aT (eT _)]; rfl) (bP _) ?_;replace b1:=b1.aR n1_8 ((Us (ws ((if le (sig.drop 32) < LL then le (sig.drop 32) else 0)))).toArray);replace b2:=b2.aR n2_8 ((Us (ws ((if le (sig.drop 32) < LL then le (sig.drop 32) else 0)))).toArray);replace b4:=b4.aR n4_8 ((Us (ws ((if le (sig.drop 32) < LL then le (sig.drop 32) else 0)))).toArray);replace b8:=b8.row ((Us (ws ((if le (sig.drop 32) < LL then le (sig.drop 32) else 0)))).toArray);replace hU:=cM hU q8 ((Us (ws ((if le (sig.drop 32) < LL then le (sig.drop 32) else 0)))).toArray);generalize dU _ g8 ((Us (ws ((if le (sig.drop 32) < LL then le (sig.drop 32) else 0)))).toArray) = W9 at *;refine cP (.bool ((decide (le (sig.drop 32) < LL)))) rfl rfl rfl rfl rfl ?_;refine bG ?_;refine hK _ _ ?_;clear hK K
   by_cases hS : le (sig.drop 32) < LL
   ·rw [decide_eq_true hS]
    refine aM λK0 hK0=>?_;refine aM λK hK=>?_;refine xP 2 ?_;refine cU rfl ?_;refine aK (.bool true) rfl rfl rfl rfl rfl ?_;refine cV ?_;refine cU rfl ?_;refine DP true false rfl rfl rfl rfl rfl rfl ?_;refine cV ?_;refine jC λW10 hw10 hF10=>?_;clear hF10;replace b1:=b1.later hw10;replace b2:=b2.later hw10;replace b4:=b4.later hw10;replace b8:=b8.later hw10;replace hU:=hU.step hw10;clear hw10;refine bG ?_;refine hK _ _ ?_;clear hK K;refine cB false rfl ?_;rw [if_neg (by decide)];refine eZ ?_;refine hK0 _ _ ?_;clear hK0 K0;rw [if_pos hS] at b8;refine aM λK hK=>?_;refine xP 3 ?_;refine cU rfl ?_;refine sV g2 rfl rfl rfl rfl rfl ?_;refine cV ?_;refine cU rfl ?_;refine I2 (some ⟨g2,0,none⟩) 64 rfl rfl rfl rfl rfl ?_;refine cV ?_;refine cU rfl ?_;refine tG g2 0 (zJ hs) rfl rfl rfl rfl rfl (λ_ h1=>M2 (h1.1.blk b2) hs) ?_;refine cV ?_;refine jC λW11 hw11 hF11=>?_;clear hF11;replace b1:=b1.later hw11;replace b4:=b4.later hw11;replace b8:=b8.later hw11;replace hU:=hU.step hw11;clear hw11;refine cT z32 rfl rfl rfl rfl (by kernel_rfl) λW12 g12 hw12 hg12 b12=>?_
    have n1_12 : g1 ≠ g12:=by have:=b1.lt; omega
    have n4_12 : g4 ≠ g12:=by have:=b4.lt; omega
    have n8_12 : g8 ≠ g12:=by have:=b8.lt; omega
    have q12 : w.heap.size <= g12:=by rw [hg12]; exact hU.size
    replace b1:=b1.later hw12;replace b4:=b4.later hw12;replace b8:=b8.later hw12;replace hU:=hU.step hw12;clear hw12 hg12;refine mH g12 _ ((By (sig.take 32)).toArray) rfl rfl rfl rfl rfl b12 (lC (zJ hs)) (by rw [iY (zJ hs)]; rfl) (kD _) ?_;replace b1:=b1.aR n1_12 ((By (sig.take 32)).toArray);replace b4:=b4.aR n4_12 ((By (sig.take 32)).toArray);replace b8:=b8.aR n8_12 ((By (sig.take 32)).toArray);replace b12:=b12.row ((By (sig.take 32)).toArray);replace hU:=cM hU q12 ((By (sig.take 32)).toArray);generalize dU _ g12 ((By (sig.take 32)).toArray) = W13 at *;refine bG ?_;refine hK _ _ ?_;clear hK K;refine aM λK hK=>?_;refine c_g 5 (by decide) (by kernel_rfl) (by kernel_rfl) ?_;refine cU rfl ?_;refine mI g12 rfl rfl rfl rfl rfl ?_;refine cV ?_;refine cU rfl ?_;refine mI g1 rfl rfl rfl rfl rfl ?_;refine cV ?_;refine cU rfl ?_;refine aK (.slice P ls.length pc) rfl rfl rfl rfl rfl ?_;refine cV ?_;refine cU rfl ?_
    refine dG #[.slice (some ⟨g12,0,none⟩) 32 32,.slice (some ⟨g1,0,none⟩) 32 32,.slice P ls.length pc] (.agg (Us (ws ((sgK (sig.take 32) (eN A) ls.flatten)))).toArray) rfl rfl rfl xD (λw1 h1=>by
      have:=BZ (P:=P) (ls:=ls) (pc:=pc) w1 (hT.below (hU.step h1.1)).sh (SB.all (b12.later h1.1) (zJ hs) (by decide)) (SB.all (b1.later h1.1) hk (by decide)) (hP.later (hU.step h1.1)) h0 hls
      rwa [MP] at this) rfl rfl ?_
    refine cV ?_;refine yU z4 (W13).heap.size rfl rfl rfl rfl rfl (by kernel_rfl) (λ_ h=>h.size) (λg w w' h hr=>⟨h.1,h.2.later hr⟩) λg14 _ _ _ _=>?_;refine jC λW15 hw15 hF15=>?_;have b14:=(hF15 4 _ rfl).2;have ge14:=(hF15 4 _ rfl).1
    have n1_14 : g1 ≠ g14:=by have:=b1.lt; omega
    have n4_14 : g4 ≠ g14:=by have:=b4.lt; omega
    have n8_14 : g8 ≠ g14:=by have:=b8.lt; omega
    have n12_14 : g12 ≠ g14:=by have:=b12.lt; omega
    have q14 : w.heap.size <= g14:=jL hU.size ge14;clear ge14;clear hF15;replace b1:=b1.later hw15;replace b4:=b4.later hw15;replace b8:=b8.later hw15;replace b12:=b12.later hw15;replace hU:=hU.step hw15;clear hw15;refine mH g14 _ ((Us (ws ((sgK (sig.take 32) (eN A) ls.flatten)))).toArray) rfl rfl rfl rfl rfl b14 (pQ _) (by rw [aT (eT _)]; rfl) (bP _) ?_;replace b1:=b1.aR n1_14 ((Us (ws ((sgK (sig.take 32) (eN A) ls.flatten)))).toArray);replace b4:=b4.aR n4_14 ((Us (ws ((sgK (sig.take 32) (eN A) ls.flatten)))).toArray);replace b8:=b8.aR n8_14 ((Us (ws ((sgK (sig.take 32) (eN A) ls.flatten)))).toArray);replace b12:=b12.aR n12_14 ((Us (ws ((sgK (sig.take 32) (eN A) ls.flatten)))).toArray);replace b14:=b14.row ((Us (ws ((sgK (sig.take 32) (eN A) ls.flatten)))).toArray);replace hU:=cM hU q14 ((Us (ws ((sgK (sig.take 32) (eN A) ls.flatten)))).toArray);generalize dU _ g14 ((Us (ws ((sgK (sig.take 32) (eN A) ls.flatten)))).toArray) = W16 at *;refine bG ?_;refine hK _ _ ?_;clear hK K;refine aM λK hK=>?_;refine c_g 11 (by decide) (by kernel_rfl) (by kernel_rfl) ?_;refine cU rfl ?_;refine ET g8 ((le (sig.drop 32))) rfl rfl rfl rfl rfl (λ_ h1=>(h1.1.blk b8).range) ?_;refine cV ?_;refine cU rfl ?_;refine dG #[.agg (Us (ws ((le (sig.drop 32))))).toArray] (.agg (By (Nums.bytes 32 ((le (sig.drop 32))))).toArray) rfl rfl rfl pU (λw1 h1=>tS ((le (sig.drop 32))) w1) rfl rfl ?_;refine cV ?_;refine cU rfl ?_;refine rD g4 0 hl.len rfl rfl rfl rfl rfl (λ_ h1=>(h1.1.blk b4).range) ?_;refine cV ?_;refine cU rfl ?_;refine eV #[.agg (Us l).toArray] (QB · (Ed.neg A)) rfl rfl rfl NA (λw1 h1=>TU (.inr hl) w1 (hT.below (hU.step h1.1)).tw) rfl rfl λr43 v43=>?_;refine cV ?_;refine cU rfl ?_;refine ET g14 ((sgK (sig.take 32) (eN A) ls.flatten)) rfl rfl rfl rfl rfl (λ_ h1=>(h1.1.blk b14).range) ?_;refine cV ?_;refine cU rfl ?_;refine dG #[.agg (Us (ws ((sgK (sig.take 32) (eN A) ls.flatten)))).toArray] (.agg (By (Nums.bytes 32 ((sgK (sig.take 32) (eN A) ls.flatten)))).toArray) rfl rfl rfl pU (λw1 h1=>tS ((sgK (sig.take 32) (eN A) ls.flatten)) w1) rfl rfl ?_;refine cV ?_;refine cU rfl ?_;refine eV #[.agg (By (Nums.bytes 32 ((le (sig.drop 32))))).toArray,.agg (Us r43).toArray,.agg (By (Nums.bytes 32 ((sgK (sig.take 32) (eN A) ls.flatten)))).toArray] (PB · (Ed.add dd (Ed.mul dd (le (Nums.bytes 32 ((le (sig.drop 32))))) base) (Ed.mul dd (le (Nums.bytes 32 ((sgK (sig.take 32) (eN A) ls.flatten)))) (Ed.neg A)))) rfl rfl rfl Lv (λw1 h1=>Rm (cK _ _) (.inr v43) (cK _ _) w1 (hT.below (hU.step h1.1)).tw) rfl rfl λr46 v46=>?_;refine cV ?_;refine cU rfl ?_;refine dG #[.agg (Us r46).toArray] (.agg (By (eN (Ed.add dd (Ed.mul dd (le (Nums.bytes 32 ((le (sig.drop 32))))) base) (Ed.mul dd (le (Nums.bytes 32 ((sgK (sig.take 32) (eN A) ls.flatten)))) (Ed.neg A))))).toArray) rfl rfl rfl Dp (λw1 h1=>KB v46 w1 (hT.below (hU.step h1.1)).tw) rfl rfl ?_
    refine cV ?_;refine cU rfl ?_;refine tG g12 0 (zJ hs) rfl rfl rfl rfl rfl (λ_ h1=>(h1.1.blk b12).range) ?_;refine cV ?_;refine cU rfl ?_;refine U8 (eN (Ed.add dd (Ed.mul dd (le (Nums.bytes 32 ((le (sig.drop 32))))) base) (Ed.mul dd (le (Nums.bytes 32 ((sgK (sig.take 32) (eN A) ls.flatten)))) (Ed.neg A)))) (sig.take 32) rfl rfl rfl rfl rfl rfl rfl ((gH _)) (zJ hs) ?_;refine cV ?_;refine cU rfl ?_;refine bU (.bool ((decide (eN (Ed.add dd (Ed.mul dd (le (Nums.bytes 32 ((le (sig.drop 32))))) base) (Ed.mul dd (le (Nums.bytes 32 ((sgK (sig.take 32) (eN A) ls.flatten)))) (Ed.neg A))) = sig.take 32)))) rfl rfl rfl rfl rfl ?_;refine cV ?_;refine jC λW17 hw17 hF17=>?_;clear hF17;replace b1:=b1.later hw17;replace b4:=b4.later hw17;replace hU:=hU.step hw17;clear hw17;refine bG ?_;refine hK _ _ ?_;clear hK K;rw [Lk hA h8 hS];exact gI (λa ha=>bodyPost_ret (results_tmp rfl _ _ _) ha.defers ⟨congrArg l7 (ha.get 6 _ rfl),hU⟩)
   ·rw [decide_eq_false hS]
    refine aM λK0 hK0=>?_;refine aM λK hK=>?_;refine xP 2 ?_;refine cU rfl ?_;refine aK (.bool false) rfl rfl rfl rfl rfl ?_;refine cV ?_;refine cU rfl ?_;refine DP false true rfl rfl rfl rfl rfl rfl ?_;refine cV ?_;refine jC λW10 hw10 hF10=>?_;clear hF10;replace b1:=b1.later hw10;replace b4:=b4.later hw10;replace hU:=hU.step hw10;clear hw10;refine bG ?_;refine hK _ _ ?_;clear hK K;refine cB true rfl ?_;rw [if_pos rfl];refine aM λK hK=>?_;refine eQ ?_;refine cP (.bool false) rfl rfl rfl rfl rfl ?_;refine bG ?_;refine hK _ _ ?_;clear hK K;rw [Ek hS];exact gI (lG (λa ha=>bodyPost_ret (results_tmp rfl _ _ _) ha.defers ⟨congrArg l7 (ha.get 6 _ rfl),hU⟩))
 ·refine aM λK hK=>?_
  refine xP 5 ?_;refine cU rfl ?_;refine tG g1 0 hk rfl rfl rfl rfl rfl (λ_ h1=>(h1.1.blk b1).range) ?_;refine cV ?_;refine cU rfl ?_;refine dG #[.agg (By key).toArray] (.tuple #[.agg (Us pz).toArray,.int .i64 50]) rfl rfl rfl AE (λw1 h1=>Rk hk hA w1 (hT.below (hU.step h1.1)).tw) rfl rfl ?_;refine cV ?_;refine cU rfl ?_;refine aK (.tuple #[.agg (Us pz).toArray,.int .i64 50]) rfl rfl rfl rfl rfl ?_;refine cV ?_;refine cU rfl ?_;refine dQ (.agg (Us pz).toArray) rfl rfl rfl rfl rfl rfl ?_;refine cV ?_;refine cU rfl ?_;refine dQ (.int .i64 50) rfl rfl rfl rfl rfl rfl ?_;refine cV ?_;refine jC λW3 hw3 hF3=>?_;clear hF3;replace hU:=hU.step hw3;clear hw3;refine cT ((Us pz).toArray) rfl rfl rfl rfl (by kernel_rfl) λW4 g4 hw4 hg4 b4=>?_
  have q4 : w.heap.size <= g4:=by rw [hg4]; exact hU.size
  replace hU:=hU.step hw4;clear hw4 hg4;refine mH g4 _ ((Us pz).toArray) rfl rfl rfl rfl rfl b4 (dR eX) ((aT eX).trans (aT eX).symm) (bP _) ?_;replace hU:=cM hU q4 ((Us pz).toArray);generalize dU _ g4 ((Us pz).toArray) = W5 at *;refine cP (.int .i64 50) rfl rfl rfl rfl rfl ?_;refine bG ?_;refine hK _ _ ?_;clear hK K;refine aM λK0 hK0=>?_;refine aM λK hK=>?_;refine xP 6 ?_;refine cU rfl ?_;refine aK (.int .i64 50) rfl rfl rfl rfl rfl ?_;refine cV ?_;refine cU rfl ?_;refine Sb _ 0 true rfl rfl rfl rfl rfl rfl rfl (by decide) ?_;refine cV ?_;refine cU rfl ?_;refine aK (.bool true) rfl rfl rfl rfl rfl ?_;refine cV ?_;refine Oj rfl rfl rfl rfl rfl rfl rfl ?_;refine Oj rfl rfl rfl rfl rfl rfl rfl ?_;refine cU rfl ?_;refine TE (.bool true) rfl rfl rfl rfl rfl rfl ?_;refine cV ?_;refine jC λW6 hw6 hF6=>?_;clear hF6;replace hU:=hU.step hw6;clear hw6;refine bG ?_;refine hK _ _ ?_;clear hK K;refine cB true rfl ?_;rw [if_pos rfl];refine aM λK hK=>?_;refine eQ ?_;refine cP (.bool false) rfl rfl rfl rfl rfl ?_;refine bG ?_;refine hK _ _ ?_;clear hK K;rw [Lj hA];exact gI (lG (λa ha=>bodyPost_ret (results_tmp rfl _ _ _) ha.defers ⟨congrArg l7 (ha.get 6 _ rfl),hU⟩))
theorem Ny : Own 14:=λ_ _=>by go_simp
theorem zS : Own 11:=λ_ _=>by go_simp
set_option maxRecDepth 100000 in
set_option maxHeartbeats 2000000 in
theorem SH {seed b : List UInt8} (t : UInt8) {v : Value} (hs : seed.length = 32) (w : World) (hT : Ta w) (hv : SB w v b) (hb : b.length <= 140737488355312) :
  Calls Tryd.prog 14 #[.agg (By seed).toArray,.int .u8 (t.toNat : Int),v] w λe w'=>e = .returned (.agg (By (jH seed (msg t b))).toArray) /\ Below w.heap.size w w':=by
 refine e9 (vs:=[.agg (By seed).toArray,.int .u8 (t.toNat : Int),v]) 13 Tryd.func14 rfl (by rw [Tryd.ntmps14]; rfl) ?_;have hU:=Up.refl w;refine aM λK hK=>?_;refine eQ ?_;refine gB ((By seed).toArray) rfl rfl rfl rfl rfl λW1 g1 hw1 hg1 b1=>?_
 have q1 : w.heap.size <= g1:=by rw [hg1]; exact hU.size
 replace hU:=hU.step hw1;clear hw1 hg1;refine cT ((By z64).toArray) rfl rfl rfl rfl Br λW2 g2 hw2 hg2 b2=>?_
 have n1_2 : g1 ≠ g2:=by have:=b1.lt; omega
 have q2 : w.heap.size <= g2:=by rw [hg2]; exact hU.size
 replace b1:=b1.later hw2;replace hU:=hU.step hw2;clear hw2 hg2;refine bG ?_;refine hK _ _ ?_;clear hK K;refine aM λK hK=>?_;refine c_g 6 (by decide) (by kernel_rfl) (by kernel_rfl) ?_;refine cU rfl ?_;refine tG g1 0 hs rfl rfl rfl rfl rfl (λ_ h1=>(h1.1.blk b1).range) ?_;refine cV ?_;refine cU rfl ?_;refine aK (.int .u8 (t.toNat : Int)) rfl rfl rfl rfl rfl ?_;refine cV ?_;refine cU rfl ?_;refine aK (v) rfl rfl rfl rfl rfl ?_;refine cV ?_;refine IP #[.int .u8 (t.toNat : Int),v] (λu w=>SB w u (msg t b)) rfl rfl rfl rfl (λ_ _ _ h hr=>h.later hr) yK (λw1 h1 hu=>FG t w1 (hv.later (hU.step h1)) hb) rfl rfl λv10 _ _ _=>?_;refine uF [v10] [msg t b] (W2).heap.size rfl rfl rfl rfl rfl rfl rfl (by decide) (by decide) (λ_ h=>h.size) (λ_ h hu=>⟨(hu 3 _ rfl (by kernel_rfl) : SB _ v10 _),trivial⟩) λgs3 _ _ _=>?_;refine cU rfl ?_
 refine dG #[.agg (By seed).toArray,.slice (some ⟨gs3,0,none⟩) 1 1] (.agg (By (jH seed (msg t b))).toArray) rfl rfl rfl Nx (λw1 h1=>by
   have:=Sz (seed:=seed) (P:=some ⟨gs3,0,none⟩) (ls:=[msg t b]) (pc:=1) hs w1 (hT.below (hU.step h1.1)) ((h1.2 4 _ rfl (by kernel_rfl) : zD _ _ _ _ _).pt) (λe=>by cases e) (by simp)
   rwa [show [msg t b].flatten = msg t b from by simp] at this) rfl rfl ?_
 refine cV ?_;refine jC λW4 hw4 hF4=>?_;clear hF4;replace b1:=b1.later hw4;replace b2:=b2.later hw4;replace hU:=hU.step hw4;clear hw4;refine mH g2 _ ((By (jH seed (msg t b))).toArray) rfl rfl rfl rfl rfl b2 (yA ((kM _ _))) (by rw [bA,bA,b6,b6,((kM _ _))]; rfl) (kD _) ?_;replace b1:=b1.aR n1_2 ((By (jH seed (msg t b))).toArray);replace b2:=b2.row ((By (jH seed (msg t b))).toArray);replace hU:=cM hU q2 ((By (jH seed (msg t b))).toArray);generalize dU _ g2 ((By (jH seed (msg t b))).toArray) = W5 at *;refine bG ?_;refine hK _ _ ?_;clear hK K;exact gI (eC g2 _ rfl rfl b2 Tryd.underlying25 rfl (yA ((kM _ _))) ⟨rfl,hU⟩)
set_option maxRecDepth 100000 in
set_option maxHeartbeats 2000000 in
theorem Qp {key sig b : List UInt8} (t : UInt8) {v : Value} (hk : key.length = 32) (hs : sig.length = 64) (w : World) (hT : Ta w) (hv : SB w v b) (hb : b.length <= 140737488355312) :
  Calls Tryd.prog 11 #[.agg (By key).toArray,.int .u8 (t.toNat : Int),v,.agg (By sig).toArray] w λe w'=>e = .returned (.bool (kO key sig (msg t b))) /\ Below w.heap.size w w':=by
 refine e9 (vs:=[.agg (By key).toArray,.int .u8 (t.toNat : Int),v,.agg (By sig).toArray]) 16 Tryd.func11 rfl (by rw [Tryd.ntmps11]; rfl) ?_;have hU:=Up.refl w;refine aM λK hK=>?_;refine eQ ?_;refine gB ((By key).toArray) rfl rfl rfl rfl rfl λW1 g1 hw1 hg1 b1=>?_
 have q1 : w.heap.size <= g1:=by rw [hg1]; exact hU.size
 replace hU:=hU.step hw1;clear hw1 hg1;refine gB ((By sig).toArray) rfl rfl rfl rfl rfl λW2 g2 hw2 hg2 b2=>?_
 have n1_2 : g1 ≠ g2:=by have:=b1.lt; omega
 have q2 : w.heap.size <= g2:=by rw [hg2]; exact hU.size
 replace b1:=b1.later hw2;replace hU:=hU.step hw2;clear hw2 hg2;refine cP (.bool false) rfl rfl rfl rfl rfl ?_;refine bG ?_;refine hK _ _ ?_;clear hK K;refine aM λK hK=>?_;refine c_g 8 (by decide) (by kernel_rfl) (by kernel_rfl) ?_;refine cU rfl ?_;refine tG g1 0 hk rfl rfl rfl rfl rfl (λ_ h1=>(h1.1.blk b1).range) ?_;refine cV ?_;refine cU rfl ?_;refine OK g2 hs rfl rfl rfl rfl rfl (λ_ h1=>(h1.1.blk b2).range) ?_;refine cV ?_;refine cU rfl ?_;refine aK (.int .u8 (t.toNat : Int)) rfl rfl rfl rfl rfl ?_;refine cV ?_;refine cU rfl ?_;refine aK (v) rfl rfl rfl rfl rfl ?_;refine cV ?_;refine IP #[.int .u8 (t.toNat : Int),v] (λu w=>SB w u (msg t b)) rfl rfl rfl rfl (λ_ _ _ h hr=>h.later hr) yK (λw1 h1 hu=>FG t w1 (hv.later (hU.step h1)) hb) rfl rfl λv13 _ _ _=>?_;refine uF [v13] [msg t b] (W2).heap.size rfl rfl rfl rfl rfl rfl rfl (by decide) (by decide) (λ_ h=>h.size) (λ_ h hu=>⟨(hu 4 _ rfl (by kernel_rfl) : SB _ v13 _),trivial⟩) λgs3 _ _ _=>?_;refine cU rfl ?_
 refine dG #[.agg (By key).toArray,.agg (By sig).toArray,.slice (some ⟨gs3,0,none⟩) 1 1] (.bool (kO key sig (msg t b))) rfl rfl rfl Iq (λw1 h1=>by
   have:=Mv (key:=key) (sig:=sig) (P:=some ⟨gs3,0,none⟩) (ls:=[msg t b]) (pc:=1) hk hs w1 (hT.below (hU.step h1.1)) ((h1.2 5 _ rfl (by kernel_rfl) : zD _ _ _ _ _).pt) (λe=>by cases e) (by simp)
   rwa [show [msg t b].flatten = msg t b from by simp] at this) rfl rfl ?_
 refine cV ?_;refine cU rfl ?_;refine bU (.bool (kO key sig (msg t b))) rfl rfl rfl rfl rfl ?_;refine cV ?_;refine jC λW4 hw4 hF4=>?_;clear hF4;replace b1:=b1.later hw4;replace b2:=b2.later hw4;replace hU:=hU.step hw4;clear hw4;refine bG ?_;refine hK _ _ ?_;clear hK K;exact gI (λa ha=>bodyPost_ret (results_tmp rfl _ _ _) ha.defers ⟨congrArg l7 (ha.get 8 _ rfl),hU⟩)
def zH : List UInt8:=aD 32 0
def GJ (d k : List UInt8) : List UInt8:=eK b7 ([[3],d,k] : List (List UInt8)).flatten
def dH (ks : List (List UInt8)) : List UInt8:=ks.foldl GJ zH
def rA (ks : List (List UInt8)) : List UInt8:=eK b7 ([[2],be8 ks.length,dH ks] : List (List UInt8)).flatten
theorem oC (m : List UInt8) : (eK b7 m).length = 32:=wJ m
theorem EX (ks : List (List UInt8)) : (dH ks).length = 32:=by
 unfold dH
 rw [List.foldl_eq_foldr_reverse]
 cases ks.reverse with
 | nil=>rfl
 | cons k r=>exact oC _
theorem Kw {ks : List (List UInt8)} {i : Nat} {k : List UInt8} (h : ks[i]? = some k) : dH (ks.take (i + 1)) = GJ (dH (ks.take i)) k:=by
 unfold dH
 rw [List.take_add_one,h,List.foldl_append]
 rfl
def VJ : List UInt8:=[220,72,167,66,174,50,207,214,99,82,55,45,97,32,237,20,214,98,159,193,102,36,107,5,255,139,3,226,56,4,112,31]
theorem PN : rA [] ≠ rA [zH]:=by
 have h1 : dH [zH] = VJ:=by
  show eK b7 _ = _
  rw [Ah 2 _ (by decide) (by decide) (by decide +kernel)]
  decide +kernel
 unfold rA
 rw [h1,Ah 1 _ (by decide) (by decide) (by decide +kernel),Ah 1 _ (by decide) (by decide) (by decide +kernel)]
 decide +kernel
structure UV where
  id : List UInt8
  ver : Int
  key : List UInt8
  sig : List UInt8
def UV.parts (u : UV) : List Pt:=[.agg 32 (By u.id).toArray,.one (.v (.int .i64 u.ver)),.agg 32 (By u.key).toArray,.agg 64 (By u.sig).toArray]
abbrev eU (u : UV) : SQ:=.p u.parts
structure UV.Ok (u : UV) : Prop where
  id : u.id.length = 32
  key : u.key.length = 32
  sig : u.sig.length = 64
theorem UV.Ok.rP {u : UV} (h : u.Ok) : OkP u.parts:=λp hp=>by
 simp only [UV.parts,cA,List.not_mem_nil,or_false] at hp
 rcases hp with rfl | rfl | rfl | rfl
 ·exact (mU h.id).1 _ (cG.2 rfl)
 ·exact ⟨trivial,rfl,rfl⟩
 ·exact (mU h.key).1 _ (cG.2 rfl)
 ·exact (mU h.sig).1 _ (cG.2 rfl)
def tD (z : Int) : Nat:=(IntKind.u64.wrap z).toNat
theorem Jv (z : Int) : tD z < 18446744073709551616:=by
 unfold tD
 rw [My]
 omega
theorem Jw (z : Int) : IntKind.u64.wrap z = (tD z : Int):=by
 unfold tD
 rw [My]
 omega
def iI (v : Int) (k : List UInt8) : List UInt8:=be8 (tD v) ++ k
theorem sC {v : Int} {k : List UInt8} (h : k.length = 32) : (iI v k).length = 40:=by
 unfold iI
 rw [List.length_append,mW,h]
noncomputable def jS (u : UV) : Bool:=decide (1 <= u.ver /\ u.ver <= 64) && kO u.id u.sig (msg 1 (iI u.ver u.key))
noncomputable def mkH (seed : List UInt8) (v : Int) (k : List UInt8) : UV:=⟨gG seed,v,k,jH seed (msg 1 (iI v k))⟩
theorem B6 (seed : List UInt8) (v : Int) {k : List UInt8} (h : k.length = 32) : (mkH seed v k).Ok:=⟨lM _,h,kM _ _⟩
open Classical in
theorem Ii (seed : List UInt8) (m : List UInt8) : kO (gG seed) (jH seed m) m = true:=by
 unfold kO
 exact decide_eq_true (Li seed m)
theorem wY (seed : List UInt8) (v : Int) (k : List UInt8) : jS (mkH seed v k) = decide (1 <= v /\ v <= 64):=by
 unfold jS mkH
 dsimp only
 rw [Ii,Bool.and_true]
end Go.Proofs.YtfkchihlchlfdaaDoor
namespace Go.Proofs.YtfkchihlchlfdaaDoor
open Go.RowKit Go.IntWalk
section
variable {P : Program} {b : iF} {ops : Array Oper} {Q : Exit -> Act -> World -> Prop} {N : Nat} {E : SE} {L : List LV} {R : List Res} {F M : World -> Prop} {o : Oper} {rest : List Oper} {k : Nat}
theorem tE (v : SV) (hv : v.Ok) (hg : o.guard = none) (hd : o.dst = some k) (hk : aQ k N = true) (h : ∀ (G : Nat -> Nat) (a : Act) (w : World),Fr N (fY G E) a -> (execOp a.eval o).run P w = .ok (.value (v.den G)) w)
  (hn : lS P b ops Q N rest ⟨(k,v) :: E,L,R,F,M⟩) : lS P b ops Q N (o :: rest) ⟨E,L,R,F,M⟩:=λa w ⟨G,S,h1,h2,h3⟩=>by
 refine pL (Gl hg) (h G a w h1) ?_;rw [hd];exact hn _ w ⟨G,S,h1.put hk _,h2.cons hv,h3⟩
theorem UU (v : SV) (hv : v.Ok) (hg : o.guard = none) (hd : o.dst = some k) (hk : aQ k N = true) (h : ∀ (G : Nat -> Nat) (S : Nat -> Prop) (a : Act) (w : World),Fr N (fY G E) a -> View G S L R F M w -> (execOp a.eval o).run P w = .ok (.value (v.den G)) w)
  (hn : lS P b ops Q N rest ⟨(k,v) :: E,L,R,F,M⟩) : lS P b ops Q N (o :: rest) ⟨E,L,R,F,M⟩:=λa w ⟨G,S,h1,h2,h3⟩=>by
 refine pL (Gl hg) (h G S a w h1 h3.view) ?_;rw [hd];exact hn _ w ⟨G,S,h1.put hk _,h2.cons hv,h3⟩
variable {T' : List Oper} {G : Nat -> Nat} {S : Nat -> Prop} {w0 : World} {grest : List (Nat × Oper)} {i : Nat}
theorem U1 (v : SV) (hv : v.Ok) (hg : o.guard = none) (hd : o.dst = some k) (hk : aQ k N = true) (h : ∀ (G : Nat -> Nat) (a : Act) (w : World),Fr N (fY G E) a -> (execOp a.eval o).run P w = .ok (.value (v.den G)) w)
  (hn : gS P b ops Q N T' G w0 grest ((k,v) :: E)) : gS P b ops Q N T' G w0 ((i,o) :: grest) E:=λhE =>
 cU rfl (λa ha=>k5 (by simp [aL,hg]) (λw _=>h G a w ha) (by
  rw [hd]
  exact cV (o:=o) (hn (hE.cons hv)) _ (ha.put hk _)))
end
section
variable {N : Nat} {E : SE} {o : Oper} {x y : Operand} {t t' : TypeId}
theorem Ei {n : Nat} {l m : List UInt8} (ho : o.op = .binOp .eql t x y t') (hx : evS E x = some (.q (eY n l))) (hy : evS E y = some (.q (eY n m))) (ht : Tryd.prog.underlying t = some (.array n 5)) (hg : Tryd.prog.eqGuardType Tryd.prog.depth t = false) (hl : l.length = n) (hm : m.length = n) :
  ∀ (G : Nat -> Nat) (a : Act) (w : World),Fr N (fY G E) a -> (execOp a.eval o).run Tryd.prog w = .ok (.value ((SV.b (decide (l = m))).den G)) w:=λG a w ha=>by
 have h1 : a.eval x = .agg (By l).toArray:=ha.eval (eF hx);have h2 : a.eval y = .agg (By m).toArray:=ha.eval (eF hy)
 unfold execOp
 simp only [ho,h1,h2,aJ,run_eqGuard_agg (hm:=hg),aG,binOp,Op.equal,Op.maxDepth,rE 9998 n t l m ht hl hm w,aI]
 rfl
theorem yC {n : Nat} {l m : List UInt8} (ho : o.op = .binOp .neq t x y t') (hx : evS E x = some (.q (eY n l))) (hy : evS E y = some (.q (eY n m))) (ht : Tryd.prog.underlying t = some (.array n 5)) (hg : Tryd.prog.eqGuardType Tryd.prog.depth t = false) (hl : l.length = n) (hm : m.length = n) :
  ∀ (G : Nat -> Nat) (a : Act) (w : World),Fr N (fY G E) a -> (execOp a.eval o).run Tryd.prog w = .ok (.value ((SV.b (!decide (l = m))).den G)) w:=λG a w ha=>by
 have h1 : a.eval x = .agg (By l).toArray:=ha.eval (eF hx);have h2 : a.eval y = .agg (By m).toArray:=ha.eval (eF hy)
 unfold execOp
 simp only [ho,h1,h2,aJ,run_eqGuard_agg (hm:=hg),aG,binOp,Op.equal,Op.maxDepth,rE 9998 n t l m ht hl hm w,aI]
 rfl
theorem P4 {m n : Int} (ho : o.op = .binOp .xor 5 x y t') (hx : evS E x = some (.v (.int .u8 m))) (hy : evS E y = some (.v (.int .u8 n))) :
  ∀ (G : Nat -> Nat) (a : Act) (w : World),Fr N (fY G E) a -> (execOp a.eval o).run Tryd.prog w = .ok (.value ((SV.v (.int .u8 (bits .xor .u8 m n))).den G)) w:=λG a w ha=>by
 have h1 : a.eval x = .int .u8 m:=ha.eval (eF hx);have h2 : a.eval y = .int .u8 n:=ha.eval (eF hy)
 unfold execOp
 simp only [ho,h1,h2]
 go_simp
 rfl
theorem P6 {p q : Nat} (ho : o.op = .call { callee:=.builtin .min,args:=#[x,y],argTypes:=#[3,3] }) (hx : evS E x = some (.v (.int .i64 (p : Int)))) (hy : evS E y = some (.v (.int .i64 (q : Int)))) :
  ∀ (G : Nat -> Nat) (a : Act) (w : World),Fr N (fY G E) a -> (execOp a.eval o).run Tryd.prog w = .ok (.value ((SV.v (.int .i64 ((min p q : Nat) : Int))).den G)) w:=λG a w ha=>by
 have h1 : a.eval x = .int .i64 (p : Int):=ha.eval (eF hx);have h2 : a.eval y = .int .i64 (q : Int):=ha.eval (eF hy)
 unfold execOp
 simp only [ho];generalize a.eval = ρ at *
 show _ = Result.ok (Next.value (.int .i64 ((min p q : Nat) : Int))) w
 go_simp
 split <;> omega
theorem run_sizeOf {P : Program} {e : TypeId} {k : Nat} (he : (P.info? e).map (·.size) = some k) (w : World) : (sizeOf e).run P w = .ok k w:=by
 cases hq : P.info? e with
 | none=>simp [hq] at he
 | some ie =>
  have hs : ie.size = k:=by simpa [hq] using he
  simp [sizeOf,typeInfo,hq,hs]
theorem zM {A : Option Addr} {n c j sz : Nat} {e : TypeId} (he : (Tryd.prog.info? e).map (·.size) = some sz) (hj : j <= c) (hA : A = none -> c = 0) (ho : o.op = .slice t x none (some y) none) (hu : Tryd.prog.underlying t = some (.slice e)) (hx : evS E x = some (.v (.slice A n c))) (hy : evS E y = some (.v (.int .i64 (j : Int)))) :
  ∀ (G : Nat -> Nat) (a : Act) (w : World),Fr N (fY G E) a -> (execOp a.eval o).run Tryd.prog w = .ok (.value ((SV.v (.slice A j c)).den G)) w:=λG a w ha=>by
 have h1 : a.eval x = .slice A n c:=ha.eval (eF hx);have h2 : a.eval y = .int .i64 (j : Int):=ha.eval (eF hy)
 have h3 : (j : Int) <= (c : Int):=by omega
 have h4 : (0 : Int) <= (j : Int):=by omega
 have h5:=run_sizeOf he w
 unfold execOp
 simp only [ho];generalize a.eval = ρ at *;simp only [Option.map,h1,h2]
 show _ = Result.ok (Next.value (.slice A j c)) w
 cases A with
 | none =>
  have:=hA rfl;obtain rfl : c = 0:=this
  obtain rfl : j = 0:=by omega
  go_simp
 | some ad=>go_simp
end
theorem FF {f : FuncId} {args : List Value} {F : World -> Prop} [Pst F] (h : Spec f args [] F (one (.v (.bool true)))) {W : World} (hF : F W) : Calls Tryd.prog f args.toArray W λe W'=>e = .returned (.bool true) /\ Below W.heap.size W W' :=
 (h W (λ_=>False) (λ_=>False) (λ_ h=>h) (λ_ h=>h.elim) (Stb.Ix hF λ_ _ h=>h.elim id id)).mono λ_ _ ⟨_,_,h1,_,h2,_⟩=>⟨h1,h2.up λ_ _ h=>h⟩
theorem Ld {P : Program} {t e : TypeId} {n sz : Nat} (ht : P.underlying t = some (.array n e)) (he : (P.info? e).map (·.size) = some sz) (g o : Nat) (K : IntKind) (i : Nat) (hi : i < n) (w : World) :
  (mL t (.pointer (some ⟨g,o,none⟩)) (.int K (i : Int))).run P w = .ok (.pointer (some ⟨g,o + sz * i,none⟩)) w:=by
 cases hq : P.info? e with
 | none=>simp [hq] at he
 | some ie =>
  have hs : ie.size = sz:=by simpa [hq] using he
  have h1 : (i : Int) < (n : Int):=by omega
  have h2 : (0 : Int) <= (i : Int):=by omega
  simp [mL,asIntOf,nJ,run_underlying ht,sizeOf,typeInfo,hq,hs,k9,gN,hi]
section
variable {P : Program} {T : List TyR} {b : iF} {ops : Array Oper} {Q : Exit -> Act -> World -> Prop} {N : Nat} {E : SE} {L : List LV} {R : List Res} {F M : World -> Prop} {o : Oper} {rest : List Oper} {k : Nat} {t e : TypeId} {x y z : Operand} {K : IntKind} {j off n sz g : Nat}
theorem FP (i : Nat) (ho : o.op = .indexAddr t x y) (ht : P.underlying t = some (.array n e)) (he : (P.info? e).map (·.size) = some sz) (hx : evS E x = some (.a j off)) (hy : evS E y = some (.v (.int K (i : Int)))) (hi : i < n) :
  ∀ (G : Nat -> Nat) (a : Act) (w : World),Fr N (fY G E) a -> (execOp a.eval o).run P w = .ok (.value ((SV.a j (off + sz * i)).den G)) w:=λG a w ha=>by
 have e1:=ha.eval (eF hx);have e2:=ha.eval (eF hy)
 unfold execOp
 simp only [ho,e1,e2,SV.den,SQ.den,SC.den,aJ,Ld ht he _ _ _ _ hi,aG,aI]
theorem MV {d : TypeDesc} {ps : List Pt} (v : Value) (ho : o.op = .load t x) (hx : evS E x = some (.a j off)) (hl : wF L j = some ps) (hv : (eO ps)[off]? = some v) (hu : P.underlying t = some d) (hr : d.isRow = false) :
  ∀ (G : Nat -> Nat) (S : Nat -> Prop) (a : Act) (w : World),Fr N (fY G E) a -> View G S L R F M w -> (execOp a.eval o).run P w = .ok (.value ((SV.v v).den G)) w:=λG S a w ha hvw=>by
 obtain ⟨z,hz,rfl,rfl⟩:=mG hl;have hb:=(hvw.var z hz).1
 have hc : w.cell? ⟨G z.j,off,none⟩ = some v:=by rw [hb.cell]; exact hv
 have e1:=ha.eval (eF hx)
 unfold execOp
 simp only [ho,e1,SV.den,SQ.den,SC.den,wC hu hr hc,aJ,aI,aG]
theorem UT {ps : List Pt} {v : Value} (ps' : List Pt) (hg : o.guard = none) (hd : o.dst = none) (ho : o.op = .store t x z) (hx : evS E x = some (.a j off)) (hz : evS E z = some (.v v)) (hl : wF L j = some ps) (ht : (P.info? t).map (·.size) = some 1) (h1 : v.cells = #[v]) (h2 : v.oneCell' = true) (hlt : off < (eO ps).size) (hp : OkP ps')
  (hs : (eO ps').toList = (eO ps).toList.set off v) (hn : lS P b ops Q N rest ⟨E,BK L j ps',R,F,M⟩) : lS P b ops Q N (o :: rest) ⟨E,L,R,F,M⟩:=λa w ⟨G,S,f1,f2,f3⟩=>by
 obtain ⟨u,hu,rfl,rfl⟩:=mG hl;have e1:=f1.eval (eF hx);have e2:=f1.eval (eF hz);have hst:=pR (P:=P) (t:=t) (v:=v) (off:=off) (f3.at u hu) (by rw [ht,h1]; rfl) (by rw [h1]; exact hlt) (by rw [h1]; intro u hu; simp at hu; subst hu; exact h2)
 have e3 : ((eO u.ps).toList.take off ++ v.cells.toList ++ (eO u.ps).toList.drop (off + v.cells.size)).toArray = eO ps':=by
  apply Array.ext'
  rw [hs,List.set_eq_take_append_cons_drop,if_pos (by simpa using hlt),h1]
  simp
 rw [e3] at hst
 refine Fk (w':=w.setRow (G u.j) (eO ps')) (Gl hg) (by
  unfold execOp
  simp only [ho,e1,e2,SV.den,SQ.den,SC.den,hst,aJ,aI,aG]) ?_
 rw [hd];exact hn _ _ ⟨G,S,f1,f2,f3.set (B8 hl) hp⟩
end
section
variable {α : Type} {fe : α -> SQ} {l : List α} {P : Program} {T : List TyR} {b : iF} {ops : Array Oper} {Q : Exit -> Act -> World -> Prop} {N : Nat} {E : SE} {L : List LV} {R : List Res} {F M : World -> Prop} {o : Oper} {rest : List Oper} {k : Nat} {t e : TypeId} {x y z : Operand} {A : Option Addr} {lo c sz bs g m : Nat}
theorem QI (lo : Nat) (fe : α -> SQ) (hg : o.guard = none) (hd : o.dst = some k) (hk : aQ k N = true) (ho : o.op = .buildSlice t 0 #[]) (hlo : lo <= b.B.heap.size)
  (hr : ∀ w : World,(Instr.buildSlice t 0 #[]).run P w = .ok (.slice (some ⟨w.heap.size,0,none⟩) 0 0) (w.alloc (.cells #[] e)))
  (hc : ∀ A,lS P b ops Q N rest ⟨(k,.v (.slice A 0 0)) :: E,L,gZ lo e sz fe A 0 [] :: R,F,M⟩) : lS P b ops Q N (o :: rest) ⟨E,L,R,F,M⟩:=λa w ⟨G,S,h1,h2,h3⟩=>by
 refine pL (v:=.slice (some ⟨w.heap.size,0,none⟩) 0 0) (w':=w.alloc (.cells #[] e)) (Gl hg) (by
  unfold execOp
  simp only [ho,eD,gK,aJ,hr,aG,aI]) ?_
 rw [hd];obtain ⟨S',h4⟩:=h3.Tu ((Below.refl w.heap.size w).alloc (aF _) (.cells #[] e)) (gZ.new (lo:=lo) (e:=e) (k:=sz) (fe:=fe) (l:=[]) w (jL hlo h3.chg.size) (λ_ h=>(by cases h)) (dC _)) (λj hj=>Nat.le_of_eq hj.symm);exact hc _ _ _ ⟨G,S',h1.put hk _,h2.cons trivial,h4⟩
theorem EI {A2 : Option Addr} {n c2 : Nat} (hT : OkT P T) (i : Nat) (m : List α) (hg : o.guard = none) (hd : o.dst = some k) (hk : aQ k N = true) (ho : o.op = .call { callee:=.builtin .append,args:=#[x,y],argTypes:=#[t,t] }) (hs : slS T t = some (e,sz,bs)) (hx : evS E x = some (.v (.slice A n c))) (hy : evS E y = some (.v (.slice A2 m.length c2)))
  (hi : R[i]? = some (gZ lo e sz fe A c l)) (hn : n = l.length) (hrd : ∀ G S w,View G S L R F M w -> Rd sz fe A2 c2 m w) (h0 : 0 < sz) (hb : (l.length + m.length) * bs <= 140737488355328) (hm : l.length + m.length <= 9223372036854775807 - 64) (hlo : lo <= b.B.heap.size)
  (hc : ∀ A' c',lS P b ops Q N rest ⟨(k,.v (.slice A' (l ++ m).length c')) :: E,L,R.set i (gZ lo e sz fe A' c' (l ++ m)),F,M⟩) : lS P b ops Q N (o :: rest) ⟨E,L,R,F,M⟩:=λa w ⟨G,S,f1,f2,f3⟩=>by
 have hR:=hrd G S w f3.view;obtain ⟨S1,h5,hput⟩:=f3.put hi;have e1:=f1.eval (eF hx);have e2:=f1.eval (eF hy);subst hn
 have key : ∃ A' c' w' S',(Builtin.append_ #[t,t] o.type #[.slice A l.length c,.slice A2 m.length c2]).run P w = .ok (.slice A' (l ++ m).length c') w' /\ Chg S1 w w' /\ (gZ lo e sz fe A' c' (l ++ m)).holds w' S' /\ ∀ k,S' k -> k < w.heap.size -> S1 k:=by
  cases hA2 : A2 with
  | none =>
   have hc2:=hR.2.2.1 hA2;have hml : m = []:=List.eq_nil_of_length_eq_zero (by have:=hR.1; omega);subst hml;subst hc2;obtain ⟨ht,ie,zz,hie,hz,hsz,hbs,hzs,_⟩:=zK hT hs;have hr:=run_append_owned_none (P:=P) w lo t o.type e ie sz ht hie _ l.length (iH fe l) h5.2.1;refine ⟨A,c,w,S1,by rw [cD]; exact hr,Chg.refl _ _,by rw [cD]; exact h5,λ_ h _=>h⟩
  | some ad =>
   refine gZ.grow hT (d:=c2) (ad:=ad) o.type hs h0 h5 hR.2.2.2.1 (λj v hj=>?_) hb hm (jL hlo f3.chg.size);have hlen:=rV hR.2.2.2.1;have hjl:=(List.getElem?_eq_some_iff.1 hj).1
   have hml : 0 < m.length:=by
    rcases Nat.eq_zero_or_pos m.length with h | h
    ·rw [hlen,h,Nat.zero_mul] at hjl
     omega
    ·exact h
   obtain ⟨bb,oo,e,_,hcell⟩:=hR.2.2.2.2 hml;rw [hA2] at e
   injection e with e
   subst e
   have hq : j / sz < m.length:=by
    rw [hlen] at hjl;exact Nat.div_lt_of_lt_mul (by rwa [gN] at hjl)
   obtain ⟨B,Z,h9,h10,_⟩:=AN hR.2.2.2.1 (bC hq);have hmod:=Nat.div_add_mod j sz;have hlt:=eR j h0;have hcl:=(hR.2.2.2.1 _ (List.getElem_mem hq)).2
   have hv : (fe m[j / sz]).cl[j % sz]? = some v:=by
    rw [h9,List.getElem?_append_right (by omega),h10,List.getElem?_append_left (by omega)] at hj
    rwa [show j - sz * (j / sz) = j % sz by omega] at hj
   have:=hcell (j / sz) _ (bC hq) (j % sz) v hv;rw [k9]
   rwa [Nat.add_assoc,hmod] at this
 obtain ⟨A',c',w',S',hr,hch,ho',hS'⟩:=key;obtain ⟨S'',h6⟩:=hput _ _ _ hch ho' hS'
 refine pL (v:=.slice A' (l ++ m).length c') (w':=w') (Gl hg) (by
  unfold execOp
  simp only [ho,resolve,invoke,builtin,aJ,aI,aG,eD,cH,gK,e1,e2,SV.den,SQ.den,SC.den,hr]) ?_
 rw [hd];exact hc A' c' _ _ ⟨G,S'',f1.put hk _,f2.cons trivial,h6⟩
end
theorem C6 (f : Int) (m : Nat) (h0 : 0 < m) (hm : m <= 4294967296) : ∃ k : Nat,k < m /\ k = (IntKind.u64.wrap f).toNat % m /\ IntKind.i64.wrap ((IntKind.u64.wrap f).tmod (m : Int)) = (k : Int):=by
 have h1 : 0 <= IntKind.u64.wrap f:=by show 0 <= f % 18446744073709551616; omega
 refine ⟨(IntKind.u64.wrap f).toNat % m,eR _ h0,rfl,?_⟩
 have h2 : (IntKind.u64.wrap f).tmod (m : Int) = (((IntKind.u64.wrap f).toNat % m : Nat) : Int):=by
  rw [Int.tmod_eq_emod_of_nonneg h1,Int.natCast_emod,Int.toNat_of_nonneg h1]
 have h3:=eR (IntKind.u64.wrap f).toNat h0;exact pK h2 (by omega) (by omega)
theorem Jq {m r : Int} (h : m = r) (h1 : 0 <= r) (h2 : r < 18446744073709551616) : IntKind.u64.wrap m = r:=by
 subst h
 show m % 18446744073709551616 = m
 omega
theorem O3 {z : Int} (h : 0 <= z /\ z < 256) : ∃ y : UInt8,z = (y.toNat : Int):=⟨UInt8.ofNat z.toNat,by rw [UInt8.toNat_ofNat']; omega⟩
theorem Sl (a : UInt8) : ∃ y : UInt8,bits .xor .u8 (a.toNat : Int) 1 = (y.toNat : Int):=by
 have key : ∀ m : Nat,m < 256 -> 0 <= bits .xor .u8 (m : Int) 1 /\ bits .xor .u8 (m : Int) 1 < 256:=by decide +kernel
 exact O3 (key a.toNat a.toNat_lt)
section
variable {P : Program} {T : List TyR} {b : iF} {ops : Array Oper} {Q : Exit -> Act -> World -> Prop} {N : Nat} {E E' : SE} {L : List LV} {R : List Res} {F M : World -> Prop} {o : Oper} {rest : List Oper} {k : Nat} {t ty : TypeId} {x z : Operand} {off g : Nat} {ps ps' : List Pt} {q : SQ}
theorem StW.VS {G : Nat -> Nat} {S : Nat -> Prop} {y : LV} {w : World} (h : StW b G S (y :: L) R F M w) : StW b G (λk=>k = G y.j \/ S k) L (RD (G y.j) y.t y.ps :: R) F M w:=by
 have hM : ∀ k,oV (λk=>k = G y.j \/ S k) G L k -> oV S G (y :: L) k:=λk hk=>by
  rcases hk with (rfl | hk) | ⟨j,hj,rfl⟩
  ·exact .inr ⟨y.j,bZ,rfl⟩
  ·exact .inl hk
  ·exact .inr ⟨j,bE _ hj,rfl⟩
 have hy:=h.var y bZ;have hap:=List.pairwise_cons.1 (show (y.j :: eH L).Pairwise λi j=>G i ≠ G j from h.apart);refine ⟨λx hx=>h.var x (bE _ hx),hap.2,⟨λk=>k = G y.j,S,⟨⟨hy.1,hy.2.1⟩,λ_=>Fg⟩,h.res,λ_=>Fg,λk hk hs=>h.sep y.j bZ (by rw [<-hk]; exact hs)⟩,λj hj hs=>?_,h.fact.less λk _ hk=>hk.imp id (hM k),h.fresh.less λk _ hk=>hk.imp id (hM k),h.chg,λk hk=>h.mine k (hM k hk),h.old⟩
 rcases hs with hs | hs
 ·exact hap.1 j hj hs.symm
 ·exact h.sep j (bE _ hj) hs
theorem IG {K : Act -> World -> Prop} {y : LV} (i : Nat) (hx : kU E i = some (.a y.j 0)) (hs : CX E' E) (h : ∀ g,kS b K N ⟨(i,.v (.pointer (some ⟨g,0,none⟩))) :: E',L,RD g y.t y.ps :: R,F,M⟩) : kS b K N ⟨E,y :: L,R,F,M⟩:=λa w ⟨G,S,h1,h2,h3⟩=>by
 refine h (G y.j) a w ⟨G,_,?_,(hs.ok h2).cons trivial,h3.VS⟩;exact (h1.sub (uL hs)).more (h1.get i _ (by rw [jJ,hx]; rfl))
end
section
variable {P : Program} {ops : Array Oper} {Q : Exit -> Act -> World -> Prop} {Inv : World -> Prop}
def tM (P : Program) (ops : Array Oper) (Q : Exit -> Act -> World -> Prop) (Inv : World -> Prop) (n m : Nat) : Nat -> Array Bool -> Act -> World -> Prop
  | 0,listed,a,w=>(∀ j ∈ bQ .any ops listed,∀ i,i < n -> iJ .any ops ops.size j i = true) /\ wpAny P .any ops Q m listed a w
  | fuel + 1,listed,a,w=>bQ .any ops listed ≠ [] /\ ∀ i ∈ bQ .any ops listed,wpOp P ops Q i (λa' w'=>Inv w' /\ tM P ops Q Inv n m fuel (listed.setIfInBounds i true) a' w') a w
theorem Bt {n m : Nat} : ∀ (fuel : Nat) (listed : Array Bool) (a : Act) (w : World),tM P ops Q Inv n m fuel listed a w -> wpAny P .any ops Q (m + fuel) listed a w
 | 0,_,_,_,h=>h.2
 | fuel + 1,_,_,_,h=>⟨λh0=>absurd h0 h.1,λi hi=>wpOp_mono (λa' w' h'=>Bt fuel _ a' w' h'.2) (h.2 i hi)⟩
theorem Bz {i : Nat} {oi : Oper} {v : Value} {K : Act -> World -> Prop} {a : Act} {w : World} (hi : ops[i]? = some oi) (hst : oR oi.op = true) (hy : iU P ops Inv oi (· = v) a) (hC : Inv w) (h : K (a.put oi.dst v) w) : wpOp P ops Q i K a w:=by
 unfold Go.wpOp
 simp only [hi]
 rcases hy with ⟨hw,hv⟩ | ⟨hw,hv⟩
 ·simp only [hw,if_true]
  refine .inl ?_;have h3:=hv w hC
  unfold atB at h3
  unfold Oper.wp
  cases hr : (execOp a.eval oi).run P w with
  | ok n w' =>
   rw [hr] at h3
   rcases BA hst hr with ⟨u,rfl⟩ | rfl
   ·simp only [oY] at h3
    obtain ⟨e1,e2⟩:=h3;subst e1 e2;exact h
   ·simp only [oY] at h3
    obtain ⟨e1,e2⟩:=h3;subst e1 e2;exact h
  | halt x w' =>
   rw [hr] at h3;simp only [oY] at h3
 ·simp only [hw,Bool.false_eq_true,if_false]
  rw [hv];exact h
theorem KJ {n m i : Nat} {oi : Oper} {v : Value} (hin : i < n) (hi : ops[i]? = some oi) (hst : oR oi.op = true) (hsel : ∀ (j : Nat) (o : Oper) cs b,ops[j]? = some o -> o.op ≠ .select cs b) (hQ : ∀ c a d v w,Q (.panic c) (a.put d v) w -> Q (.panic c) a w) :
  ∀ (fuel : Nat) (listed : Array Bool) (a : Act) (w : World),Inv w -> jA .any ops listed ->
   (∀ j oj,ops[j]? = some oj -> j ≠ i -> listed.getD j true = false -> (∀ e ∈ oj.after,eL .any e = true -> e.on ≠ i) -> oi.apart ops oj = true) ->
   i ∈ bQ .any ops listed -> iU P ops Inv oi (· = v) a -> tM P ops Q Inv n m fuel (listed.setIfInBounds i true) (a.put oi.dst v) w -> tM P ops Q Inv n m (fuel + 1) listed a w:=by
 intro fuel
 induction fuel with
 | zero =>
  intro listed a w hC hcs _ hr hy H
  refine ⟨λh=>(by rw [h] at hr; cases hr),λj hj=>?_⟩
  by_cases hji : j = i
  ·subst hji
   exact Bz hi hst hy hC ⟨hC,H⟩
  ·have h1:=H.1 j (ready_mono hj hji) i hin
   obtain ⟨_,oj,hoj,hall⟩:=mem_ready.1 hj;have h6:=hcs.waits _ j i oj hoj hall h1;rw [nR hr] at h6
   cases h6
 | succ fuel ih =>
  intro listed a w hC hcs hfree hr hy H
  refine ⟨λh=>(by rw [h] at hr; cases hr),λj hj=>?_⟩
  by_cases hji : j = i
  ·subst hji
   exact Bz hi hst hy hC ⟨hC,H⟩
  ·obtain ⟨hjun,oj,hoj,hall⟩:=mem_ready.1 hj
   have hnot : ∀ e ∈ oj.after,eL .any e = true -> e.on ≠ i:=λe he hb heq=>by
    have h1:=hall e he hb;rw [heq,nR hr] at h1
    cases h1
   have h2:=C7 (V:=(· = v)) hoj (hfree j oj hoj hji hjun hnot) (λcs b=>hsel i oi cs b hi) (λcs b=>hsel j oj cs b hoj) ⟨v,rfl⟩ (.inr ⟨v,λ_ h=>h⟩) hQ hy (λu hu=>by
    subst hu
    exact H.2 j (ready_mono hj hji))
   have hun' : ∀ k,(listed.setIfInBounds j true).getD k true = false -> listed.getD k true = false:=λk hun=>by
    by_cases hjk : j = k
    ·subst hjk; exact hjun
    ·rw [getD_set_ne true hjk] at hun; exact hun
   refine wpOp_mono (λa' w' h3=>?_) h2;obtain ⟨hy',h4⟩:=h3;obtain ⟨hC',h5⟩:=h4 v rfl;refine ⟨hC',ih (listed.setIfInBounds j true) a' w' hC' (hcs.set hj) (λk ok hk hki hun hno=>hfree k ok hk hki (hun' k hun) hno) (ready_mono hr (Ne.symm hji)) hy' ?_⟩;rw [Array.setIfInBounds_comm _ _ hji];exact h5
theorem KP {o : Oper} {a : Act} {K next : Act -> World -> Prop} (r : Result Next) (h : o.upon P a next (Exit.then K Q) r) : o.upon P a next Q r:=by
 cases r with
 | ok n w'=>cases n <;> exact h
 | halt x w'=>cases x <;> exact h
theorem xW {i : Nat} {o : Oper} {K : Act -> World -> Prop} {a : Act} {w : World} (hi : ops[i]? = some o) (h : wpList P ops (Exit.then K Q) [o] a w) : wpOp P ops Q i K a w:=by
 unfold Go.wpOp
 simp only [hi]
 unfold wpList at h
 split
 ·rename_i hw
  rw [if_pos hw] at h;refine h.imp (λh=>?_) id;exact Oper.wp_mono (λa' w' h'=>h') (KP _ h)
 ·rename_i hw
  rw [if_neg hw] at h;exact h
end
def RE (L : List LV) (w : World) : Prop:=∀ x ∈ L,∃ g,x.g = some g /\ Blk w g x.t (eO x.ps)
def aS (P : Program) (b : iF) (Q : Exit -> Act -> World -> Prop) (N : Nat) (ops : Array Oper) (Inv : World -> Prop) (n m fuel : Nat) (listed : Array Bool) (e : Env) : Prop:=jA .any ops listed -> ∀ a w,St b N e a w -> Inv w -> tM P ops (NoPanic Q) Inv n m fuel listed a w
def EO (ops : Array Oper) (n i : Nat) (listed : Array Bool) : Bool:=decide (i < n) && (bQ .any ops listed).contains i && Region.free .any ops listed i && Region.noSelect ops
section
variable {P : Program} {T : List TyR} {b : iF} {ops : Array Oper} {Q : Exit -> Act -> World -> Prop} {N n m fuel : Nat} {listed : Array Bool} {E : SE} {L L0 : List LV} {R : List Res} {F M : World -> Prop} {Inv : World -> Prop} {e : Env}
theorem Dj : ∀ c (a : Act) d v w,NoPanic Q (.panic c) (a.put d v) w -> NoPanic Q (.panic c) a w:=λ_ _ _ _ _ h=>h
theorem oD {o : Oper} {k : Nat} {v : SV} (hT : OkT P T) (i : Nat) (hc : EO ops n i listed = true) (ho : ops[i]? = some o) (hg : o.guard = none) (hd : o.dst = some k) (hk : aQ k N = true) (hs : oR o.op = true) (hv : nF T E L0 o.op = some v) (hsub : ∀ x ∈ L0,x ∈ L)
  (hn : aS P b Q N ops (RE L0) n m fuel (listed.setIfInBounds i true) ⟨(k,v) :: E,L,R,F,M⟩) : aS P b Q N ops (RE L0) n m (fuel + 1) listed ⟨E,L,R,F,M⟩:=λhcs a w hst hI=>by
 obtain ⟨G,S,h1,h2,h3⟩:=hst;simp only [EO,aV,decide_eq_true_eq] at hc;obtain ⟨⟨⟨hin,hr⟩,hfr⟩,hsel⟩:=hc
 have hr' : i ∈ bQ .any ops listed:=by simpa using hr
 obtain ⟨h4,h5⟩:=rK hT h2 (λx hx=>(h3.var x (hsub x hx)).2.1) hv;have h6:=hn (hcs.set hr') (a.put (some k) (v.den G)) w ⟨G,S,h1.put hk _,h2.cons h4,h3⟩ hI;refine KJ hin ho hs (Ap hsel) Dj fuel listed a w hI hcs (Region.free_spec ho hfr) hr' (v:=v.den G) (.inl ⟨by simp [aL,hg],λw' hw'=>?_⟩) (by rw [hd]; exact h6)
 unfold atB
 rw [h5 h1 λx hx=>by
  obtain ⟨g,e1,e2⟩:=hw' x hx;rw [(h3.var x (hsub x hx)).2.2 g e1]
  exact e2]
 exact ⟨rfl,rfl⟩
theorem zB {o : Oper} {k : Nat} (v : SV) (hvo : v.Ok) (i : Nat) (hc : EO ops n i listed = true) (ho : ops[i]? = some o) (hg : o.guard = none) (hd : o.dst = some k) (hk : aQ k N = true) (hs : oR o.op = true) (hv : ∀ (G : Nat -> Nat) (a : Act) (w : World),Fr N (fY G E) a -> (execOp a.eval o).run P w = .ok (.value (v.den G)) w)
  (hn : aS P b Q N ops Inv n m fuel (listed.setIfInBounds i true) ⟨(k,v) :: E,L,R,F,M⟩) : aS P b Q N ops Inv n m (fuel + 1) listed ⟨E,L,R,F,M⟩:=λhcs a w hst hI=>by
 obtain ⟨G,S,h1,h2,h3⟩:=hst;simp only [EO,aV,decide_eq_true_eq] at hc;obtain ⟨⟨⟨hin,hr⟩,hfr⟩,hsel⟩:=hc
 have hr' : i ∈ bQ .any ops listed:=by simpa using hr
 have h6:=hn (hcs.set hr') (a.put (some k) (v.den G)) w ⟨G,S,h1.put hk _,h2.cons hvo,h3⟩ hI;refine KJ hin ho hs (Ap hsel) Dj fuel listed a w hI hcs (Region.free_spec ho hfr) hr' (v:=v.den G) (.inl ⟨by simp [aL,hg],λw' _=>?_⟩) (by rw [hd]; exact h6)
 unfold atB
 rw [hv G a w' h1];exact ⟨rfl,rfl⟩
theorem Al {o : Oper} (i : Nat) (hr : bQ .any ops listed = [i]) (ho : ops[i]? = some o) (h : ∀ K : Act -> World -> Prop,(∀ e',(∀ a w,St b N e' a w -> Inv w) -> aS P b Q N ops Inv n m fuel (listed.setIfInBounds i true) e' -> kS b K N e') -> lS P b ops (Exit.then K (NoPanic Q)) N [o] e) : aS P b Q N ops Inv n m (fuel + 1) listed e:=λhcs a w hst _ =>
 ⟨by rw [hr]; simp,λj hj=>by
  rw [hr,cG] at hj;subst hj;have hcs':=hcs.set (i:=j) (by rw [hr]; simp)
  exact xW ho (h (λa' w'=>Inv w' /\ tM P ops (NoPanic Q) Inv n m fuel (listed.setIfInBounds j true) a' w') (λe' hI' ha a' w' hs'=>⟨hI' a' w' hs',ha hcs' a' w' hs' (hI' a' w' hs')⟩) a w hst)⟩
theorem KG {o o' : Oper} (i i' : Nat) (hr : bQ .any ops listed = [i,i']) (ho : ops[i]? = some o) (ho' : ops[i']? = some o')
  (h : ∀ K : Act -> World -> Prop,(∀ e',(∀ a w,St b N e' a w -> Inv w) -> aS P b Q N ops Inv n m fuel (listed.setIfInBounds i true) e' -> kS b K N e') -> lS P b ops (Exit.then K (NoPanic Q)) N [o] e)
  (h' : ∀ K : Act -> World -> Prop,(∀ e',(∀ a w,St b N e' a w -> Inv w) -> aS P b Q N ops Inv n m fuel (listed.setIfInBounds i' true) e' -> kS b K N e') -> lS P b ops (Exit.then K (NoPanic Q)) N [o'] e) : aS P b Q N ops Inv n m (fuel + 1) listed e:=λhcs a w hst _ =>
 ⟨by rw [hr]; simp,λj hj=>by
  rw [hr] at hj
  have key : ∀ (i : Nat) (o : Oper),i ∈ bQ .any ops listed -> ops[i]? = some o -> (∀ K : Act -> World -> Prop,(∀ e',(∀ a w,St b N e' a w -> Inv w) -> aS P b Q N ops Inv n m fuel (listed.setIfInBounds i true) e' -> kS b K N e') -> lS P b ops (Exit.then K (NoPanic Q)) N [o] e) -> wpOp P ops (NoPanic Q) i (λa' w'=>Inv w' /\ tM P ops (NoPanic Q) Inv n m fuel (listed.setIfInBounds i true) a' w') a w:=λi o hi ho h =>
   xW ho (h (λa' w'=>Inv w' /\ tM P ops (NoPanic Q) Inv n m fuel (listed.setIfInBounds i true) a' w') (λe' hI' ha a' w' hs'=>⟨hI' a' w' hs',ha (hcs.set hi) a' w' hs' (hI' a' w' hs')⟩) a w hst)
  rcases cA.1 hj with rfl | hj
  ·exact key _ o (by rw [hr]; simp) ho h
  ·rw [cG] at hj
   subst hj
   exact key _ o' (by rw [hr]; simp) ho' h'⟩
theorem Ak {l : List Oper} (hB : (D4 .any l.toArray n listed && kA .any l.toArray (l.drop n).length n listed) = true) (h : lS P b l.toArray (NoPanic Q) N (l.drop n) e) : aS P b Q N l.toArray Inv n (l.drop n).length 0 listed e:=λ_ a w hst _=>by
 simp only [aV] at hB;exact ⟨λj hj i hi=>cE.1 (cE.1 hB.1 j hj) i (List.mem_range.2 hi),jX (l.drop n) n listed a w (λj _=>by simp [List.getElem?_drop]) hB.2 (h a w hst)⟩
theorem StW.drew {G : Nat -> Nat} {S : Nat -> Prop} {w : World} (h : StW b G S L R F M w) : StW b G S L R F M w.drew:=h.later (Up.drew w)
theorem JI {l : List Oper} {id : Nat} (n : Nat) (L0 : List LV) (hm : P.follows .mixedOrders = true) (hn : n <= l.length) (h0 : ∀ a w,St b N e a w -> RE L0 w) (h : aS P b Q N l.toArray (RE L0) n (l.drop n).length n (Array.replicate l.toArray.size false) e) : cS P b (.region id l.toArray true) Q N e:=λa w hst=>by
 refine wp_region_noPanic (wp_region_any hm ?_);obtain ⟨G,S,h1,h2,h3⟩:=hst;have hd : St b N e a w.drew:=⟨G,S,h1,h2,h3.drew⟩;have h4:=Bt n _ a w.drew (h (jA.none _) a w.drew hd (h0 a _ hd))
 have e1 : (l.drop n).length + n = l.toArray.size:=by simp; omega
 rw [e1] at h4;exact h4
theorem rL {N : Nat} {E : SE} {o : Oper} {x : Operand} {t e : TypeId} {j off n sz : Nat} (ho : o.op = .slice t x none none none) (ht : P.underlying t = some (.array n e)) (he : (P.info? e).map (·.size) = some sz) (hx : evS E x = some (.a j off)) :
  ∀ (G : Nat -> Nat) (a : Act) (w : World),Fr N (fY G E) a -> (execOp a.eval o).run P w = .ok (.value ((SV.s j off n n).den G)) w:=λG a w ha=>by
 have h1 : a.eval x = .pointer (some ⟨G j,off,none⟩):=ha.eval (eF hx);have h5:=run_sizeOf he w
 unfold execOp
 simp only [ho];generalize a.eval = ρ at *;simp only [Option.map,h1]
 show _ = Result.ok (Next.value (.slice (some ⟨G j,off,none⟩) n n)) w
 simp [Instr.sliceAt,nJ,run_underlying ht,Instr.sliceBounds,h5,aJ,k9]
end
theorem Cj : ∀ {vs : List Value},(∀ v ∈ vs,v.cells = #[v]) -> (vs.flatMap λv=>v.cells.toList) = vs
 | [],_=>rfl
 | v :: vs,h=>by
  rw [List.flatMap_cons,h v bZ,Cj λu hu=>h u (bE _ hu)]
  rfl
section
variable {T : List TyR} {b : iF} {ops : Array Oper} {Q : Exit -> Act -> World -> Prop} {N : Nat} {E : SE} {L : List LV} {R : List Res} {F M : World -> Prop} {o1 o2 : Oper} {rest : List Oper} {k1 k2 bs e : Nat}
theorem J6 {f : FuncId} {n m t : Nat} {parts : Array (Nat × Operand)} {ats : Array TypeId} (hT : OkT Tryd.prog T) (vs : List SV) (ls : List (List UInt8)) (r : List UInt8) (hg1 : o1.guard = none) (hg2 : o2.guard = none) (hd1 : o1.dst = some k1) (hd2 : o2.dst = some k2) (hk1 : aQ k1 N = true) (hk2 : aQ k2 N = true)
  (ho1 : o1.op = .buildSlice t n parts) (ho2 : o2.op = .call { callee:=.value (.func f),args:=#[.tmp k1],argTypes:=ats }) (hs : slS T t = some (e,1,bs)) (hf : Own f)
  (hp : ∀ G : Nat -> Nat,parts.toList.map (λp=>(p.1,(evS E p.2).map (SV.den G))) = ((vs.map (SV.den G)).zipIdx 0).map λx=>(x.2,some x.1)) (hn : vs.length = n) (h0 : 0 < n) (h24 : n <= 16777216) (hr : r.length = m)
  (hc : ∀ A w,PT w A ls -> F w -> M w -> Calls Tryd.prog f #[.slice A n n] w λe w'=>e = .returned (.agg (By r).toArray) /\ Below w.heap.size w w')
  (hrd : ∀ G S w,View G S L R F M w -> lW w (vs.map (SV.den G)) ls)
  (hnx : ∀ A,lS Tryd.prog b ops Q N rest ⟨(k2,.q (eY m r)) :: (k1,.v (.slice A n n)) :: E,L,R,F,M⟩) : lS Tryd.prog b ops Q N (o1 :: o2 :: rest) ⟨E,L,R,F,M⟩:=λa w ⟨G,S,h1,h2,h3⟩=>by
 have hA:=hrd G S w h3.view;obtain ⟨ht,ie,z,hi,hz,hsz,hbs,hzs,_⟩:=zK hT hs
 have hrun:=Eg (P:=Tryd.prog) ht hi hz hsz (vs.map (SV.den G)) n (parts.map λ(i,x)=>(i,a.eval x)) (by rw [sJ]; exact vJ h1 _ _ (hp G)) (by rw [wT,hn]) (by omega) (by omega) (λv hv=>by
  rw [(hA.one v hv).1]
  rfl) w
 rw [Cj λv hv=>(hA.one v hv).1] at hrun;have hal:=(Below.refl w.heap.size w).alloc (aF _) (.cells (vs.map (SV.den G)).toArray e);have hPT : PT (w.alloc (.cells (vs.map (SV.den G)).toArray e)) (some ⟨w.heap.size,0,none⟩) ls:=Na (Blk.new w e (vs.map (SV.den G)).toArray) (λj v hj=>by simpa using hj) (lW.later hal hA);have h4:=h3.later hal;have h5:=h1.put hk1 (.slice (some ⟨w.heap.size,0,none⟩) n n)
 refine pL (v:=.slice (some ⟨w.heap.size,0,none⟩) n n) (w':=w.alloc (.cells (vs.map (SV.den G)).toArray e)) (Gl hg1) (by
  unfold execOp
  simp only [ho1,aJ,hrun,aG,aI]) ?_
 rw [hd1];have hr2:=y6 (E:=(k1,.v (.slice (some ⟨w.heap.size,0,none⟩) n n)) :: E) (svs:=[.v (.slice (some ⟨w.heap.size,0,none⟩) n n)]) (w:=w.alloc (.cells (vs.map (SV.den G)).toArray e)) hf ho2 (by simp [A6,evS,kU]) h5
 unfold wpList
 rw [if_pos (by simp [aL,hg2])];refine .inl ?_
 unfold Oper.wp
 rw [hr2];simp only [Oper.upon,hd2];refine (hc _ _ hPT h4.view.fact h4.view.fresh).mono ?_
 rintro e' w' ⟨rfl,hb⟩
 have h6 : OkE ((k1,.v (.slice (some ⟨w.heap.size,0,none⟩) n n)) :: E):=h2.cons trivial;exact hnx (some ⟨w.heap.size,0,none⟩) _ w' ⟨G,S,h5.put hk2 _,h6.cons (v:=.q (eY m r)) (mU hr).1,h4.later hb⟩
theorem tT {j n : Nat} {l : List UInt8} (hj : wF L j = some [.agg n (By l).toArray]) (hl : l.length = n) (hm : n <= 9223372036854775807) : ∀ G S w,View G S L R F M w -> SB w ((SV.s j 0 n n).den G) l:=λG S w hv=>by
 obtain ⟨z,hz,rfl,hps⟩:=mG hj;have hb:=(hv.var z hz).1;rw [hps] at hb;exact SB.all hb hl hm
end
def gOf : List LV -> Nat -> (Nat -> Nat) -> (Nat -> Nat) -> Nat -> Nat
  | [],_,_,G,j=>G j
  | u :: us,i,gs,G,j=>if j = u.j then gs i else gOf us (i + 1) gs G j
def Ch (E : SE) (L : List LV) : List LV -> Bool
  | []=>true
  | u :: us=>Ad u.j L && GW u.j E && (match u.g with | none=>true | some _=>false) && Ad u.j us && Ch E L us
theorem Ki {gs G : Nat -> Nat} {j : Nat} : ∀ {us : List LV} {i : Nat},j ∉ eH us -> gOf us i gs G j = G j
 | [],_,_=>rfl
 | u :: us,i,h=>by
  unfold gOf
  rw [if_neg λe=>h (by rw [e]; exact bZ)];exact Ki λh2=>h (bE _ h2)
theorem EN {gs G : Nat -> Nat} : ∀ {us : List LV} {i j : Nat} ,j ∈ eH us -> ∃ k,i <= k /\ k < i + us.length /\ gOf us i gs G j = gs k
 | [],_,_,h=>by cases h
 | u :: us,i,j,h=>by
  unfold gOf
  by_cases e : j = u.j
  ·rw [if_pos e]
   exact ⟨i,aF _,by simp,rfl⟩
  ·rw [if_neg e]
   rcases cA.1 h with e2 | h
   ·exact absurd e2 e
   ·obtain ⟨k,h1,h2,h3⟩:=EN (i:=i + 1) h
    exact ⟨k,by omega,by simp only [bW]; omega,h3⟩
theorem DJ {E : SE} {L : List LV} : ∀ {us : List LV},Ch E L us = true -> ∀ u ∈ us,Ad u.j L = true /\ GW u.j E = true /\ u.g = none
 | [],_,u,h=>by cases h
 | v :: us,hf,u,h=>by
  simp only [Ch,aV] at hf;obtain ⟨⟨⟨⟨h1,h2⟩,h3⟩,h4⟩,h5⟩:=hf
  rcases cA.1 h with rfl | h
  ·refine ⟨h1,h2,?_⟩
   cases hg : u.g with
   | none=>rfl
   | some x=>rw [hg] at h3; cases h3
  ·exact DJ h5 u h
section
variable {P : Program} {T : List TyR} {b : iF} {ops : Array Oper} {Q : Exit -> Act -> World -> Prop} {N : Nat} {G gs : Nat -> Nat} {S : Nat -> Prop} {E : SE} {L : List LV} {R : List Res} {F M : World -> Prop} {w0 w' : World}
theorem GN {i0 : Nat} : ∀ {us : List LV} {i : Nat},Ch E L us = true -> (∀ k l,i0 <= k -> k < i + us.length -> i0 <= l -> l < i + us.length -> k ≠ l -> gs k ≠ gs l) -> i0 <= i -> (eH us).Pairwise λx y=>gOf us i gs G x ≠ gOf us i gs G y
 | [],_,_,_,_=>List.Pairwise.nil
 | u :: us,i,hf,hd,hi=>by
  simp only [Ch,aV] at hf;obtain ⟨⟨_,h4⟩,h5⟩:=hf;have hn:=uI h4
  have hne : ∀ j ∈ eH us,gOf (u :: us) i gs G j = gOf us (i + 1) gs G j:=λj hj=>by
   show (if j = u.j then _ else _) = _
   rw [if_neg λe=>hn (by rw [<-e]; exact hj)]
  refine List.Pairwise.cons (λj hj=>?_) ?_
  ·rw [hne j hj]
   show (if u.j = u.j then gs i else _) ≠ _
   rw [if_pos rfl];obtain ⟨k,h1,h2,h3⟩:=EN (gs:=gs) (G:=G) (i:=i + 1) hj;rw [h3];exact hd i k (by omega) (by simp only [bW]; omega) (by omega) (by simp only [bW]; omega) (by omega)
  ·refine (GN (us:=us) (i:=i + 1) h5 (λk l a b c d=>hd k l a (by simp only [bW]; omega) c (by simp only [bW]; omega)) (by omega)).imp_of_mem λ{x y} hx hy h=>?_
   rw [hne x hx,hne y hy];exact h
theorem StW.news (h : StW b G S L R F M w0) (hU : Up w0 w') (us : List LV) (hf : Ch E L us = true) (hp : ∀ u ∈ us,OkP u.ps) (hge : ∀ j,j < us.length -> w0.heap.size <= gs j) (hd : ∀ i j,i < us.length -> j < us.length -> i ≠ j -> gs i ≠ gs j) (hb : ∀ u ∈ us,Blk w' (gOf us 0 gs G u.j) u.t (eO u.ps)) :
  StW b (gOf us 0 gs G) S (us ++ L) R F M w':=by
 have h1:=h.later hU;have hfr:=DJ hf
 have hno : ∀ j ∈ eH L,j ∉ eH us:=λj hj hj2=>by
  obtain ⟨u,hu,rfl⟩:=fV.1 hj2;exact uI (hfr u hu).1 hj
 have hG : ∀ j ∈ eH L,gOf us 0 gs G j = G j:=λj hj=>Ki (hno j hj);have hlt : ∀ i ∈ eH L,G i < w0.heap.size:=λi hi=>h.lt _ (.inr ⟨i,hi,rfl⟩)
 have hnew : ∀ j ∈ eH us,w0.heap.size <= gOf us 0 gs G j:=λj hj=>by
  obtain ⟨k,h2,h3,h4⟩:=EN (gs:=gs) (G:=G) (i:=0) hj;rw [h4];exact hge k (by omega)
 have hnames : eH (us ++ L) = eH us ++ eH L:=List.map_append
 have hM : ∀ k,oV S (gOf us 0 gs G) (us ++ L) k -> w0.heap.size <= k \/ oV S G L k:=λk hk=>by
  rcases hk with hk | ⟨i,hi,rfl⟩
  ·exact .inr (.inl hk)
  ·rw [hnames] at hi
   rcases l6.1 hi with hi | hi
   ·exact .inl (hnew i hi)
   ·exact .inr (.inr ⟨i,hi,(hG i hi).symm⟩)
 refine ⟨λx hx=>?_,?_,h1.res,λi hi=>?_,?_,?_,h1.chg,λk hk hlt2=>?_,h.old⟩
 ·rcases l6.1 hx with hx | hx
  ·exact ⟨hb x hx,hp x hx,λg hg=>by rw [(hfr x hx).2.2] at hg; cases hg⟩
  ·rw [hG _ (fV.2 ⟨x,hx,rfl⟩)]
   exact h1.var x hx
 ·rw [hnames]
  refine List.pairwise_append.2 ⟨GN (i0:=0) hf (λk l _ a _ c=>hd k l (by omega) (by omega)) (aF _),h.apart.imp_of_mem λ{x y} hx hy e=>?_,λi hi j hj=>?_⟩
  ·rw [hG x hx,hG y hy]
   exact e
  ·have:=hnew i hi
   have:=hlt j hj;rw [hG j hj]
   omega
 ·rw [hnames] at hi
  rcases l6.1 hi with hi | hi
  ·intro hs
   have:=h.res.lt _ hs;have:=hnew i hi
   omega
  ·rw [hG i hi]
   exact h.sep i hi
 ·refine h.fact.F8 (Chg.tA hU) λi hi hd=>?_
  rcases hd with hd | hd
  ·exact .inl hd
  ·rcases hM i hd with h2 | hd
   ·exact absurd hi (Nat.not_lt.2 h2)
   ·exact .inr hd
 ·refine h.fresh.F8 (Chg.tA hU) λi hi hd=>?_
  rcases hd with hd | hd
  ·exact .inl hd
  ·rcases hM i hd with h2 | hd
   ·exact absurd hi (Nat.not_lt.2 h2)
   ·exact .inr hd
 ·rcases hM k hk with h2 | h2
  ·have:=h.chg.size
   omega
  ·exact h.mine k h2 hlt2
variable {vs : List NV} {T' l rest : List Oper} {o : Oper} {k : Nat}
end
def UH : SV -> Bool
  | .q (.c (.v (.tuple ⟨[]⟩)))=>true
  | _=>false
def Un (ops : Array Oper) (N : Nat) : List Oper -> SE -> List Oper × SE
  | [],E=>([],E)
  | o :: l,E=>match o.guard,o.dst with
    | some (j,_),some k=>match (ops[j]?).bind (·.dst),aQ k N with
      | some t,true=>match aQ t N,kU E t with
        | true,some v=>match UH v with
          | true=>Un ops N l ((k,.v undef) :: E)
          | false=>(o :: l,E)
        | _,_=>(o :: l,E)
      | _,_=>(o :: l,E)
    | _,_=>(o :: l,E)
def Sy (ops : Array Oper) (N : Nat) : List (Nat × Oper) -> SE -> List (Nat × Oper) × SE
  | [],E=>([],E)
  | (i,o) :: l,E=>match o.guard,o.dst with
    | some (j,_),some k=>match (ops[j]?).bind (·.dst),aQ k N with
      | some t,true=>match aQ t N,kU E t with
        | true,some v=>match UH v with
          | true=>Sy ops N l ((k,.v undef) :: E)
          | false=>((i,o) :: l,E)
        | _,_=>((i,o) :: l,E)
      | _,_=>((i,o) :: l,E)
    | _,_=>((i,o) :: l,E)
def hS (P : Program) (ops : Array Oper) (Q : Exit -> Act -> World -> Prop) (N : Nat) (T' : List Oper) (G : Nat -> Nat) (w0 : World) (l : List (Nat × Oper)) (E : SE) (Fa : Told) : Prop:=OkE E -> gF P Bel ops (Up w0) (A7 P ops Q (Up w0) T') l N (fY G E) Fa
section
variable {P : Program} {T : List TyR} {b : iF} {ops : Array Oper} {Q : Exit -> Act -> World -> Prop} {N : Nat} {G : Nat -> Nat} {S : Nat -> Prop} {E : SE} {L : List LV} {R : List Res} {F M : World -> Prop} {w0 : World} {T' : List Oper} {Fa : Told} {i k : Nat} {o : Oper} {rest : List (Nat × Oper)} {l : List Oper} {id : Nat} {y : Code}
theorem Ea (n : Nat) (hn : n <= l.length) (hm : P.follows .mixedOrders = true) (hB : At l.toArray n (l.drop n).length = true)
  (h : ∀ K : Act -> World -> Prop,(∀ e',cS P b y Q N e' -> kS b K N e') -> ∀ G S w0,StW b G S L R F M w0 -> hS P l.toArray (Exit.then K Q) N (l.drop n) G w0 (idx 0 (l.take n)) E []) : cS P b (.seq (.region id l.toArray true) y) Q N ⟨E,L,R,F,M⟩ :=
 MT n hn hm hB λK hK G S w0 hst=>h K hK G S w0 hst
theorem h_f (hst : StW b G S L R F M w0) (v : SV) (hv : v.Ok) (hf : rW i Fa = true) (h : ∀ (C0 : World -> Prop) (Q' : Act -> Prop),(∀ w,C0 w -> View G S L R F M w /\ Uses o Fa w) -> bF P ops C0 Q' [] N ((k,v.den G) :: fY G E) -> bF P ops C0 Q' [o] N (fY G E)) (hn : hS P ops Q N T' G w0 rest ((k,v) :: E) Fa) : hS P ops Q N T' G w0 ((i,o) :: rest) E Fa:=λhE =>
 cU hf (h _ _ (λ_ hw=>⟨(hst.later hw.1).view,hw.2⟩) (cV (o:=o) (hn (hE.cons hv))))
theorem QT (hst : StW b G S L R F M w0) (v : SV) (hv : v.Ok) (hf : rW i Fa = true) (hg : o.guard = none) (hd : o.dst = some k) (hk : aQ k N = true) (h : ∀ (G : Nat -> Nat) (a : Act) (w : World),Fr N (fY G E) a -> (execOp a.eval o).run P w = .ok (.value (v.den G)) w) (hn : hS P ops Q N T' G w0 rest ((k,v) :: E) Fa) : hS P ops Q N T' G w0 ((i,o) :: rest) E Fa :=
 h_f hst v hv hf (λ_ _ _ hQ=>dM _ hg hd hk (λ_ ha w _=>h G _ w ha) hQ) hn
theorem VR {v : SV} (hT : OkT P T) (hst : StW b G S L R F M w0) (hE : OkE E) (hf : rW i Fa = true) (hg : o.guard = none) (hd : o.dst = some k) (hk : aQ k N = true) (h : nF T E L o.op = some v) (hn : hS P ops Q N T' G w0 rest ((k,v) :: E) Fa) : hS P ops Q N T' G w0 ((i,o) :: rest) E Fa :=
 h_f hst v (rK hT (N:=N) (o:=o) hE hst.okL h).1 hf (λ_ _ hC hQ=>dM _ hg hd hk (λ_ ha w hw=>(rK hT hE hst.okL h).2 ha λx hx=>((hC w hw).1.var x hx).1) hQ) hn
def DT (T : List TyR) (ops : Array Oper) (N : Nat) (L : List LV) (Fa : Told) : List (Nat × Oper) -> SE -> List (Nat × Oper) × SE
  | [],E=>([],E)
  | (i,o) :: l,E=>match qM ops N E o,rW i Fa,o.dst with
    | some false,true,some k=>match aQ k N with
      | true=>DT T ops N L Fa l ((k,.v undef) :: E)
      | false=>((i,o) :: l,E)
    | some true,true,some k=>match aQ k N with
      | true=>match nF T E L o.op with
        | some v=>DT T ops N L Fa l ((k,v) :: E)
        | none=>((i,wL o) :: l,E)
      | false=>((i,o) :: l,E)
    | some true,true,none=>((i,wL o) :: l,E)
    | _,_,_=>((i,o) :: l,E)
theorem IL (hw : qM ops N E o = some true) (h : hS P ops Q N T' G w0 ((i,wL o) :: rest) E Fa) : hS P ops Q N T' G w0 ((i,o) :: rest) E Fa:=λhE a F ha hF=>by
 have hwt:=pO ha hw;have h1:=h hE a F ha hF;obtain ⟨dst,op,ty,pos,af,gd⟩:=o
 unfold wpG at h1 ⊢
 rw [if_pos hwt];rw [if_pos (by rfl)] at h1;exact h1
theorem QS (hw : qM ops N E o = some false) (hf : rW i Fa = true) (hd : o.dst = some k) (hk : aQ k N = true) (h : hS P ops Q N T' G w0 rest ((k,.v undef) :: E) Fa) : hS P ops Q N T' G w0 ((i,o) :: rest) E Fa:=λhE a F ha hF=>by
 have hwt:=pO ha hw
 unfold wpG
 rw [hwt,if_neg (by decide)]
 dsimp only
 rw [hd];exact h (hE.cons (v:=.v undef) trivial) _ _ (ha.put hk undef) (hF.up hf)
theorem Cx (hT : OkT P T) (hst : StW b G S L R F M w0) : ∀ {l : List (Nat × Oper)} {E : SE},OkE E -> hS P ops Q N T' G w0 (DT T ops N L Fa l E).1 (DT T ops N L Fa l E).2 Fa -> hS P ops Q N T' G w0 l E Fa
 | [],_,_,h=>h
 | (i,o) :: l,E,hE,h=>by
  unfold DT at h
  split at h
  ·rename_i k hw hf hd
   split at h
   ·rename_i hk
    exact QS hw hf hd hk (Cx hT hst (hE.cons (v:=.v undef) trivial) h)
   ·exact h
  ·rename_i k hw hf hd
   split at h
   ·rename_i hk
    split at h
    ·rename_i v hv
     have h2:=Cx hT hst (hE.cons (rK hT (N:=N) (o:=wL o) hE hst.okL hv).1) h;exact IL hw (VR hT hst hE hf rfl hd hk hv h2)
    ·exact IL hw h
   ·exact h
  ·rename_i hw hf hd
   exact IL hw h
  ·exact h
theorem gV {l l' : List (Nat × Oper)} {E' : SE} (hT : OkT P T) (hst : StW b G S L R F M w0) (h : DT T ops N L Fa l E = (l',E')) (hn : hS P ops Q N T' G w0 l' E' Fa) : hS P ops Q N T' G w0 l E Fa:=λhE=>Cx hT hst hE (by rw [h]; exact hn) hE
theorem CT {l : List (Nat × Oper)} (k : Nat) {t : Bool} (q : Bool) (h : kU E k = some (.b t)) (he : t = q) (hn : hS P ops Q N T' G w0 l ((k,.v (.bool q)) :: E) Fa) : hS P ops Q N T' G w0 l E Fa:=λhE=>by
 subst he
 intro a F ha hF
 exact hn (hE.cons trivial) a F (ha.more (ha.get k _ (by rw [jJ,h]; rfl))) hF
theorem uE (hst : StW b G S L R F M w0) (h : lS P b ops Q N T' ⟨E,L,R,F,M⟩) : hS P ops Q N T' G w0 [] E Fa:=λhE=>jC λw hw _=>λa ha=>h a w ⟨G,S,ha,hE,hst.later hw⟩
end
section
variable {T : List TyR} {b : iF} {ops : Array Oper} {Q : Exit -> Act -> World -> Prop} {N : Nat} {G : Nat -> Nat} {S : Nat -> Prop} {E : SE} {L : List LV} {R : List Res} {F M : World -> Prop} {w0 : World} {T' : List Oper} {Fa : Told} {i k e bs : Nat} {o : Oper} {rest : List (Nat × Oper)}
theorem R8 {t n : Nat} {parts : Array (Nat × Operand)} (hT : OkT Tryd.prog T) (l : List UInt8) (hg : o.guard = none) (hd : o.dst = some k) (hk : aQ k N = true) (hf : rW i Fa = true) (ho : o.op = .buildSlice t n parts) (hs : slS T t = some (e,1,bs))
  (hp : ∀ G : Nat -> Nat,parts.toList.map (λp=>(p.1,(evS E p.2).map (SV.den G))) = ((l.map λx=>(eB x).den).zipIdx 0).map λx=>(x.2,some x.1)) (hn : l.length = n) (h0 : 0 < n) (h24 : n <= 16777216)
  (hc : ∀ g,hS Tryd.prog ops Q N T' G w0 rest ((k,.v (.slice (some ⟨g,0,none⟩) n n)) :: E) ((i,λw=>Rd 1 eB (some ⟨g,0,none⟩) n l w) :: Fa)) : hS Tryd.prog ops Q N T' G w0 ((i,o) :: rest) E Fa:=λhE=>by
 refine Kf (λv w=>∃ g,v = .slice (some ⟨g,0,none⟩) n n /\ Rd 1 eB (some ⟨g,0,none⟩) n l w) hg hd hk hf (by rw [ho]; rfl) (λv w w' ⟨g,h1,h2⟩ hb=>⟨g,h1,h2.later hb⟩) (λa ha w _ _=>?_) λv w _ hv=>?_
 ·obtain ⟨ht,ie,z,hi,hz,hsz,_⟩:=zK hT hs
  have hrun:=Eg (P:=Tryd.prog) ht hi hz hsz (l.map λx=>(eB x).den) n (parts.map λ(i,x)=>(i,a.eval x)) (by rw [sJ]; exact vJ ha _ _ (hp G)) (by rw [wT,hn]) (by omega) (by omega) (λv hv=>by
   obtain ⟨x,_,rfl⟩:=fV.1 hv
   rfl) w
  have e1 : ((l.map λx=>(eB x).den).flatMap λv=>v.cells.toList) = iH eB l:=by
   rw [iH,List.flatMap_map]
   rfl
  rw [e1] at hrun
  have h1 : (execOp a.eval o).run Tryd.prog w = .ok (.value (.slice (some ⟨w.heap.size,0,none⟩) n n)) (w.alloc (.cells (iH eB l).toArray e)):=by
   unfold execOp
   simp only [ho,aJ,hrun,aG,aI]
  rw [h1];refine ⟨(Below.refl w.heap.size w).alloc (aF _) _,w.heap.size,rfl,?_⟩;subst hn;exact gZ.rd (gZ.new (lo:=0) w (dC _) (wD l) (by omega))
 ·obtain ⟨g,rfl,h2⟩:=hv
  intro a F ha hF
  refine hc g (hE.cons trivial) a F ha λx hx w hw=>?_
  rcases cA.1 hx with rfl | hx
  ·obtain ⟨g',e,h3⟩:=hF _ bZ w hw
   cases e
   exact h3
  ·exact hF x (bE _ hx) w hw
theorem Kd {n : Nat} {parts : Array (Nat × Operand)} (vs : List Value) (ls : List (List UInt8)) (hst : StW b G S L R F M w0) (hg : o.guard = none) (hd : o.dst = some k) (hk : aQ k N = true) (hf : rW i Fa = true) (ho : o.op = .buildSlice 63 n parts)
  (hv : parts.toList.map (λp=>(p.1,(evS E p.2).map (SV.den G))) = (vs.zipIdx 0).map λx=>(x.2,some x.1)) (hn : vs.length = n) (h0 : 0 < n) (h24 : n <= 16777216) (h : ∀ w,View G S L R F M w -> Uses o Fa w -> lW w vs ls)
  (hc : ∀ g,hS Tryd.prog ops Q N T' G w0 rest ((k,.v (.slice (some ⟨g,0,none⟩) n n)) :: E) ((i,λw=>PT w (some ⟨g,0,none⟩) ls) :: Fa)) : hS Tryd.prog ops Q N T' G w0 ((i,o) :: rest) E Fa:=λhE=>by
 have hv2 : parts.toList.map (λp=>(p.1,ev (fY G E) p.2)) = (vs.zipIdx 0).map λx=>(x.2,some x.1):=by
  have key : ∀ (l : List (Nat × Operand)) (m : List (Value × Nat)),l.map (λp=>(p.1,(evS E p.2).map (SV.den G))) = m.map (λx=>(x.2,some x.1)) -> l.map (λp=>(p.1,ev (fY G E) p.2)) = m.map λx=>(x.2,some x.1):=by
   intro l
   induction l with
   | nil=>intro m h; cases m with
    | nil=>rfl
    | cons=>cases h
   | cons p l ih=>intro m h; cases m with
    | nil=>cases h
    | cons u m =>
     simp only [cH,List.cons.injEq,Prod.mk.injEq] at h ⊢;refine ⟨⟨h.1.1,?_⟩,ih m h.2⟩
     cases hx : evS E p.2 with
     | none=>rw [hx] at h; cases h.1.2
     | some v =>
      rw [hx] at h;rw [eF hx];exact h.1.2
  exact key _ _ hv
 refine uF vs ls 0 hg hd hk hf ho hv2 hn h0 h24 (λ_ _=>dC _) (λw hw hu=>h w (hst.later hw).view hu) λg w _ _=>?_
 intro a F ha hF
 refine hc g (hE.cons trivial) a F ha λx hx w hw=>?_
 rcases cA.1 hx with rfl | hx
 ·exact (hF _ bZ w hw).pt
 ·exact hF x (bE _ hx) w hw
theorem IK {f : FuncId} {xs : Array Operand} {ats : Array TypeId} {svs : List SV} {r : RV} (hst : StW b G S L R F M w0) (args : List Value) (hf : rW i Fa = true) (hg : o.guard = none) (hd : o.dst = some k) (hk : aQ k N = true) (how : Own f) (ho : o.op = .call { callee:=.value (.func f),args:=xs,argTypes:=ats }) (hx : A6 E xs.toList = some svs)
  (ha : (∀ x ∈ L,∀ g,x.g = some g -> G x.j = g) -> svs.map (SV.den G) = args) (hr : r.sv.Ok) (hs : ∀ w,View G S L R F M w -> Uses o Fa w -> Calls Tryd.prog f args.toArray w λe w'=>e = .returned r.den /\ Below w.heap.size w w')
  (hn : hS Tryd.prog ops Q N T' G w0 rest ((k,r.sv) :: E) Fa) : hS Tryd.prog ops Q N T' G w0 ((i,o) :: rest) E Fa:=by
 refine h_f hst r.sv hr hf (λC0 Q' hC hQ=>?_) hn;rw [RV.tP] at hQ;exact dG args.toArray r.den hg hd hk how (λw hw=>hs w (hC w hw).1 (hC w hw).2) ho (by rw [Bm hx,ha λx hx=>(hst.var x hx).2.2]) hQ
theorem qU {α : Type} {post : xQ α} {F' : World -> Prop} [Pst F'] [hP : ∀ x,Pst (post.p x)] {f : FuncId} {xs : Array Operand} {ats : Array TypeId} {svs : List SV} (hst : StW b G S L R F M w0) (args : List Value) (hf : rW i Fa = true) (hg : o.guard = none) (hd : o.dst = some k) (hk : aQ k N = true) (how : Own f) (ho : o.op = .call { callee:=.value (.func f),args:=xs,argTypes:=ats }) (hx : A6 E xs.toList = some svs)
  (ha : (∀ x ∈ L,∀ g,x.g = some g -> G x.j = g) -> svs.map (SV.den G) = args) (hs : Spec f args [] F' post) (hF : ∀ w,View G S L R F M w -> Uses o Fa w -> F' w)
  (hn : ∀ x,(post.ret x).sv.Ok -> hS Tryd.prog ops Q N T' G w0 rest ((k,(post.ret x).sv) :: E) ((i,λw=>∃ y,(post.ret x).den = (post.ret y).den /\ post.p y w) :: Fa)) : hS Tryd.prog ops Q N T' G w0 ((i,o) :: rest) E Fa:=λhE=>by
 refine IP args.toArray (λv w=>∃ x,v = (post.ret x).den /\ (post.ret x).sv.Ok /\ post.p x w) hg hd hk hf (λv w w' ⟨x,h1,h2,h3⟩ hb=>⟨x,h1,h2,(hP x).later _ _ h3 hb⟩) how (λw hw hu=>?_) ho (by rw [Bm hx,ha λx hx=>(hst.var x hx).2.2]) λv w _ hv=>?_
 ·refine (hs w (λ_=>False) (λ_=>False) (λ_ h=>h) (λ_ h=>h.elim) (Stb.Ix (hF w (hst.later hw).view hu) λ_ _ h=>h.elim id id)).mono ?_
  rintro e w' ⟨x,S',h1,h2,h3,h4,h5,h6,h7⟩
  exact ⟨_,h1,⟨x,rfl,h2,h6.now⟩,h3.up λ_ _ h=>h⟩
 ·obtain ⟨x,rfl,hok,_⟩:=hv
  intro a F ha hF
  refine hn x hok (hE.cons hok) a F (by rw [fY,RV.tP]; exact ha) λy hy w hw=>?_
  rcases cA.1 hy with rfl | hy
  ·obtain ⟨z,e,_,h3⟩:=hF _ bZ w hw
   exact ⟨z,e,h3⟩
  ·exact hF y (bE _ hy) w hw
theorem QU {F' : World -> Prop} {f : FuncId} {xs : Array Operand} {ats : Array TypeId} {svs : List SV} {r : RV} [Pst F'] (hst : StW b G S L R F M w0) (args : List Value) (hf : rW i Fa = true) (hg : o.guard = none) (hd : o.dst = some k) (hk : aQ k N = true) (how : Own f) (ho : o.op = .call { callee:=.value (.func f),args:=xs,argTypes:=ats }) (hx : A6 E xs.toList = some svs)
  (ha : (∀ x ∈ L,∀ g,x.g = some g -> G x.j = g) -> svs.map (SV.den G) = args) (hr : r.sv.Ok) (hs : Spec f args [] F' (one r)) (hF : ∀ G S w,View G S L R F M w -> F' w)
  (hn : hS Tryd.prog ops Q N T' G w0 rest ((k,r.sv) :: E) Fa) : hS Tryd.prog ops Q N T' G w0 ((i,o) :: rest) E Fa :=
 IK hst args hf hg hd hk how ho hx ha hr (λw hv _=>(hs w (λ_=>False) (λ_=>False) (λ_ h=>h) (λ_ h=>h.elim) (Stb.Ix (hF _ _ _ hv) λ_ _ h=>h.elim id id)).mono λ_ _ ⟨_,_,h1,_,h2,_⟩=>⟨h1,h2.up λ_ _ h=>h⟩) hn
end
theorem Gi : Own 25:=λ_ _=>by go_simp
theorem Oe {A : Option Addr} {c : Nat} (ss : List Seg) (ht : (ss.map Seg.l).flatten.length <= 281474976710656) : Spec 25 [.slice A ss.length c] [] (λw=>Rd 1 I5 A c ss w /\ ∀ s ∈ ss,s.rd w)
  { ret:=λg : Nat=>.v (.slice (some ⟨g,0,none⟩) (ss.map Seg.l).flatten.length (ss.map Seg.l).flatten.length),n:=λg=>Rd 1 eB (some ⟨g,0,none⟩) (ss.map Seg.l).flatten.length (ss.map Seg.l).flatten }:=λw S X hS _ hF=>by
 obtain ⟨h1,h2⟩:=hF.now;have hj:=GK A (ss.map Seg.l) c w.heap.size w (Ns h1 h2) (aF _) (by rw [wT]; exact h1.1) h1.2.1 ht;rw [wT] at hj;refine hj.mono ?_
 rintro e w' ⟨he,ho,hb⟩
 refine ⟨w.heap.size,S,he,trivial,Chg.tA hb,hS.kH λk hk=>hb.block k (hS.lt k hk),λ_ h _=>h,λ_ _=>trivial,?_⟩;have h3 : (gZ w.heap.size 5 1 eB (some ⟨w.heap.size,0,none⟩) (ss.map Seg.l).flatten.length (ss.map Seg.l).flatten).holds w' λj=>(some (⟨w.heap.size,0,none⟩ : Addr)).map (·.block) = some j:=⟨wD _,by rw [Ck]; exact ho,λ_=>Fg⟩;have h4:=gZ.rd h3
 intro w2 hw2
 refine h4.kH hw2.size λb' e hlt=>hw2.block b' hlt ?_;simp only [Option.map_some,bH] at e;subst e
 rintro (h5 | h5)
 ·exact lY _ h5
 ·exact lY _ (hS.lt _ h5)
end Go.Proofs.YtfkchihlchlfdaaDoor
