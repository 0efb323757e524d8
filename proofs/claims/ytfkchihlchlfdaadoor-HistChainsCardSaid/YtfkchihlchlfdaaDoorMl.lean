import Derived.Test.YtfkchihlchlfdaaDoorMk
import Derived.Test.YtfkchihlchlfdaaDoorMg
import Derived.Deep.QuietTactic
import Derived.Test.YtfkchihlchlfdaaDoorMe
import Derived.Test.YtfkchihlchlfdaaDoorMb
import Derived.Test.YtfkchihlchlfdaaDoorMa
import Derived.Test.YtfkchihlchlfdaaDoorMc
import Derived.Test.YtfkchihlchlfdaaDoorMf
import Derived.StillTailTactics
set_option maxRecDepth 100000
set_option maxHeartbeats 8000000
open And renaming intro->aY
open Go.Act renaming put->aE
open Go.Builtin renaming zeroCells->oN,clear_->D0
open Go.IntKind renaming wrap_u64->aP,wrap_u8'->k6
open Go.Lib renaming hid->aH
open Go.Region renaming wanted->aL
open List renaming setIfInBounds_toArray->aA,set_cons_zero->aB,set_cons_succ->aC,replicate->aD,length_append->aO,take_succ_cons->a9,size_toArray->bA,length_replicate->bM,take_zero->bN,append_nil->cD,map_cons->cH,ext_getElem->eE,length_set->eP,length_reverse->lZ,flatten_cons->o6,getElem_mem->xS,getElem_set->zF
open Nat renaming le_refl->aF,blt->aQ,lt_of_lt_of_le->bB,lt_of_le_of_lt->bR,pow_succ->dE,mod_lt->eR,le_of_lt->fA,add_zero->fJ,div_le_self->gJ,mul_comm->gN,div_div_eq_div_mul->gX,mul_le_mul->mJ,add_mod->nT,pow_zero->qG,add_comm->qL,div_one->sG,lt_trans->uV,pow_le_pow_right->wQ,mul_mod->wR,mul_zero->A9,mul_mod_mod->Fe
namespace Nums
def upw (a : List Nat) : Nat -> Nat
  | 0=>0
  | k + 1=>a[k]! / 4294967296
def ful (a b : List Nat) (h : Nat) : Nat -> Nat
  | 0=>0
  | k + 1=>(b[k]! * h + ful a b h k + (a[k]! % 4294967296 * 4294967296 + upw a k)) / 18446744073709551616
def nxw (a b : List Nat) (h k : Nat) : Nat:=(b[k]! * h + ful a b h k + (a[k]! % 4294967296 * 4294967296 + upw a k)) % 18446744073709551616
theorem Mw {a : List Nat} (ha : ∀ k,k < 4 -> a[k]! < 18446744073709551616) : ∀ k,k <= 4 -> upw a k < 4294967296
 | 0,_=>by
  show 0 < 4294967296
  decide
 | k + 1,hk=>by
  have:=ha k (by omega)
  show a[k]! / 4294967296 < 4294967296
  omega
theorem RO {b h : Nat} (hb : b < 18446744073709551616) (hh : h < 4294967296) : b * h <= 18446744073709551615 * 4294967295:=mJ (by omega) (by omega)
theorem Om {a b : List Nat} {h : Nat} (ha : ∀ k,k < 4 -> a[k]! < 18446744073709551616) (hb : ∀ k,k < 4 -> b[k]! < 18446744073709551616) (hh : h < 4294967296) : ∀ k,k <= 4 -> ful a b h k < 8589934592
 | 0,_=>by
  show 0 < 8589934592
  decide
 | k + 1,hk=>by
  have h0:=Om ha hb hh k (by omega);have h1:=Mw ha k (by omega);have h2:=ha k (by omega);have h3:=RO (hb k (by omega)) hh
  show (b[k]! * h + ful a b h k + (a[k]! % 4294967296 * 4294967296 + upw a k)) / 18446744073709551616 < 8589934592
  omega
theorem VN (f : Nat -> Nat) (a0 a1 a2 a3 a4 : Nat) : mxl f [a0,a1,a2,a3,a4] 4 = [f 0,f 1,f 2,f 3,a4]:=rfl
theorem Qy {A B h : Nat} (hA : A < 115792089237316195423570985008687907853269984665640564039457584007913129639936) (hB : B < 115792089237316195423570985008687907853269984665640564039457584007913129639936) :
  v4 (nxw (ws A) (ws B) h 0) (nxw (ws A) (ws B) h 1) (nxw (ws A) (ws B) h 2) (nxw (ws A) (ws B) h 3) + 115792089237316195423570985008687907853269984665640564039457584007913129639936 * (ful (ws A) (ws B) h 4 + upw (ws A) 4) = 4294967296 * A + B * h:=by
 obtain ⟨a0,a1,a2,a3,eA,wA,p0,p1,p2,p3⟩:=tL hA;obtain ⟨b0,b1,b2,b3,eB,wB,q0,q1,q2,q3⟩:=tL hB;rw [wA,wB];have u0 : upw [a0,a1,a2,a3] 0 = 0:=rfl;have u1 : upw [a0,a1,a2,a3] 1 = a0 / 4294967296:=rfl;have u2 : upw [a0,a1,a2,a3] 2 = a1 / 4294967296:=rfl;have u3 : upw [a0,a1,a2,a3] 3 = a2 / 4294967296:=rfl;have u4 : upw [a0,a1,a2,a3] 4 = a3 / 4294967296:=rfl;have f0 : ful [a0,a1,a2,a3] [b0,b1,b2,b3] h 0 = 0:=rfl;have f1 : ful [a0,a1,a2,a3] [b0,b1,b2,b3] h 1 = (b0 * h + ful [a0,a1,a2,a3] [b0,b1,b2,b3] h 0 + (a0 % 4294967296 * 4294967296 + upw [a0,a1,a2,a3] 0)) / 18446744073709551616:=rfl;have f2 : ful [a0,a1,a2,a3] [b0,b1,b2,b3] h 2 = (b1 * h + ful [a0,a1,a2,a3] [b0,b1,b2,b3] h 1 + (a1 % 4294967296 * 4294967296 + upw [a0,a1,a2,a3] 1)) / 18446744073709551616:=rfl;have f3 : ful [a0,a1,a2,a3] [b0,b1,b2,b3] h 3 = (b2 * h + ful [a0,a1,a2,a3] [b0,b1,b2,b3] h 2 + (a2 % 4294967296 * 4294967296 + upw [a0,a1,a2,a3] 2)) / 18446744073709551616:=rfl;have f4 : ful [a0,a1,a2,a3] [b0,b1,b2,b3] h 4 = (b3 * h + ful [a0,a1,a2,a3] [b0,b1,b2,b3] h 3 + (a3 % 4294967296 * 4294967296 + upw [a0,a1,a2,a3] 3)) / 18446744073709551616:=rfl;have n0 : nxw [a0,a1,a2,a3] [b0,b1,b2,b3] h 0 = (b0 * h + ful [a0,a1,a2,a3] [b0,b1,b2,b3] h 0 + (a0 % 4294967296 * 4294967296 + upw [a0,a1,a2,a3] 0)) % 18446744073709551616:=rfl;have n1 : nxw [a0,a1,a2,a3] [b0,b1,b2,b3] h 1 = (b1 * h + ful [a0,a1,a2,a3] [b0,b1,b2,b3] h 1 + (a1 % 4294967296 * 4294967296 + upw [a0,a1,a2,a3] 1)) % 18446744073709551616:=rfl;have n2 : nxw [a0,a1,a2,a3] [b0,b1,b2,b3] h 2 = (b2 * h + ful [a0,a1,a2,a3] [b0,b1,b2,b3] h 2 + (a2 % 4294967296 * 4294967296 + upw [a0,a1,a2,a3] 2)) % 18446744073709551616:=rfl;have n3 : nxw [a0,a1,a2,a3] [b0,b1,b2,b3] h 3 = (b3 * h + ful [a0,a1,a2,a3] [b0,b1,b2,b3] h 3 + (a3 % 4294967296 * 4294967296 + upw [a0,a1,a2,a3] 3)) % 18446744073709551616:=rfl
 have eBh : B * h = b0 * h + 18446744073709551616 * (b1 * h) + 340282366920938463463374607431768211456 * (b2 * h) + 6277101735386680763835789423207666416102355444464034512896 * (b3 * h):=by
  rw [eB]
  unfold v4
  grind only
 rw [eBh,eA];generalize nxw [a0,a1,a2,a3] [b0,b1,b2,b3] h 0 = x0 at *;generalize nxw [a0,a1,a2,a3] [b0,b1,b2,b3] h 1 = x1 at *;generalize nxw [a0,a1,a2,a3] [b0,b1,b2,b3] h 2 = x2 at *;generalize nxw [a0,a1,a2,a3] [b0,b1,b2,b3] h 3 = x3 at *;generalize ful [a0,a1,a2,a3] [b0,b1,b2,b3] h 0 = c0 at *;generalize ful [a0,a1,a2,a3] [b0,b1,b2,b3] h 1 = c1 at *;generalize ful [a0,a1,a2,a3] [b0,b1,b2,b3] h 2 = c2 at *;generalize ful [a0,a1,a2,a3] [b0,b1,b2,b3] h 3 = c3 at *;generalize ful [a0,a1,a2,a3] [b0,b1,b2,b3] h 4 = c4 at *;generalize upw [a0,a1,a2,a3] 0 = y0 at *;generalize upw [a0,a1,a2,a3] 1 = y1 at *;generalize upw [a0,a1,a2,a3] 2 = y2 at *;generalize upw [a0,a1,a2,a3] 3 = y3 at *;generalize upw [a0,a1,a2,a3] 4 = y4 at *;generalize b0 * h = z0 at *;generalize b1 * h = z1 at *;generalize b2 * h = z2 at *;generalize b3 * h = z3 at *;clear eBh eA eB wA wB hA hB q0 q1 q2 q3
 unfold v4
 omega
end Nums
namespace Go.Proofs.YtfkchihlchlfdaaDoor
open Go.RowKit Go.IntWalk Nums
theorem PV (cs : Array Value) (h : cs.size = 5) : (Tryd.prog.info? 73).map (·.size) = some cs.size:=by
 rw [h]
 kernel_rfl
structure NS (w wr : World) (a b l : List Nat) : Prop where
  ba : Blk wr w.heap.size 57 (Us a).toArray
  bb : Blk wr (w.heap.size + 1) 57 (Us b).toArray
  bo : Blk wr (w.heap.size + 1 + 1) 57 z4
  bv : Blk wr (w.heap.size + 1 + 1 + 1) 73 (Us l).toArray
  be : Below w.heap.size w wr
theorem NS.set {w wr : World} {a b l : List Nat} (h : NS w wr a b l) (k x : Nat) : NS w (wr.setCell ⟨w.heap.size + 1 + 1 + 1,k,none⟩ (.int .u64 (x : Int))) a b (l.set k x) where
 ba:=h.ba.far (by show w.heap.size ≠ w.heap.size + 1 + 1 + 1; omega) _
 bb:=h.bb.far (by show w.heap.size + 1 ≠ w.heap.size + 1 + 1 + 1; omega) _
 bo:=h.bo.far (by show w.heap.size + 1 + 1 ≠ w.heap.size + 1 + 1 + 1; omega) _
 bv:=by
  have h4:=h.bv.set k (.int .u64 (x : Int))
  rwa [uP] at h4
 be:=h.be.setCell (by show w.heap.size <= w.heap.size + 1 + 1 + 1; omega) _
theorem NN {A B h : Nat} (hA : A < LL) (hB : B < LL) (hh : h < 4294967296) (w : World) :
  Calls Tryd.prog 75 #[.agg (Us (ws A)).toArray,.agg (Us (ws B)).toArray,.int .u64 (h : Int)] w λe w'=>e = .returned (.agg (Us (ws ((4294967296 * A + B * h) % LL))).toArray) /\ Below w.heap.size w w':=by
 have hA2 : A < 115792089237316195423570985008687907853269984665640564039457584007913129639936:=uV hA (by decide);have hB2 : B < 115792089237316195423570985008687907853269984665640564039457584007913129639936:=uV hB (by decide);have hE:=Qy (h:=h) hA2 hB2;have ha:=λk=>pD A (k:=k);have hb:=λk=>pD B (k:=k);have la:=eT A;have lb:=eT B;have hf:=Om ha hb hh;have hu:=Mw ha;have hn : ∀ k,nxw (ws A) (ws B) h k < 18446744073709551616:=λk=>eR _ (by decide);have hBh : B * h <= LL * 4294967296:=mJ (fA hB) (fA hh)
 have hR:=λw1=>RM (hn 0) (hn 1) (hn 2) (hn 3) (u:=ful (ws A) (ws B) h 4 + upw (ws A) 4) (by
  unfold v4 at hE
  rw [zE] at hA hB hBh;generalize B * h = z at *
  omega) w1
 rw [hE] at hR;generalize (4294967296 * A + B * h) % LL = res at *;clear hE hBh hA2 hB2 hn hA hB;generalize ws A = a at *;generalize ws B = b at *;have hR:=aH hR
 go_enter Tryd.func75,Tryd.ntmps75
 go_wp2
 go_loopw [14,8,9] (λi u8 u9 wr=>∃ k : Nat,k <= 4 /\ i = .int .i64 k /\ u8 = .int .u64 (upw a k : Nat) /\ u9 = .int .u64 (ful a b h k : Nat) /\ NS w wr a b (mxl (nxw a b h) [0,0,0,0,0] k)) (λi _ _ _=>4 - (intOf i).toNat)
 case atStart =>
  refine ⟨0,by omega,rfl,rfl,rfl,?_,?_,?_,?_,?_⟩
  ·exact O9 w _ _ _ _ _
  ·exact O8 w _ _ _ _ _
  ·exact O7 w _ _ _ _ _
  ·exact O6 w _ _ _ _ _
  ·exact Pa w _ _ _ _
 case round =>
  obtain ⟨k,hk,rfl,rfl,rfl,hS⟩:=hrel
  by_cases hlt : k < 4
  ·have hN:=hS.set k (nxw a b h k)
   rw [mP] at hN;have hU : upw a (k + 1) = a[k]! / 4294967296:=rfl;have hF : ful a b h (k + 1) = (b[k]! * h + ful a b h k + (a[k]! % 4294967296 * 4294967296 + upw a k)) / 18446744073709551616:=rfl;have hX : nxw a b h k = (b[k]! * h + ful a b h k + (a[k]! % 4294967296 * 4294967296 + upw a k)) % 18446744073709551616:=rfl;have c0:=(hS.ba.cell k).trans (iE (by omega));have c1:=(hS.bb.cell k).trans (iE (by omega));have c2:=(hS.bv.cell k).trans (iE (by rw [dY]; simp; omega));have c3:=hS.bv.free k;have b0:=ha k hlt;have b1:=hb k hlt;have b2:=hf k (by omega);have b3:=hu k (by omega);have b4:=RO b1 hh;have b5:=hf (k + 1) (by omega);rw [hF] at b5;generalize (mxl (nxw a b h) [0,0,0,0,0] k)[k]! = old at *;generalize a[k]! = u at *;generalize b[k]! = v at *;generalize upw a k = y at *;generalize ful a b h k = c at *;generalize nxw a b h k = x at *;have HM:=λw1=>aH (vI v h b1 (by omega) w1);generalize v * h = z at *;have hA1:=λw1=>sF (z % 18446744073709551616) c 0 (by omega) w1
   have q1 : IntKind.u64.wrap (((z / 18446744073709551616 : Nat) : Int) + (((z % 18446744073709551616 + c + 0) / 18446744073709551616 : Nat) : Int)) = ((z / 18446744073709551616 + (z % 18446744073709551616 + c + 0) / 18446744073709551616 : Nat) : Int):=by
    rw [aP]
    omega
   have q2 : bits .or .u64 (IntKind.u64.wrap ((u : Int) * 4294967296)) (y : Int) = ((u % 4294967296 * 4294967296 + y : Nat) : Int):=by
    have e1 : IntKind.u64.wrap ((u : Int) * 4294967296) = ((u % 4294967296 * 4294967296 : Nat) : Int):=by
     rw [aP]
     omega
    rw [e1];exact orW 32 _ _ (by omega) (by omega) (by omega) (by omega)
   have hA2:=λw1=>sF ((z % 18446744073709551616 + c + 0) % 18446744073709551616) (u % 4294967296 * 4294967296 + y) 0 (by omega) w1
   have q3 : IntKind.u64.wrap (((z / 18446744073709551616 + (z % 18446744073709551616 + c + 0) / 18446744073709551616 : Nat) : Int) + ((((z % 18446744073709551616 + c + 0) % 18446744073709551616 + (u % 4294967296 * 4294967296 + y) + 0) / 18446744073709551616 : Nat) : Int)) = (((z + c + (u % 4294967296 * 4294967296 + y)) / 18446744073709551616 : Nat) : Int):=by
    rw [aP]
    omega
   have e4 : ((z % 18446744073709551616 + c + 0) % 18446744073709551616 + (u % 4294967296 * 4294967296 + y) + 0) % 18446744073709551616 = x:=by omega
   have q5 : (0 : Int) <= (k : Int):=by omega
   have q6 : (u : Int) / 4294967296 = ((u / 4294967296 : Nat) : Int):=OR u;rw [e4] at hA2;have HK:=aH (aY hN (aY hU hF));clear hN hU hF hX hS b4 b5 b2 b3 e4 b0 b1 hf hu ha hb;generalize (z + c + (u % 4294967296 * 4294967296 + y)) / 18446744073709551616 = n9 at *;generalize ((z % 18446744073709551616 + c + 0) % 18446744073709551616 + (u % 4294967296 * 4294967296 + y) + 0) / 18446744073709551616 = m1 at *;generalize u % 4294967296 * 4294967296 + y = m2 at *;generalize z / 18446744073709551616 + (z % 18446744073709551616 + c + 0) / 18446744073709551616 = m3 at *;generalize (z % 18446744073709551616 + c + 0) % 18446744073709551616 = m4 at *;generalize (z % 18446744073709551616 + c + 0) / 18446744073709551616 = m5 at *;generalize z % 18446744073709551616 = m6 at *;generalize z / 18446744073709551616 = m7 at *;generalize u / 4294967296 = m8 at *;replace hA1 : ∀ w1,(callFunc 92 #[.int .u64 (m6 : Int),.int .u64 (c : Int),.int .u64 0]).run Tryd.prog w1 = .ok (.value (.tuple #[.int .u64 (m4 : Int),.int .u64 (m5 : Int)])) w1:=hA1;replace hA2 : ∀ w1,(callFunc 92 #[.int .u64 (m4 : Int),.int .u64 (m2 : Int),.int .u64 0]).run Tryd.prog w1 = .ok (.value (.tuple #[.int .u64 (x : Int),.int .u64 (m1 : Int)])) w1:=hA2
   go_wp2_with (fail)
   refine (HM _).out.mono ?_
   rintro e w1 ⟨rfl,rfl⟩
   go_wp2
   go_roundw
   case rel =>
    obtain ⟨hN,hU,hF⟩:=HK.out;exact ⟨k + 1,by omega,by go_num,by rw [hU],by rw [hF],hN⟩
   case measure=>simp [intOf]; omega
  ·obtain rfl : k = 4:=by omega
   have b2:=hf 4 (by omega);have b3:=hu 4 (by omega);have e5 : mxl (nxw a b h) [0,0,0,0,0] 4 = [nxw a b h 0,nxw a b h 1,nxw a b h 2,nxw a b h 3,0]:=VN _ _ _ _ _ _;rw [e5] at hS;have hN:=hS.set 4 (ful a b h 4 + upw a 4);have c2:=(hS.bv.cell 4).trans (iE (by simp));have c3:=hS.bv.free 4
   have q1 : IntKind.u64.wrap (((ful a b h 4 : Nat) : Int) + ((upw a 4 : Nat) : Int)) = ((ful a b h 4 + upw a 4 : Nat) : Int):=by
    rw [aP]
    omega
   have e6 : [nxw a b h 0,nxw a b h 1,nxw a b h 2,nxw a b h 3,0].set 4 (ful a b h 4 + upw a 4) = [nxw a b h 0,nxw a b h 1,nxw a b h 2,nxw a b h 3,ful a b h 4 + upw a 4]:=rfl;rw [e6] at hN;clear e5 e6 hf hu ha hb b2 b3 hS;generalize ful a b h 4 + upw a 4 = s at *;generalize ful a b h 4 = f4 at *;generalize upw a 4 = u4 at *;have hbv:=hN.bv;generalize hl : (Us [nxw a b h 0,nxw a b h 1,nxw a b h 2,nxw a b h 3,s]).toArray = cs at *
   have hcs : cs.size = 5:=by rw [<-hl]; rfl
   have HN:=aH hN;clear hN hl
   go_wp2_with (refine wpList_load_row rfl 73 _ rfl (w.heap.size + 1 + 1 + 1) rfl 73 cs (0,0) _ hbv Tryd.underlying73 rfl (PV _ hcs) ?_)
   refine (hR.out _).mono ?_
   rintro e w1 ⟨rfl,hw1⟩
   have hN:=HN.out;have ho:=hN.bo.later hw1;have hbe:=a6 hN.be hw1;have hz:=kQ (eT res);clear hN HN hw1 hR
   go_wp2_with (refine wpList_store_row rfl 57 _ _ rfl (w.heap.size + 1 + 1) rfl (Us (ws res)).toArray rfl 57 _ ho (fH _ hz) (by rw [hz]; rfl) (cJ _) ?_)
   refine bodyPost_ret (results_cell_row rfl _ _ (w.heap.size + 1 + 1) 57 (Us (ws res)).toArray (0,0) _ rfl (ho.row _) Tryd.underlying57 rfl (fH _ hz)) rfl ⟨rfl,?_⟩;exact below_setRow hbe (by omega) _
theorem Gf : Own 75:=λ_ _=>by go_simp
theorem MH (cs : Array Value) (h : cs.size = 64) : (Tryd.prog.info? 25).map (·.size) = some cs.size:=by
 rw [h]
 kernel_rfl
theorem J2 {l : List UInt8} (h : l.length = 64) : (By l).toArray.size = 64:=by rw [bA,b6,h]
theorem NY {l : List UInt8} {i : Nat} (h : i + 4 <= l.length) : le (l.drop i) = (l[i]!).toNat + 256 * (l[i + 1]!).toNat + 65536 * (l[i + 2]!).toNat + 16777216 * (l[i + 3]!).toNat + 4294967296 * le (l.drop (i + 4)):=by
 have e : ∀ k k',k < l.length -> k' = k + 1 -> le (l.drop k) = (l[k]!).toNat + 256 * le (l.drop k'):=λk k' hk h=>by
  rw [h,List.drop_eq_getElem_cons hk,getElem!_pos l k hk]
  rfl
 have e0:=e i (i + 1) (by omega) rfl;have e1:=e (i + 1) (i + 2) (by omega) rfl;have e2:=e (i + 2) (i + 3) (by omega) rfl;have e3:=e (i + 3) (i + 4) (by omega) rfl;rw [e0,e1,e2,e3]
 omega
theorem orL (i x y : Nat) (hx : x < 2 ^ i) (hy : y % 2 ^ i = 0) (h1 : x < 18446744073709551616) (h2 : y < 18446744073709551616) : bits .or .u64 (x : Int) (y : Int) = ((x + y : Nat) : Int):=by
 rw [u64_or_nat x y h1 h2,Nat.or_comm,nat_join i y x hy hx,qL]
theorem KM (X h L : Nat) : (4294967296 * (X % L) + 1 * h) % L = (h + 4294967296 * X) % L:=by
 rw [Nat.one_mul,qL h,nT,Fe,<-nT]
structure WS (w wr : World) (l : List UInt8) (n : Nat) : Prop where
  b0 : Blk wr w.heap.size 25 (By l).toArray
  b1 : Blk wr (w.heap.size + 1) 57 z4
  b2 : Blk wr (w.heap.size + 1 + 1) 57 (Us (ws n)).toArray
  be : Below w.heap.size w wr
theorem WS.drew {w wr : World} {l : List UInt8} {n : Nat} (h : WS w wr l n) : WS w wr.drew l n:=⟨h.b0,h.b1,h.b2,h.be.drew⟩
theorem WS.up {w wr w1 : World} {l : List UInt8} {n : Nat} (h : WS w wr l n) (k : Up wr w1) : WS w w1 l n:=⟨k.blk h.b0,k.blk h.b1,k.blk h.b2,a6 h.be k⟩
theorem WS.set {w wr : World} {l : List UInt8} {n : Nat} (h : WS w wr l n) (m : Nat) : WS w (wr.setRow (w.heap.size + 1 + 1) (Us (ws m)).toArray) l m :=
 ⟨h.b0.aR (by omega) _,h.b1.aR (by omega) _,h.b2.row _,below_setRow h.be (by omega) _⟩
theorem VB : ws 1 = [1,0,0,0]:=by decide
theorem Hx {l : List UInt8} (hl : l.length = 64) (w : World) :
  Calls Tryd.prog 48 #[.agg (By l).toArray] w λe w'=>e = .returned (.agg (Us (ws (le l % LL))).toArray) /\ Below w.heap.size w w':=by
 have hz:=J2 hl
 go_enter Tryd.func48,Tryd.ntmps48
 refine wp_seq_k λK hK=>?_;refine wp_region_lit ?_;refine jW (By l).toArray rfl rfl rfl ?_;refine dN (zs:=z4) rfl rfl (by kernel_rfl) ?_;refine dP ?_
 go_simp
 refine hK _ _ ?_;clear hK K;refine wp_seq_k λK hK=>?_;refine wp_region_lit ?_;refine dN (zs:=z4) rfl rfl (by kernel_rfl) ?_;refine dP ?_
 go_simp
 refine hK _ _ ?_;clear hK K;refine pM (λW=>WS w W l 0) ⟨mV w _ _ _ _,lI w _ _ _ _,lV w _ _ _ _,(((Below.refl _ _).alloc (aF _) _).alloc (by simp) _).alloc (by simp; omega) _⟩ ?_
 intro W hW
 have HW:=aH hW;clear hW
 go_wp2
 go_loopw [4] (λi wr=>∃ k : Nat,k <= 16 /\ i = .int .i64 (4 * (k : Int) - 4) /\ WS w wr l (le (l.drop (4 * k)) % LL)) (λi _=>(intOf i + 4).toNat)
 case atStart =>
  refine ⟨16,by omega,rfl,?_⟩;rw [List.drop_of_length_le (by omega)];exact HW.out
 case round =>
  clear HW;obtain ⟨k,hk,rfl,hS⟩:=hrel
  by_cases hlt : 0 < k
  ·obtain ⟨i,rfl⟩ : ∃ i,k = i + 1:=⟨k - 1,by omega⟩
   have e0 : 4 * ((i + 1 : Nat) : Int) - 4 = ((4 * i : Nat) : Int):=by omega
   rw [e0];have hle:=NY (l:=l) (i:=4 * i) (by omega)
   have e4 : 4 * (i + 1) = 4 * i + 4:=by omega
   rw [e4] at hS;have hn:=λw1 h hh=>NN (A:=le (l.drop (4 * i + 4)) % LL) (B:=1) (h:=h) (eR _ (by decide)) (by decide) hh w1;rw [VB,wK] at hn;have c0:=(hS.b0.cell (4 * i)).trans (fU (by omega));have c1:=(hS.b0.cell (4 * i + 1)).trans (fU (by omega));have c2:=(hS.b0.cell (4 * i + 2)).trans (fU (by omega));have c3:=(hS.b0.cell (4 * i + 3)).trans (fU (by omega));have x0:=(l[4 * i]!).toNat_lt;have x1:=(l[4 * i + 1]!).toNat_lt;have x2:=(l[4 * i + 2]!).toNat_lt;have x3:=(l[4 * i + 3]!).toNat_lt;generalize (l[4 * i]!).toNat = y0 at *;generalize (l[4 * i + 1]!).toNat = y1 at *;generalize (l[4 * i + 2]!).toNat = y2 at *;generalize (l[4 * i + 3]!).toNat = y3 at *;obtain ⟨s1,hs1⟩ : ∃ s,s = y0 + y1 * 256:=⟨_,rfl⟩;obtain ⟨s2,hs2⟩ : ∃ s,s = s1 + y2 * 65536:=⟨_,rfl⟩;obtain ⟨s3,hs3⟩ : ∃ s,s = s2 + y3 * 16777216:=⟨_,rfl⟩
   have q1 : bits .or .u64 (y0 : Int) ((y1 : Int) * 256) = (s1 : Int):=by
    rw [hs1,<-orL 8 y0 (y1 * 256) (by omega) (by omega) (by omega) (by omega)]
    rfl
   have q2 : bits .or .u64 (s1 : Int) ((y2 : Int) * 65536) = (s2 : Int):=by
    rw [hs2,<-orL 16 s1 (y2 * 65536) (by omega) (by omega) (by omega) (by omega)]
    rfl
   have q3 : bits .or .u64 (s2 : Int) ((y3 : Int) * 16777216) = (s3 : Int):=by
    rw [hs3,<-orL 24 s2 (y3 * 16777216) (by omega) (by omega) (by omega) (by omega)]
    rfl
   have hn3:=λw1=>aH (hn w1 s3 (by omega))
   have hres : (4294967296 * (le (l.drop (4 * i + 4)) % LL) + 1 * s3) % LL = le (l.drop (4 * i)) % LL:=by
    rw [KM,hle]
    congr 1
    omega
   rw [hres] at hn3
   have k1 : IntKind.i64.wrap (((4 * i : Nat) : Int) + 1) = ((4 * i + 1 : Nat) : Int):=by rw [i64_left,wrap64_in _ (by omega)]; omega
   have k2 : IntKind.i64.wrap (((4 * i : Nat) : Int) + 2) = ((4 * i + 2 : Nat) : Int):=by rw [i64_left,wrap64_in _ (by omega)]; omega
   have k3 : IntKind.i64.wrap (((4 * i : Nat) : Int) + 3) = ((4 * i + 3 : Nat) : Int):=by rw [i64_left,wrap64_in _ (by omega)]; omega
   have g0 : ((4 * i : Nat) : Int) < 64:=by omega
   have g1 : ((4 * i + 1 : Nat) : Int) < 64:=by omega
   have g2 : ((4 * i + 2 : Nat) : Int) < 64:=by omega
   have g3 : ((4 * i + 3 : Nat) : Int) < 64:=by omega
   have HS:=aH hS
   have hA : 4 * i <= 60:=by omega
   have HE:=aH (show ((4 * i : Nat) : Int) = 4 * (i : Int) /\ i <= 15 from ⟨by omega,by omega⟩);clear hS hle hn hs1 hs2 hs3 hres e0 e4 hk hlt;generalize le (l.drop (4 * i + 4)) % LL = X at *;generalize hY : le (l.drop (4 * i)) % LL = Y at *;generalize 4 * i + 1 = A1 at *;generalize 4 * i + 2 = A2 at *;generalize 4 * i + 3 = A3 at *;generalize hA0 : 4 * i = A at *
   go_wp2
   go_region
   have h2:=HS.out.drew.b2
   go_wp2_with (refine wpList_load_row rfl 57 _ rfl (w.heap.size + 1 + 1) rfl 57 (Us (ws X)).toArray (0,0) _ h2 Tryd.underlying57 rfl (fH _ (kQ (eT X))) ?_)
   clear h2;refine (hn3 _).out.mono ?_
   rintro e w1 ⟨rfl,hw1⟩
   have h3:=HS.out.drew.up hw1;have h2:=h3.b2;have H3:=aH (h3.set Y);clear h3 hw1 HS hn3
   go_wp2_with (refine wpList_store_row rfl 57 _ _ rfl (w.heap.size + 1 + 1) rfl (Us (ws Y)).toArray rfl 57 _ h2 (fH _ (kQ (eT Y))) (by rw [kQ (eT X),kQ (eT Y)]) (cJ _) ?_)
   go_roundw
   case rel =>
    refine ⟨i,by have:=HE.out; omega,by have:=HE.out; go_num,?_⟩;rw [hA0,hY];exact H3.out
   case measure=>have:=HE.out; simp [intOf]; omega
  ·obtain rfl : k = 0:=by omega
   have e0 : l.drop (4 * 0) = l:=rfl;rw [e0] at hS;obtain ⟨b0,b1,b2,be⟩:=hS;have hzs:=kQ (eT (le l % LL));clear b0
   go_wp2_with (first
    | (refine wpList_load_row rfl 57 _ rfl (w.heap.size + 1 + 1) rfl 57 (Us (ws (le l % LL))).toArray (0,0) _ b2 Tryd.underlying57 rfl (fH _ hzs) ?_)
    | (refine wpList_store_row rfl 57 _ _ rfl (w.heap.size + 1) rfl (Us (ws (le l % LL))).toArray rfl 57 _ b1 (fH _ hzs) (by rw [hzs]; rfl) (cJ _) ?_))
   refine bodyPost_ret (results_cell_row rfl _ _ (w.heap.size + 1) 57 (Us (ws (le l % LL))).toArray (0,0) _ rfl (b1.row _) Tryd.underlying57 rfl (fH _ hzs)) rfl ⟨rfl,?_⟩;exact below_setRow be (by omega) _
theorem RH (n : Nat) {k : Nat} (hk : k < 4) : (ws n)[k]! = wd n k:=by
 have h4 : k = 0 \/ k = 1 \/ k = 2 \/ k = 3:=by omega
 rcases h4 with rfl | rfl | rfl | rfl
 ·show n % 18446744073709551616 = n / 1 % 18446744073709551616
  rw [sG]
 ·rfl
 ·rfl
 ·rfl
structure HS4 (w wr : World) (a : List Nat) (b : List UInt8) (n : Nat) : Prop where
  b0 : Blk wr w.heap.size 57 (Us a).toArray
  b1 : Blk wr (w.heap.size + 1) 24 z32
  b2 : Blk wr (w.heap.size + 1 + 1) 24 (By (fb b n)).toArray
  be : Below w.heap.size w wr
theorem HS4.set {w wr : World} {a : List Nat} {b : List UInt8} {n : Nat} (h : HS4 w wr a b n) : HS4 w (wr.setCell ⟨w.heap.size + 1 + 1,n,none⟩ (.int .u8 ((b[n]!).toNat : Int))) a b (n + 1) where
 b0:=h.b0.far (by show w.heap.size ≠ w.heap.size + 1 + 1; omega) _
 b1:=h.b1.far (by show w.heap.size + 1 ≠ w.heap.size + 1 + 1; omega) _
 b2:=by
  have h4:=h.b2.set n (.int .u8 ((b[n]!).toNat : Int));rw [rG,IW] at h4;exact h4
 be:=h.be.setCell (by show w.heap.size <= w.heap.size + 1 + 1; omega) _
theorem tS (n : Nat) (w : World) :
  Calls Tryd.prog 41 #[.agg (Us (ws n)).toArray] w λe w'=>e = .returned (.agg (By (Nums.bytes 32 n)).toArray) /\ Below w.heap.size w w':=by
 have hbyte : ∀ m,m < 32 -> ((Nums.bytes 32 n)[m]!).toNat = (ws n)[m / 8]! / 2 ^ (m % 8 * 8) % 256:=λm hm=>by
  rw [nS 32 n hm,RH n (by omega),gN (m % 8),Js _ _ _ (by omega)]
  congr 3
  omega
 have hbl : (Nums.bytes 32 n).length = 32:=cK _ _;have ha:=λk=>pD n (k:=k);have la:=eT n;generalize Nums.bytes 32 n = b at *;generalize ws n = a at *
 go_enter Tryd.func41,Tryd.ntmps41
 go_wp2
 go_loopw [5] (λi wr=>∃ k : Nat,k <= 32 /\ i = .int .i64 k /\ HS4 w wr a b k) (λi _=>32 - (intOf i).toNat)
 case atStart =>
  refine ⟨0,by omega,rfl,mV w _ _ _ _,lI w _ _ _ _,?_,(((Below.refl _ _).alloc (aF _) _).alloc (by simp) _).alloc (by simp; omega) _⟩;rw [ER];exact lV w _ _ _ _
 case round =>
  obtain ⟨m,hm,rfl,hS⟩:=hrel
  by_cases hlt : m < 32
  ·have hN:=hS.set
   have c0:=(hS.b0.cell (m / 8)).trans (iE (by omega));have hc:=(hS.b2.cell m).trans (fU (by rw [IX]; omega));have hf:=hS.b2.free m;have hb:=hbyte m hlt;have qd : (m : Int).tdiv 8 = ((m / 8 : Nat) : Int):=rfl;have qm : (m : Int).tmod 8 = ((m % 8 : Nat) : Int):=rfl
   have qt : IntKind.i64.wrap (((m % 8 : Nat) : Int) * 8) = ((m % 8 * 8 : Nat) : Int):=by rw [i64_left,wrap64_in _ (by omega)]; omega
   have g1 : ((m / 8 : Nat) : Int) < 4:=by omega
   have g2 : ((m % 8 * 8 : Nat) : Int) <= 64:=by omega
   have g5 : (0 : Int) <= (m : Int):=by omega
   generalize a[m / 8]! = W at *;generalize m / 8 = q at *;generalize hs : m % 8 * 8 = s at *
   have q4 : IntKind.u8.wrap ((W : Int) / 2 ^ s) = ((b[m]!).toNat : Int):=by
    have f1 : ((W : Int) / 2 ^ s) = ((W / 2 ^ s : Nat) : Int):=by simp
    rw [f1,k6,hb]
    omega
   have HN:=aH hN;clear hS hbyte hb hN hs ha;generalize (fb b m)[m]! = old at *;generalize (b[m]!).toNat = y at *;generalize m % 8 = r at *
   go_wp2
   go_roundw
   case rel=>exact ⟨m + 1,by omega,by go_num,HN.out⟩
   case measure=>simp [intOf]; omega
  ·obtain rfl : m = 32:=by omega
   obtain ⟨_,b1,b2,be⟩:=hS;rw [IY hbl] at b2;have hz:=iY hbl
   go_wp2_with (first
    | (refine wpList_load_row rfl 24 _ rfl (w.heap.size + 1 + 1) rfl 24 (By b).toArray (0,0) _ b2 Tryd.underlying24 rfl (fC _ hz) ?_)
    | (refine wpList_store_row rfl 24 _ _ rfl (w.heap.size + 1) rfl (By b).toArray rfl 24 _ b1 (fC _ hz) (by rw [hz]; rfl) (lJ _) ?_))
   refine bodyPost_ret (results_cell_row rfl _ _ (w.heap.size + 1) 24 (By b).toArray (0,0) _ rfl (b1.row _) Tryd.underlying24 rfl (fC _ hz)) rfl ⟨rfl,?_⟩;exact below_setRow be (by omega) _
theorem P1 {x y : Nat} (hx : x < LL) (hy : y < LL) (w : World) :
  Calls Tryd.prog 45 #[.agg (Us (ws x)).toArray,.agg (Us (ws y)).toArray] w λe w'=>e = .returned (.agg (Us (ws ((x + y) % LL))).toArray) /\ Below w.heap.size w w':=by
 rw [zE] at hx hy
 have hx2 : x < 115792089237316195423570985008687907853269984665640564039457584007913129639936:=by omega
 have hy2 : y < 115792089237316195423570985008687907853269984665640564039457584007913129639936:=by omega
 have hs2 : x + y < 115792089237316195423570985008687907853269984665640564039457584007913129639936:=by omega
 have HS:=λw1=>Mk hx2 hy2 w1;rw [Nat.mod_eq_of_lt hs2] at HS;obtain ⟨a0,a1,a2,a3,_,wA,_⟩:=tL hx2;obtain ⟨b0,b1,b2,b3,_,wB,_⟩:=tL hy2;obtain ⟨s0,s1,s2,s3,eS,wS,q0,q1,q2,q3⟩:=tL hs2;have HR:=λw1=>RM q0 q1 q2 q3 (u:=0) (by omega) w1;rw [<-eS,A9,fJ] at HR;rw [wA,wB,wS,wK,wK,wK] at HS;rw [wA,wB,wK,wK];have HS:=λw1=>aH (HS w1);have HR:=λw1=>aH (HR w1);have hz:=kQ (eT ((x + y) % LL));clear hx hy hx2 hy2 hs2 wA wB wS eS q0 q1 q2 q3;generalize ws ((x + y) % LL) = r at *;have k2:=lV w 57 z4 (.cells #[.int .u64 (a0 : Int),.int .u64 (a1 : Int),.int .u64 (a2 : Int),.int .u64 (a3 : Int)] 57) (.cells #[.int .u64 (b0 : Int),.int .u64 (b1 : Int),.int .u64 (b2 : Int),.int .u64 (b3 : Int)] 57)
 have hbe : Below w.heap.size w (((w.alloc (.cells #[.int .u64 (a0 : Int),.int .u64 (a1 : Int),.int .u64 (a2 : Int),.int .u64 (a3 : Int)] 57)).alloc (.cells #[.int .u64 (b0 : Int),.int .u64 (b1 : Int),.int .u64 (b2 : Int),.int .u64 (b3 : Int)] 57)).alloc (.cells z4 57)) :=
  (((Below.refl _ _).alloc (aF _) _).alloc (by simp) _).alloc (by simp; omega) _
 have HK:=aH (aY k2 hbe);clear k2 hbe
 go_enter Tryd.func45,Tryd.ntmps45
 go_wp2_with (fail)
 refine (HS _).out.mono ?_
 rintro e w1 ⟨rfl,hw1⟩
 go_wp2_with (fail)
 refine (HR _).out.mono ?_
 rintro e w2 ⟨rfl,hw2⟩
 obtain ⟨k2,hbe⟩:=HK.out;have k3:=((k2.later hw1).alloc _).later hw2;have hbe3:=a6 (((a6 hbe hw1)).alloc (a6 hbe hw1).size _) hw2;clear HK HS HR k2 hbe hw1 hw2
 go_wp2_with (refine wpList_store_row rfl 57 _ _ rfl (w.heap.size + 1 + 1) rfl (Us r).toArray rfl 57 _ k3 (fH _ hz) (by rw [hz]; rfl) (cJ _) ?_)
 refine bodyPost_ret (results_cell_row rfl _ _ (w.heap.size + 1 + 1) 57 (Us r).toArray (0,0) _ rfl (k3.row _) Tryd.underlying57 rfl (fH _ hz)) rfl ⟨rfl,?_⟩;exact below_setRow hbe3 (by omega) _
structure MS4 (w wr : World) (a b : List Nat) (n : Nat) : Prop where
  b0 : Blk wr w.heap.size 57 (Us a).toArray
  b1 : Blk wr (w.heap.size + 1) 57 (Us b).toArray
  b2 : Blk wr (w.heap.size + 1 + 1) 57 z4
  b3 : Blk wr (w.heap.size + 1 + 1 + 1) 57 (Us (ws n)).toArray
  be : Below w.heap.size w wr
theorem MS4.up {w wr w1 : World} {a b : List Nat} {n : Nat} (h : MS4 w wr a b n) (k : Up wr w1) : MS4 w w1 a b n:=⟨k.blk h.b0,k.blk h.b1,k.blk h.b2,k.blk h.b3,a6 h.be k⟩
theorem MS4.set {w wr : World} {a b : List Nat} {n : Nat} (h : MS4 w wr a b n) (m : Nat) : MS4 w (wr.setRow (w.heap.size + 1 + 1 + 1) (Us (ws m)).toArray) a b m :=
 ⟨h.b0.aR (by omega) _,h.b1.aR (by omega) _,h.b2.aR (by omega) _,h.b3.row _,below_setRow h.be (by omega) _⟩
theorem Ly (x Y u v L : Nat) : (4294967296 * ((4294967296 * (x * Y % L) + x * u) % L) + x * v) % L = x * (18446744073709551616 * Y + (4294967296 * u + v)) % L:=by
 have e : x * (18446744073709551616 * Y + (4294967296 * u + v)) = 4294967296 * (4294967296 * (x * Y) + x * u) + x * v:=by grind only
 rw [e,nT,Fe,<-nT]
 have e2 : (4294967296 * (x * Y % L) + x * u) % L = (4294967296 * (x * Y) + x * u) % L:=by
  rw [nT,Fe,<-nT]
 rw [nT (4294967296 * (4294967296 * (x * Y % L) + x * u)),wR,e2,<-wR,<-nT]
section
variable {ops : Array Oper} {C0 : World -> Prop} {Q : Act -> Prop} {a : Act} {o : Oper} {rest : List Oper}
theorem Pc {l : List Nat} (g : Nat) (hl : l.length = 4) (x : Operand) (hg : aL o (yielded ops a.tmps) = true) (ho : o.op = .load 57 x) (hx : a.eval x = .pointer (some ⟨g,0,none⟩))
  (hc : ∀ w,C0 w -> Blk w g 57 (Us l).toArray) (hk : wpB Tryd.prog ops C0 Q rest (a.put o.dst (.agg (Us l).toArray))) : wpB Tryd.prog ops C0 Q (o :: rest) a :=
 y9 hg 57 x ho g 0 hx (Us l) _ (λw h=>(hc w h).range) Tryd.underlying57 rfl (fH (Us l).toArray (kQ hl)) hk
theorem Pb {x i : Operand} (g k : Nat) (hk4 : k < 4) (hg : aL o (yielded ops a.tmps) = true) (ho : o.op = .indexAddr 55 x i) (hx : a.eval x = .pointer (some ⟨g,0,none⟩)) (hi : a.eval i = .int .i64 (k : Int))
  (hk : wpB Tryd.prog ops C0 Q rest (a.put o.dst (.pointer (some ⟨g,k,none⟩)))) : wpB Tryd.prog ops C0 Q (o :: rest) a :=
 k5 hg (λw _=>by
  have h1 : (k : Int) < 4:=by omega
  have h2 : (0 : Int) <= (k : Int):=by omega
  unfold execOp
  simp only [ho,hx,hi]
  go_simp) hk
theorem Pg {x : Operand} (g k v : Nat) (hg : aL o (yielded ops a.tmps) = true) (ho : o.op = .load 49 x) (hx : a.eval x = .pointer (some ⟨g,k,none⟩)) (hc : ∀ w,C0 w -> w.cell? ⟨g,k,none⟩ = some (.int .u64 (v : Int)))
  (hk : wpB Tryd.prog ops C0 Q rest (a.put o.dst (.int .u64 (v : Int)))) : wpB Tryd.prog ops C0 Q (o :: rest) a :=
 k5 hg (λw hw=>by
  have h1:=hc w hw
  unfold execOp
  simp only [ho,hx]
  go_simp) hk
theorem Ru {x : Operand} {t : TypeId} (v : Nat) (hg : aL o (yielded ops a.tmps) = true) (ho : o.op = .binOp .shr 49 x (.const (.int .u64 32)) t) (hx : a.eval x = .int .u64 (v : Int))
  (hk : wpB Tryd.prog ops C0 Q rest (a.put o.dst (.int .u64 ((v / 4294967296 : Nat) : Int)))) : wpB Tryd.prog ops C0 Q (o :: rest) a :=
 k5 hg (λw _=>by
  have e:=OR v;generalize v / 4294967296 = z at *
  unfold execOp
  simp only [ho,hx]
  go_simp) hk
theorem Rx {x : Operand} {t : TypeId} (v : Nat) (hv : v < 18446744073709551616) (hg : aL o (yielded ops a.tmps) = true) (ho : o.op = .binOp .and 49 x (.const (.int .u64 4294967295)) t) (hx : a.eval x = .int .u64 (v : Int))
  (hk : wpB Tryd.prog ops C0 Q rest (a.put o.dst (.int .u64 ((v % 4294967296 : Nat) : Int)))) : wpB Tryd.prog ops C0 Q (o :: rest) a :=
 k5 hg (λw _=>by
  have e:=ED v hv;generalize v % 4294967296 = z at *
  unfold execOp
  simp only [ho,hx]
  go_simp) hk
end
theorem Ov (g : Nat) (w : World) : (Instr.fieldAt 57 (.pointer (some ⟨g,0,none⟩)) 0).run Tryd.prog w = .ok (.pointer (some ⟨g,0,none⟩)) w:=by go_simp
theorem PZ {x y : Nat} (hx : x < LL) (hy : y < LL) (w : World) :
  Calls Tryd.prog 46 #[.agg (Us (ws x)).toArray,.agg (Us (ws y)).toArray] w λe w'=>e = .returned (.agg (Us (ws (x * y % LL))).toArray) /\ Below w.heap.size w w':=by
 have hN:=λA h w1 (hA : A < LL) (hh : h < 4294967296)=>NN hA hx hh w1
 have hwy : ∀ k,k < 4 -> y / 18446744073709551616 ^ k = 18446744073709551616 * (y / 18446744073709551616 ^ (k + 1)) + (4294967296 * ((ws y)[k]! / 4294967296) + (ws y)[k]! % 4294967296):=by
  intro k hk
  rw [RH y hk,dE,<-gX]
  unfold wd
  omega
 have hy0 : y / 18446744073709551616 ^ 4 = 0:=Nat.div_eq_of_lt (uV hy (by decide));have ha:=eT x;have hb:=eT y;have hbl:=λk=>pD y (k:=k);clear hy;generalize ws y = b at *;generalize hwx : ws x = a at *
 go_enter Tryd.func46,Tryd.ntmps46
 go_wp2
 go_loopw [6] (λi wr=>∃ k : Nat,k <= 4 /\ i = .int .i64 ((k : Int) - 1) /\ MS4 w wr a b (x * (y / 18446744073709551616 ^ k) % LL)) (λi _=>(intOf i + 1).toNat)
 case atStart =>
  refine ⟨4,by omega,rfl,?_⟩;rw [hy0,A9,Nat.zero_mod];exact ⟨O9 w _ _ _ _ _,O8 w _ _ _ _ _,O7 w _ _ _ _ _,O6 w _ _ _ _ _,Pa w _ _ _ _⟩
 case round =>
  obtain ⟨k,hk,rfl,hS⟩:=hrel
  by_cases hlt : 0 < k
  ·obtain ⟨i,rfl⟩ : ∃ i,k = i + 1:=⟨k - 1,by omega⟩
   have e0 : ((i + 1 : Nat) : Int) - 1 = (i : Int):=by omega
   rw [e0];have hW:=hwy i (by omega);have hv:=hbl i (by omega);have hcell : ∀ w1,MS4 w w1 a b (x * (y / 18446744073709551616 ^ (i + 1)) % LL) -> w1.cell? ⟨w.heap.size + 1,i,none⟩ = some (.int .u64 (b[i]! : Nat)):=λw1 h=>(h.b1.cell i).trans (iE (by omega));have hcell2 : ∀ w1 n,MS4 w w1 a b n -> w1.cell? ⟨w.heap.size + 1,i,none⟩ = some (.int .u64 (b[i]! : Nat)):=λw1 n h=>(h.b1.cell i).trans (iE (by omega));generalize b[i]! = v at *;have hD:=aH (show x * (y / 18446744073709551616 ^ i) % LL = (4294967296 * ((4294967296 * (x * (y / 18446744073709551616 ^ (i + 1)) % LL) + x * (v / 4294967296)) % LL) + x * (v % 4294967296)) % LL by rw [Ly,<-hW]);have hX : x * (y / 18446744073709551616 ^ (i + 1)) % LL < LL:=eR _ (by decide);generalize x * (y / 18446744073709551616 ^ (i + 1)) % LL = X at *;have hY : (4294967296 * X + x * (v / 4294967296)) % LL < LL:=eR _ (by decide);have hN1:=λw1=>hN X (v / 4294967296) w1 hX (by omega);have hN2:=λw1=>hN ((4294967296 * X + x * (v / 4294967296)) % LL) (v % 4294967296) w1 hY (by omega);generalize (4294967296 * X + x * (v / 4294967296)) % LL = Y at *;generalize (4294967296 * Y + x * (v % 4294967296)) % LL = Z at *;clear hN hW hcell hX hY e0 hy0 hwy hbl hwx hx
   have hi3 : i < 4:=by omega
   go_wp2
   refine vE 8 (.tmp 5) 57 (.tmp 18) rfl rfl rfl rfl (by kernel_rfl) (cC (by kernel_rfl)) (λ_ _ d _ _ h=>by cases d <;> exact h) ?_;simp only [a9,bN];refine Pc (w.heap.size + 1 + 1 + 1) (eT X) _ rfl rfl rfl (λ_ h=>h.blk hS.b3) ?_; simp only [aE,aA,aB,aC];refine Pc w.heap.size ha _ rfl rfl rfl (λ_ h=>h.blk hS.b0) ?_; simp only [aE,aA,aB,aC];refine Pf rfl rfl ?_; simp only [aE,aA,aB,aC];refine KD (w.heap.size + 1) 0 0 rfl rfl rfl (Ov _) ?_; simp only [aE,aA,aB,aC];refine Pb (w.heap.size + 1) i hi3 rfl rfl rfl rfl ?_; simp only [aE,aA,aB,aC];refine Pg (w.heap.size + 1) i v rfl rfl rfl (λw1 h=>hcell2 w1 _ (hS.up h)) ?_; simp only [aE,aA,aB,aC];refine Ru v rfl rfl rfl ?_; simp only [aE,aA,aB,aC];refine jU rfl Gf (λw1=>hN1 w1) rfl rfl ?_; simp only [aE,aA,aB,aC];refine cL ⟨_,_,(Us (ws Y)).toArray,rfl,rfl,hS.b3,by rw [kQ (eT X),kQ (eT Y)],fH _ (kQ (eT Y)),cJ _,λw1 hw1=>?_⟩;have hS2:=(hS.up hw1).set Y;clear hS hw1 hN1;generalize w1.setRow (w.heap.size + 1 + 1 + 1) (Us (ws Y)).toArray = w2 at *;have HS:=aH hS2;clear hS2
   go_wp2
   have hS:=HS.out;clear HS;refine vE 8 (.tmp 5) 57 (.tmp 26) rfl rfl rfl rfl (by kernel_rfl) (cC (by kernel_rfl)) (λ_ _ d _ _ h=>by cases d <;> exact h) ?_;simp only [a9,bN];refine Pc (w.heap.size + 1 + 1 + 1) (eT Y) _ rfl rfl rfl (λ_ h=>h.blk hS.b3) ?_; simp only [aE,aA,aB,aC];refine Pc w.heap.size ha _ rfl rfl rfl (λ_ h=>h.blk hS.b0) ?_; simp only [aE,aA,aB,aC];refine Pf rfl rfl ?_; simp only [aE,aA,aB,aC];refine KD (w.heap.size + 1) 0 0 rfl rfl rfl (Ov _) ?_; simp only [aE,aA,aB,aC];refine Pb (w.heap.size + 1) i hi3 rfl rfl rfl rfl ?_; simp only [aE,aA,aB,aC];refine Pg (w.heap.size + 1) i v rfl rfl rfl (λw1 h=>hcell2 w1 _ (hS.up h)) ?_; simp only [aE,aA,aB,aC];refine Rx v hv rfl rfl rfl ?_; simp only [aE,aA,aB,aC];refine jU rfl Gf (λw1=>hN2 w1) rfl rfl ?_; simp only [aE,aA,aB,aC];refine cL ⟨_,_,(Us (ws Z)).toArray,rfl,rfl,hS.b3,by rw [kQ (eT Y),kQ (eT Z)],fH _ (kQ (eT Z)),cJ _,λw1 hw1=>?_⟩;have hS2:=(hS.up hw1).set Z;clear hS hw1 hN2;generalize w1.setRow (w.heap.size + 1 + 1 + 1) (Us (ws Z)).toArray = w3 at *;have HS:=aH hS2;clear hS2 hcell2 hv
   go_wp2
   go_roundw
   case rel =>
    refine ⟨i,by omega,by go_num,?_⟩;rw [hD.out];exact HS.out
   case measure=>simp [intOf]
  ·obtain rfl : k = 0:=by omega
   rw [qG,sG] at hS;obtain ⟨b0,b1,b2,b3,be⟩:=hS;have hzs:=kQ (eT (x * y % LL));clear b0 b1
   go_wp2_with (first
    | (refine wpList_load_row rfl 57 _ rfl (w.heap.size + 1 + 1 + 1) rfl 57 (Us (ws (x * y % LL))).toArray (0,0) _ b3 Tryd.underlying57 rfl (fH _ hzs) ?_)
    | (refine wpList_store_row rfl 57 _ _ rfl (w.heap.size + 1 + 1) rfl (Us (ws (x * y % LL))).toArray rfl 57 _ b2 (fH _ hzs) (by rw [hzs]; rfl) (cJ _) ?_))
   refine bodyPost_ret (results_cell_row rfl _ _ (w.heap.size + 1 + 1) 57 (Us (ws (x * y % LL))).toArray (0,0) _ rfl (b2.row _) Tryd.underlying57 rfl (fH _ hzs)) rfl ⟨rfl,?_⟩;exact below_setRow be (by omega) _
end Go.Proofs.YtfkchihlchlfdaaDoor
namespace Go.Proofs.YtfkchihlchlfdaaDoor
open Go.RowKit Go.IntWalk
theorem BQ : Own 48:=λ_ _=>by go_simp
theorem pU : Own 41:=λ_ _=>by go_simp
theorem Lt : Own 45:=λ_ _=>by go_simp
theorem Ls : Own 46:=λ_ _=>by go_simp
end Go.Proofs.YtfkchihlchlfdaaDoor
namespace Go.Proofs.YtfkchihlchlfdaaDoor
open Go.RowKit Go.IntWalk Nums
theorem pQ (n : Nat) : (Tryd.prog.info? 57).map (·.size) = some (Us (ws n)).toArray.size:=fH _ (kQ (eT n))
section
variable {ops : Array Oper} {C0 : World -> Prop} {Q : Act -> Prop} {N : Nat} {E : List (Nat × Value)} {o : Oper} {rest : List Oper} {k : Nat}
theorem ET {x : Operand} (b n : Nat) (hg : o.guard = none) (hd : o.dst = some k) (hk : aQ k N = true) (ho : o.op = .load 57 x) (hx : ev E x = some (.pointer (some ⟨b,0,none⟩)))
  (hc : ∀ w,C0 w -> w.rangeAt b 0 (Us (ws n))) (hn : bF Tryd.prog ops C0 Q rest N ((k,.agg (Us (ws n)).toArray) :: E)) : bF Tryd.prog ops C0 Q (o :: rest) N E :=
 AO b 0 (Us (ws n)) _ hg hd hk ho hx hc Tryd.underlying57 rfl (by have:=pQ n; simpa using this) hn
theorem OK {x : Operand} {l : List UInt8} (b : Nat) (hl : l.length = 64) (hg : o.guard = none) (hd : o.dst = some k) (hk : aQ k N = true) (ho : o.op = .load 25 x) (hx : ev E x = some (.pointer (some ⟨b,0,none⟩)))
  (hc : ∀ w,C0 w -> w.rangeAt b 0 (By l)) (hn : bF Tryd.prog ops C0 Q rest N ((k,.agg (By l).toArray) :: E)) : bF Tryd.prog ops C0 Q (o :: rest) N E :=
 AO b 0 (By l) _ hg hd hk ho hx hc Tryd.underlying25 rfl (by rw [b6,hl]; kernel_rfl) hn
theorem mI {x : Operand} (g : Nat) (hg : o.guard = none) (hd : o.dst = some k) (hk : aQ k N = true) (ho : o.op = .slice 24 x none none none) (hx : ev E x = some (.pointer (some ⟨g,0,none⟩)))
  (hn : bF Tryd.prog ops C0 Q rest N ((k,.slice (some ⟨g,0,none⟩) 32 32) :: E)) : bF Tryd.prog ops C0 Q (o :: rest) N E :=
 dM _ hg hd hk (λa ha w _=>by
  have h1:=ha.eval hx
  unfold execOp
  simp only [ho,h1]
  go_simp) hn
end
theorem vS {a : List UInt8} (ha : a.length = 32) : (cop z64 0 a).length = 64:=by rw [EZ (by rw [Jn,ha]; decide),Jn]
theorem Te {a : List UInt8} (ha : a.length = 32) : le (cop z64 0 a) = le a:=by
 have e : cop z64 0 a = a ++ aD 32 0:=by
  rw [cop,ha]
  simp [z64]
 have e2 : le (aD 32 0) = 0:=by decide
 rw [e,lP,e2,A9,fJ]
theorem M1 (w n x : Nat) (hn : n <= w) (hx : x < 2 ^ w) : x * 2 ^ (w - n) % 2 ^ w = x % 2 ^ n * 2 ^ (w - n) /\ x / 2 ^ n < 2 ^ (w - n):=by
 have e : (2 : Nat) ^ w = 2 ^ n * 2 ^ (w - n):=by rw [<-Nat.pow_add,Nat.add_sub_cancel' hn]
 refine ⟨?_,Nat.div_lt_of_lt_mul (by rw [<-e]; exact hx)⟩;rw [e,Nat.mul_mod_mul_right]
theorem nV (x n : Nat) (hx : x < 18446744073709551616) (h0 : 0 < n) (hn : n < 64) (w : World) :
  Calls Tryd.prog 96 #[.int .u64 (x : Int),.int .i64 (-(n : Int))] w λe w'=>e = .returned (.int .u64 ((dW 64 n x : Nat) : Int)) /\ w' = w:=by
 have q1 : IntKind.u64.wrap (-(n : Int)) = ((18446744073709551616 - n : Nat) : Int):=by
  rw [aP]
  omega
 have q2 : bits .and .u64 ((18446744073709551616 - n : Nat) : Int) 63 = ((64 - n : Nat) : Int):=by
  have h:=u64_and_nat (18446744073709551616 - n) 63 (by omega) (by omega);have e : (18446744073709551616 - n) &&& 63 = (18446744073709551616 - n) % 64:=Nat.and_two_pow_sub_one_eq_mod _ 6;rw [e] at h
  have e2 : (18446744073709551616 - n) % 64 = 64 - n:=by omega
  rw [e2] at h;exact h
 obtain ⟨e1,e2⟩:=M1 64 n x (by omega) hx
 have q3 : IntKind.u64.wrap ((x : Int) * 2 ^ (64 - n)) = ((x % 2 ^ n * 2 ^ (64 - n) : Nat) : Int):=by
  rw [<-e1,aP]
  simp
 have q4 : IntKind.u64.wrap (64 - ((64 - n : Nat) : Int)) = (n : Int):=by
  rw [aP]
  omega
 have f1 : ((x : Int) / 2 ^ n) = ((x / 2 ^ n : Nat) : Int):=by simp
 have hm : x % 2 ^ n * 2 ^ (64 - n) < 18446744073709551616:=by
  rw [<-e1];exact eR _ (by decide)
 have hd : x / 2 ^ n < 18446744073709551616:=bR (gJ _ _) hx
 have q5 : bits .or .u64 ((x % 2 ^ n * 2 ^ (64 - n) : Nat) : Int) ((x / 2 ^ n : Nat) : Int) = ((dW 64 n x : Nat) : Int):=by
  rw [u64_or_nat _ _ hm hd,nat_join (64 - n) _ _ (Nat.mul_mod_left _ _) e2]
  unfold dW
  rw [qL]
 have g1 : ((64 - n : Nat) : Int) <= 64:=by omega
 have g2 : (n : Int) <= 64:=by omega
 clear e1 e2 hm hd;generalize dW 64 n x = r at *;generalize x % 2 ^ n * 2 ^ (64 - n) = m at *;generalize x / 2 ^ n = d at *;generalize hs : 64 - n = s at *;generalize 18446744073709551616 - n = u at *;clear hs
 go_enter Tryd.func96,Tryd.ntmps96
 go_wp2
 go_ret
 exact ⟨rfl,rfl⟩
theorem xY (cs : Array Value) (h : cs.size = 80) : (Tryd.prog.info? 96).map (·.size) = some cs.size:=by
 rw [h]
 kernel_rfl
def z80 : List Nat:=aD 80 0
theorem jV : z80.length = 80:=by decide
theorem PH (k : Nat) : z80[k]! = 0:=by
 unfold z80
 by_cases h : k < 80
 ·rw [getElem!_pos _ k (by rw [bM]; exact h),List.getElem_replicate]
 ·rw [getElem!_neg _ k (by rw [bM]; exact h)]
  rfl
theorem Ey {f : Nat -> Nat} {l : List Nat} {k j : Nat} (h : j < k) (hj : j < l.length) : (mxl f l k)[j]! = f j:=by
 rw [getElem!_pos _ j (by rw [dY]; exact hj)]
 simp [mxl,h]
theorem Sh : (Tryd.prog.info? 96).bind (λi=>i.zero.map (·.cells)) = some (Us z80).toArray:=by kernel_rfl
theorem MR {F : Nat -> Nat} {k : Nat} : (mxl F z80 k).set k 0 = mxl F z80 k:=by
 apply eE (by simp)
 intro i h1 h2
 rw [zF]
 by_cases h : k = i
 ·subst h
  have h3 : k < 80:=by simpa [dY,jV] using h2
  rw [if_pos rfl];have:=yO F z80 (k:=k) (by rw [jV]; exact h3);rw [getElem!_pos _ k h2,PH] at this;exact this.symm
 ·rw [if_neg h]
structure LS (w wr : World) (b : List UInt8) (l : List Nat) : Prop where
  b0 : Blk wr w.heap.size 121 (By b).toArray
  b1 : Blk wr (w.heap.size + 1) 96 (Us z80).toArray
  b2 : Blk wr (w.heap.size + 1 + 1) 96 (Us l).toArray
  be : Below w.heap.size w wr
theorem LS.set {w wr : World} {b : List UInt8} {l : List Nat} (h : LS w wr b l) (k x : Nat) : LS w (wr.setCell ⟨w.heap.size + 1 + 1,k,none⟩ (.int .u64 (x : Int))) b (l.set k x) where
 b0:=h.b0.far (by show w.heap.size ≠ w.heap.size + 1 + 1; omega) _
 b1:=h.b1.far (by show w.heap.size + 1 ≠ w.heap.size + 1 + 1; omega) _
 b2:=by
  have h4:=h.b2.set k (.int .u64 (x : Int));rw [uP] at h4;exact h4
 be:=h.be.setCell (by show w.heap.size <= w.heap.size + 1 + 1; omega) _
theorem LS.drew {w wr : World} {b : List UInt8} {l : List Nat} (h : LS w wr b l) : LS w wr.drew b l:=⟨h.b0,h.b1,h.b2,h.be.drew⟩
theorem LF {b : List UInt8} (hb : b.length = 128) (w : World) :
  Calls Tryd.prog 95 #[.agg (By b).toArray] w λe w'=>e = .returned (.agg (Us (mxl (sx eM b) z80 80)).toArray) /\ Below w.heap.size w w':=by
 have hlt:=Fy eM b (by decide)
 have h16 : ∀ t,t < 16 -> sx eM b t = ben (λk=>(b[8 * t + k]!).toNat) 8:=λt ht=>by
  rw [sx,dif_pos ht]
  unfold Hf
  rw [gN t]
  rfl
 have hrec : ∀ t,16 <= t -> sx eM b t = (o9 64 (19,61,6) (sx eM b (t - 2)) + sx eM b (t - 7) + o9 64 (1,8,7) (sx eM b (t - 15)) + sx eM b (t - 16)) % 18446744073709551616:=λt ht=>by
  rw [sx,dif_neg (by omega)]
  rfl
 have hl0:=pZ (sx eM b) z80;generalize sx eM b = F at *
 go_enter Tryd.func95,Tryd.ntmps95
 refine wp_seq_k λK hK=>?_;refine wp_region_lit ?_;refine jW (By b).toArray rfl rfl rfl ?_;refine dN (zs:=(Us z80).toArray) rfl rfl Sh ?_;refine dP ?_
 go_simp
 refine hK _ _ ?_;clear hK K;refine wp_seq_k λK hK=>?_;refine wp_region_lit ?_;refine dN (zs:=(Us z80).toArray) rfl rfl Sh ?_;refine dP ?_
 go_simp
 refine hK _ _ ?_;clear hK K;refine pM (λW=>LS w W b z80) ⟨mV w _ _ _ _,lI w _ _ _ _,lV w _ _ _ _,(((Below.refl _ _).alloc (aF _) _).alloc (by simp) _).alloc (by simp; omega) _⟩ ?_
 intro W hW
 have HW:=aH hW;clear hW
 go_wp2
 go_loopw [12] (λi wr=>∃ t : Nat,t <= 16 /\ i = .int .i64 t /\ LS w wr b (mxl F z80 t)) (λi _=>16 - (intOf i).toNat)
 case atStart =>
  refine ⟨0,by omega,rfl,?_⟩;rw [hl0];exact HW.out
 case round =>
  clear HW;obtain ⟨t,ht,rfl,hS⟩:=hrel
  by_cases htl : t < 16
  ·have hF:=h16 t htl
   have hset:=mP F z80 (k:=t);have hz:=MR (F:=F) (k:=t)
   have qA : IntKind.i64.wrap (8 * (t : Int)) = ((8 * t : Nat) : Int):=by rw [i64_left,wrap64_in _ (by omega)]; omega
   have qB : IntKind.i64.wrap (((8 * t : Nat) : Int) + 8) = ((8 * t + 8 : Nat) : Int):=by rw [i64_left,wrap64_in _ (by omega)]; omega
   have g1 : ((8 * t + 8 : Nat) : Int) <= 128:=by omega
   have g2 : ((8 * t : Nat) : Int) <= ((8 * t + 8 : Nat) : Int):=by omega
   have g3 : (0 : Int) <= ((8 * t : Nat) : Int):=by omega
   have g4 : (0 : Int) <= (t : Int):=by omega
   have HS:=aH hS;clear hS
   have hd : 8 * t + 8 - 8 * t = 8:=by omega
   have hA56 : 8 * t <= 120:=by omega
   generalize hA8 : 8 * t + 8 = A8 at *;generalize hA : 8 * t = A at *;clear hA8 h16 hrec
   go_wp2
   go_loopw [22] (λj wq=>∃ n : Nat,n <= 8 /\ j = .int .i64 n /\ LS w wq b ((mxl F z80 t).set t (ben (λk=>(b[A + k]!).toNat) n))) (λj _=>8 - (intOf j).toNat)
   case atStart =>
    refine ⟨0,by omega,rfl,?_⟩;have e0 : ben (λk=>(b[A + k]!).toNat) 0 = 0:=rfl;rw [e0,hz];exact HS.out
   case round =>
    clear HS;obtain ⟨n,hn,rfl,hS⟩:=hrel
    by_cases hnl : n < 8
    ·have hN:=hS.set t (ben (λk=>(b[A + k]!).toNat) (n + 1))
     rw [List.set_set] at hN;have hB : ben (λk=>(b[A + k]!).toNat) (n + 1) = ben (λk=>(b[A + k]!).toNat) n * 256 + (b[A + n]!).toNat:=rfl;have hy:=E4 (f:=λk=>(b[A + k]!).toNat) (λj=>UInt8.toNat_lt _) n;have hy2 : (256 : Nat) ^ n <= 256 ^ 7:=wQ (by decide) (by omega);have hx:=(b[A + n]!).toNat_lt;have c0:=(hS.b0.cell (A + n)).trans (fU (by omega));have c1:=(hS.b2.cell t).trans (iE (by rw [eP,dY,jV]; omega))
     have e1 : ((mxl F z80 t).set t (ben (λk=>(b[A + k]!).toNat) n))[t]! = ben (λk=>(b[A + k]!).toNat) n:=by
      rw [getElem!_pos _ t (by rw [eP,dY,jV]; omega),List.getElem_set_self]
     rw [e1] at c1;have f1:=hS.b2.free t;generalize ben (λk=>(b[A + k]!).toNat) n = y at *;generalize (b[A + n]!).toNat = x at *
     have hyx : y * 256 + x < 18446744073709551616:=by
      have : (256 : Nat) ^ 7 = 72057594037927936:=by decide
      omega
     have qo : bits .or .u64 ((y : Int) * 256) (x : Int) = ((y * 256 + x : Nat) : Int):=by
      have h:=orW 8 (y * 256) x (by omega) (by omega) (by omega) (by omega);rw [<-h]
      rfl
     have g5 : (0 : Int) <= (n : Int):=by omega
     rw [hB] at hN;have HB:=aH hB;generalize y * 256 + x = v at *;have HN:=aH hN
     have hy3 : y < 72057594037927936:=by
      have : (256 : Nat) ^ 7 = 72057594037927936:=by decide
      omega
     clear hS hN hB hy hy2 e1 hset hz hF
     go_wp2
     go_roundw
     case rel =>
      refine ⟨n + 1,by omega,by go_num,?_⟩;rw [HB.out];exact HN.out
     case measure=>simp [intOf]; omega
    ·obtain rfl : n = 8:=by omega
     rw [<-hF,hset] at hS;have HS:=aH hS;clear hS hF hset hz
     go_wp2
     go_roundw
     case rel=>exact ⟨t + 1,by omega,by go_num,HS.out⟩
     case measure=>simp [intOf]; omega
  ·obtain rfl : t = 16:=by omega
   have HS:=aH hS;clear hS;rw [show ((16 : Nat) : Int) = (16 : Int) from rfl]
   go_wp2
   go_loopw [7] (λi wr=>∃ t : Nat,16 <= t /\ t <= 80 /\ i = .int .i64 t /\ LS w wr b (mxl F z80 t)) (λi _=>80 - (intOf i).toNat)
   case atStart=>exact ⟨16,by omega,by omega,rfl,HS.out⟩
   case round =>
    clear HS;obtain ⟨t,h16t,ht,rfl,hS⟩:=hrel
    by_cases htl : t < 80
    ·have hF:=hrec t h16t
     have hN:=hS.drew.set t (F t);rw [mP] at hN;have k2:=(hS.b2.cell (t - 2)).trans (iE (by rw [dY,jV]; omega));have k7:=(hS.drew.drew.b2.cell (t - 7)).trans (iE (by rw [dY,jV]; omega));have k15:=(hS.b2.cell (t - 15)).trans (iE (by rw [dY,jV]; omega));have k16:=(hS.drew.drew.b2.cell (t - 16)).trans (iE (by rw [dY,jV]; omega));rw [Ey (by omega) (by rw [jV]; omega)] at k2 k7 k15 k16;have kf:=hS.drew.drew.b2.free t;have kt:=(hS.drew.drew.b2.cell t).trans (iE (by rw [dY,jV]; omega));have x2 : F (t - 2) < 18446744073709551616:=hlt (t - 2);have x7 : F (t - 7) < 18446744073709551616:=hlt (t - 7);have x15 : F (t - 15) < 18446744073709551616:=hlt (t - 15);have x16 : F (t - 16) < 18446744073709551616:=hlt (t - 16)
     have i2 : IntKind.i64.wrap ((t : Int) - 2) = ((t - 2 : Nat) : Int):=by rw [i64_left,wrap64_in _ (by omega)]; omega
     have i7 : IntKind.i64.wrap ((t : Int) - 7) = ((t - 7 : Nat) : Int):=by rw [i64_left,wrap64_in _ (by omega)]; omega
     have i15 : IntKind.i64.wrap ((t : Int) - 15) = ((t - 15 : Nat) : Int):=by rw [i64_left,wrap64_in _ (by omega)]; omega
     have i16 : IntKind.i64.wrap ((t : Int) - 16) = ((t - 16 : Nat) : Int):=by rw [i64_left,wrap64_in _ (by omega)]; omega
     have j2 : ((t - 2 : Nat) : Int) < 80:=by omega
     have j7 : ((t - 7 : Nat) : Int) < 80:=by omega
     have j15 : ((t - 15 : Nat) : Int) < 80:=by omega
     have j16 : ((t - 16 : Nat) : Int) < 80:=by omega
     generalize (mxl F z80 t)[t]! = old at *;generalize F (t - 2) = x at *;generalize F (t - 7) = p at *;generalize F (t - 15) = y at *;generalize F (t - 16) = q at *;generalize t - 2 = a2 at *;generalize t - 7 = a7 at *;generalize t - 15 = a15 at *;generalize t - 16 = a16 at *;have b1:=eG (w:=64) (n:=19) (x:=x) (by decide) x2;have b2:=eG (w:=64) (n:=61) (x:=x) (by decide) x2;have b3:=eG (w:=64) (n:=1) (x:=y) (by decide) x15;have b4:=eG (w:=64) (n:=8) (x:=y) (by decide) x15;have R1:=λw1=>aH (nV x 19 x2 (by decide) (by decide) w1);have R2:=λw1=>aH (nV x 61 x2 (by decide) (by decide) w1);have R3:=λw1=>aH (nV y 1 x15 (by decide) (by decide) w1);have R4:=λw1=>aH (nV y 8 x15 (by decide) (by decide) w1);have s1 : o9 64 (19,61,6) x = dW 64 19 x ^^^ dW 64 61 x ^^^ x / 64:=rfl;have s0 : o9 64 (1,8,7) y = dW 64 1 y ^^^ dW 64 8 y ^^^ y / 128:=rfl;rw [s1,s0] at hF;generalize dW 64 19 x = r1 at *;generalize dW 64 61 x = r2 at *;generalize dW 64 1 y = r3 at *;generalize dW 64 8 y = r4 at *
     have d6 : (x : Int) / 64 = ((x / 64 : Nat) : Int):=by omega
     have d7 : (y : Int) / 128 = ((y / 128 : Nat) : Int):=by omega
     have hd6 : x / 64 < 18446744073709551616:=by omega
     have hd7 : y / 128 < 18446744073709551616:=by omega
     generalize x / 64 = u6 at *;generalize y / 128 = u7 at *;have o1:=u64_xor_nat r1 r2 b1 b2;have o2:=u64_xor_nat (r1 ^^^ r2) u6 (gL b1 b2) hd6;have o3:=u64_xor_nat r3 r4 b3 b4;have o4:=u64_xor_nat (r3 ^^^ r4) u7 (gL b3 b4) hd7;have c1:=gL (gL b1 b2) hd6;have c0:=gL (gL b3 b4) hd7;generalize r1 ^^^ r2 ^^^ u6 = v1 at *;generalize r3 ^^^ r4 ^^^ u7 = v0 at *;generalize r1 ^^^ r2 = v2 at *;generalize r3 ^^^ r4 = v3 at *
     have w1 : IntKind.u64.wrap ((v1 : Int) + (p : Int)) = (((v1 + p) % 18446744073709551616 : Nat) : Int):=by rw [aP]; omega
     have w2 : IntKind.u64.wrap ((((v1 + p) % 18446744073709551616 : Nat) : Int) + (v0 : Int)) = ((((v1 + p) % 18446744073709551616 + v0) % 18446744073709551616 : Nat) : Int):=by rw [aP]; omega
     have w3 : IntKind.u64.wrap (((((v1 + p) % 18446744073709551616 + v0) % 18446744073709551616 : Nat) : Int) + (q : Int)) = ((F t : Nat) : Int):=by rw [hF,aP]; omega
     have HN:=aH hN;clear hS hN hF s1 s0 b1 b2 b3 b4 hd6 hd7 c1 c0;generalize ((v1 + p) % 18446744073709551616 + v0) % 18446744073709551616 = v5 at *;generalize (v1 + p) % 18446744073709551616 = v4 at *;generalize F t = z at *
     go_wp2
     go_region
     clear k2 k15;generalize wr.drew = W2 at *
     go_wp2_with (fail)
     refine (R1 _).out.mono ?_
     rintro e w4 ⟨rfl,rfl⟩
     go_wp2_with (fail)
     refine (R2 _).out.mono ?_
     rintro e w4 ⟨rfl,rfl⟩
     go_wp2_with (fail)
     refine (R3 _).out.mono ?_
     rintro e w4 ⟨rfl,rfl⟩
     go_wp2_with (fail)
     refine (R4 _).out.mono ?_
     rintro e w4 ⟨rfl,rfl⟩
     go_wp2_with (fail)
     go_still_tail 15,(by kernel_rfl)
     go_wp2
     go_roundw
     case rel=>exact ⟨t + 1,by omega,by omega,by go_num,HN.out.drew⟩
     case measure=>simp [intOf]; omega
    ·obtain rfl : t = 80:=by omega
     obtain ⟨b0,b1,b2,be⟩:=hS
     have hz : (Us (mxl F z80 80)).toArray.size = 80:=by rw [bA,cY,dY,jV]
     clear b0
     go_wp2_with (first
      | (refine wpList_load_row rfl 96 _ rfl (w.heap.size + 1 + 1) rfl 96 (Us (mxl F z80 80)).toArray (0,0) _ b2 Tryd.underlying96 rfl (xY _ hz) ?_)
      | (refine wpList_store_row rfl 96 _ _ rfl (w.heap.size + 1) rfl (Us (mxl F z80 80)).toArray rfl 96 _ b1 (xY _ hz) (by rw [hz,bA,cY,jV]) (cJ _) ?_))
     refine bodyPost_ret (results_cell_row rfl _ _ (w.heap.size + 1) 96 (Us (mxl F z80 80)).toArray (0,0) _ rfl (b1.row _) Tryd.underlying96 rfl (xY _ hz)) rfl ⟨rfl,?_⟩;exact below_setRow be (by omega) _
theorem Gg : Own 95:=λ_ _=>by go_simp
theorem qN (cs : Array Value) (h : cs.size = 8) : (Tryd.prog.info? 91).map (·.size) = some cs.size:=by
 rw [h]
 kernel_rfl
theorem Dc (cs : Array Value) (h : cs.size = 128) : (Tryd.prog.info? 121).map (·.size) = some cs.size:=by
 rw [h]
 kernel_rfl
theorem GB {l : List UInt8} (h : l.length = 128) : (By l).toArray.size = 128:=by rw [bA,b6,h]
def z8w : Array Value:=(Us [0,0,0,0,0,0,0,0]).toArray
structure Ts (w : World) : Prop where
  cell : ∀ i,i < 80 -> w.cell? ⟨1,i,none⟩ = some (.int .u64 (cbs[i]! : Nat))
  lt : 1 < w.heap.size
theorem Ts.below {w w' : World} (h : Ts w) (hb : Below w.heap.size w w') : Ts w' :=
 ⟨λi hi=>(hb.cell (p:=⟨1,i,none⟩) h.lt).trans (h.cell i hi),bB h.lt hb.size⟩
theorem Ts.drew {w : World} (h : Ts w) : Ts w.drew:=⟨h.cell,h.lt⟩
theorem O2 {t : Nat} (h : t < 80) : cbs[t]! < 18446744073709551616:=by
 have h1 : ∀ x ∈ cbs,x < 18446744073709551616:=by decide
 have h2 : t < cbs.length:=h;rw [getElem!_pos cbs t h2];exact h1 _ (xS _)
section
variable {ops : Array Oper} {C0 : World -> Prop} {Q : Act -> Prop} {a : Act} {o : Oper} {rest : List Oper}
theorem Rw {l : List UInt8} (g : Nat) (hl : l.length = 128) (x : Operand) (hg : aL o (yielded ops a.tmps) = true) (ho : o.op = .load 121 x) (hx : a.eval x = .pointer (some ⟨g,0,none⟩))
  (hc : ∀ w,C0 w -> Blk w g 121 (By l).toArray) (hk : wpB Tryd.prog ops C0 Q rest (a.put o.dst (.agg (By l).toArray))) : wpB Tryd.prog ops C0 Q (o :: rest) a :=
 y9 hg 121 x ho g 0 hx (By l) _ (λw h=>(hc w h).range) Tryd.underlying121 rfl (Dc (By l).toArray (GB hl)) hk
theorem uN {x : Operand} (g k : Nat) (hk8 : k < 8) (hg : aL o (yielded ops a.tmps) = true) (ho : o.op = .indexAddr 91 x (.const (.int .i64 (k : Int)))) (hx : a.eval x = .pointer (some ⟨g,0,none⟩))
  (hk : wpB Tryd.prog ops C0 Q rest (a.put o.dst (.pointer (some ⟨g,k,none⟩)))) : wpB Tryd.prog ops C0 Q (o :: rest) a :=
 k5 hg (λw _=>by
  have h1 : (k : Int) < 8:=by omega
  have h2 : (0 : Int) <= (k : Int):=by omega
  unfold execOp
  simp only [ho,hx]
  go_simp) hk
theorem qY {x : Operand} (g k v : Nat) (hg : aL o (yielded ops a.tmps) = true) (ho : o.op = .load 49 x) (hx : a.eval x = .pointer (some ⟨g,k,none⟩)) (hc : ∀ w,C0 w -> w.cell? ⟨g,k,none⟩ = some (.int .u64 (v : Int)))
  (hk : wpB Tryd.prog ops C0 Q rest (a.put o.dst (.int .u64 (v : Int)))) : wpB Tryd.prog ops C0 Q (o :: rest) a :=
 k5 hg (λw hw=>by
  have h1:=hc w hw
  unfold execOp
  simp only [ho,hx]
  go_simp) hk
theorem fX {x : Operand} (v : Value) (hg : aL o (yielded ops a.tmps) = true) (ho : o.op = .assign x) (hx : a.eval x = v) (hk : wpB Tryd.prog ops C0 Q rest (a.put o.dst v)) : wpB Tryd.prog ops C0 Q (o :: rest) a:=by
 subst hx;exact Hj hg ho hk
end
theorem UF {e : Nat} (he : e < 18446744073709551616) : bits .xor .u64 (if IntKind.u64.signed = true then -1 else IntKind.u64.max) (e : Int) = ((2 ^ 64 - 1 - e : Nat) : Int):=by
 have h:=u64_xor_nat 18446744073709551615 e (by omega) he
 have h2 : 18446744073709551615 ^^^ e = 2 ^ 64 - 1 - e:=by
  apply Nat.eq_of_testBit_eq
  intro i
  rw [show 2 ^ 64 - 1 - e = 2 ^ 64 - (e + 1) by omega,Nat.testBit_two_pow_sub_succ he,Nat.testBit_xor,show 18446744073709551615 = 2 ^ 64 - 1 from rfl,Nat.testBit_two_pow_sub_one]
  by_cases hi : i < 64
  ·simp [hi]
  ·have h3 : e.testBit i = false:=Nat.testBit_lt_two_pow (bB he (wQ (n:=2) (by decide) (show 64 <= i by omega)))
   simp [hi,h3]
 rw [h2] at h;exact h
structure TS5 (w wr : World) (o : Oct) (gx : Nat) (l : List Nat) : Prop where
  b0 : Blk wr w.heap.size 91 (Us o.list).toArray
  b2 : Blk wr (w.heap.size + 1 + 1) 91 z8w
  bx : Blk wr gx 96 (Us l).toArray
  tw : Ts wr
  be : Below w.heap.size w wr
theorem TS5.up {w wr w1 : World} {o : Oct} {gx : Nat} {l : List Nat} (h : TS5 w wr o gx l) (k : Up wr w1) : TS5 w w1 o gx l:=⟨k.blk h.b0,k.blk h.b2,k.blk h.bx,h.tw.below k,a6 h.be k⟩
theorem TS5.drew {w wr : World} {o : Oct} {gx : Nat} {l : List Nat} (h : TS5 w wr o gx l) : TS5 w wr.drew o gx l:=⟨h.b0,h.b2,h.bx,h.tw.drew,h.be.drew⟩
theorem KQ {o : Oct} (ho : OB 64 o) {b : List UInt8} (hb : b.length = 128) (w : World) (hT : Ts w) :
  Calls Tryd.prog 77 #[.agg (Us o.list).toArray,.agg (By b).toArray] w λe w'=>e = .returned (.agg (Us (iA eM o b).list).toArray) /\ Below w.heap.size w w':=by
 have HL:=λw1=>LF hb w1;have hxl : ∀ t,t < 80 -> (mxl (sx eM b) z80 80)[t]! = sx eM b t:=λt h=>Ey h (by rw [jV]; exact h);have hxb:=Fy eM b (by decide)
 have hxn : (mxl (sx eM b) z80 80).length = 80:=by rw [dY,jV]
 have hO:=λt=>OB.nO (s:=eM) (b:=b) ho t;have hstep : ∀ t,nO eM b o (t + 1) = rnd eM (cbs[t]!) (sx eM b t) (nO eM b o t):=λt=>rfl;have h0 : nO eM b o 0 = o:=rfl;have hend : iA eM o b = CB 64 o (nO eM b o 80):=rfl;rw [hend];clear hend
 have hzx : (Us (mxl (sx eM b) z80 80)).toArray.size = 80:=by rw [bA,cY,hxn]
 generalize mxl (sx eM b) z80 80 = l at *;generalize sx eM b = F at *;generalize nO eM b o = R at *
 go_enter Tryd.func77,Tryd.ntmps77
 refine wp_seq_k λK hK=>?_;refine wp_region_lit ?_;refine jW (Us o.list).toArray rfl rfl rfl ?_;refine jW (By b).toArray rfl rfl rfl ?_;refine dN (zs:=z8w) rfl rfl (by kernel_rfl) ?_;refine dP ?_
 go_simp
 refine hK _ _ ?_;clear hK K;refine pM (λW=>Blk W w.heap.size 91 (Us o.list).toArray /\ Blk W (w.heap.size + 1) 121 (By b).toArray /\ Blk W (w.heap.size + 1 + 1) 91 z8w /\ Ts W /\ Below w.heap.size w W) ⟨mV w _ _ _ _,lI w _ _ _ _,lV w _ _ _ _,hT.below ((((Below.refl _ _).alloc (aF _) _).alloc (by simp) _).alloc (by simp; omega) _),(((Below.refl _ _).alloc (aF _) _).alloc (by simp) _).alloc (by simp; omega) _⟩ ?_
 rintro W ⟨k0,k1,k2,hTW,hbe⟩
 refine wp_seq_k λK hK=>?_;refine rN 2 5 96 (.tmp 20) (Us z80).toArray rfl rfl rfl rfl rfl rfl rfl (c9 rfl Sh) ?_;simp only [a9,bN];refine Rw (w.heap.size + 1) hb _ rfl rfl rfl (λ_ h=>h.blk k1) ?_;simp only [aE,aA,aB,aC];refine jU rfl Gg (λw1=>HL w1) rfl rfl ?_;simp only [aE,aA,aB,aC];refine cL ⟨(Us l).toArray,λ_=>rfl,λ_=>rfl,by rw [hzx,bA,cY,jV],xY _ hzx,cJ _,λgx W3 hgx hw1 hbx=>?_⟩;simp only [Exit.then,aE,aA,aB,aC];refine hK _ _ ?_;clear hK K;have hS : TS5 w W3 o gx l:=⟨hw1.blk k0,hw1.blk k2,hbx,hTW.below hw1,a6 hbe hw1⟩;clear k0 k1 k2 hTW hbe hw1 hbx HL hT;have hb0:=hS.b0;have HS:=aH (aY hS h0);clear hS h0;refine wp_seq_k λK hK=>?_;refine yG (by kernel_rfl) (cC (by kernel_rfl)) (λ_ _ d _ _ h=>by cases d <;> exact h) ?_;refine uN w.heap.size 0 (by decide) rfl rfl rfl ?_;simp only [aE,aA,aB,aC];refine qY w.heap.size 0 o.a rfl rfl rfl (λ_ h=>(h.blk hb0).cell 0) ?_;simp only [aE,aA,aB,aC];refine uN w.heap.size 1 (by decide) rfl rfl rfl ?_;simp only [aE,aA,aB,aC];refine qY w.heap.size 1 o.b rfl rfl rfl (λ_ h=>(h.blk hb0).cell 1) ?_;simp only [aE,aA,aB,aC];refine uN w.heap.size 2 (by decide) rfl rfl rfl ?_;simp only [aE,aA,aB,aC];refine qY w.heap.size 2 o.c rfl rfl rfl (λ_ h=>(h.blk hb0).cell 2) ?_;simp only [aE,aA,aB,aC];refine uN w.heap.size 3 (by decide) rfl rfl rfl ?_;simp only [aE,aA,aB,aC];refine qY w.heap.size 3 o.d rfl rfl rfl (λ_ h=>(h.blk hb0).cell 3) ?_;simp only [aE,aA,aB,aC];refine uN w.heap.size 4 (by decide) rfl rfl rfl ?_;simp only [aE,aA,aB,aC];refine qY w.heap.size 4 o.e rfl rfl rfl (λ_ h=>(h.blk hb0).cell 4) ?_;simp only [aE,aA,aB,aC];refine uN w.heap.size 5 (by decide) rfl rfl rfl ?_;simp only [aE,aA,aB,aC];refine qY w.heap.size 5 o.f rfl rfl rfl (λ_ h=>(h.blk hb0).cell 5) ?_;simp only [aE,aA,aB,aC];refine uN w.heap.size 6 (by decide) rfl rfl rfl ?_
 simp only [aE,aA,aB,aC];refine qY w.heap.size 6 o.g rfl rfl rfl (λ_ h=>(h.blk hb0).cell 6) ?_;simp only [aE,aA,aB,aC];refine uN w.heap.size 7 (by decide) rfl rfl rfl ?_;simp only [aE,aA,aB,aC];refine qY w.heap.size 7 o.h rfl rfl rfl (λ_ h=>(h.blk hb0).cell 7) ?_;simp only [aE,aA,aB,aC];refine fX (.int .u64 (o.a : Int)) rfl rfl rfl ?_;simp only [aE,aA,aB,aC];refine fX (.int .u64 (o.b : Int)) rfl rfl rfl ?_;simp only [aE,aA,aB,aC];refine fX (.int .u64 (o.c : Int)) rfl rfl rfl ?_;simp only [aE,aA,aB,aC];refine fX (.int .u64 (o.d : Int)) rfl rfl rfl ?_;simp only [aE,aA,aB,aC];refine fX (.int .u64 (o.e : Int)) rfl rfl rfl ?_;simp only [aE,aA,aB,aC];refine fX (.int .u64 (o.f : Int)) rfl rfl rfl ?_;simp only [aE,aA,aB,aC];refine fX (.int .u64 (o.g : Int)) rfl rfl rfl ?_;simp only [aE,aA,aB,aC];refine fX (.int .u64 (o.h : Int)) rfl rfl rfl ?_;simp only [aE,aA,aB,aC];refine cL ?_
 intro W4 hw1
 simp only [Exit.then];refine hK _ _ ?_;clear hK K hb0;have HS:=aH (aY (HS.out.1.up hw1) HS.out.2);clear hw1
 go_wp2
 go_loopw [37,6,7,8,9,10,11,12,13] (λi va vb vc vd ve vf vg vh wr=>∃ t : Nat,t <= 80 /\ i = .int .i64 t /\ va = .int .u64 (R t).a /\ vb = .int .u64 (R t).b /\ vc = .int .u64 (R t).c /\ vd = .int .u64 (R t).d /\ ve = .int .u64 (R t).e /\ vf = .int .u64 (R t).f /\ vg = .int .u64 (R t).g /\ vh = .int .u64 (R t).h /\ TS5 w wr o gx l) (λi _ _ _ _ _ _ _ _ _=>80 - (intOf i).toNat)
 case atStart =>
  obtain ⟨hS,h0⟩:=HS.out;refine ⟨0,by omega,rfl,?_⟩;rw [h0];exact ⟨rfl,rfl,rfl,rfl,rfl,rfl,rfl,rfl,hS⟩
 case round =>
  clear HS;obtain ⟨t,ht,rfl,rfl,rfl,rfl,rfl,rfl,rfl,rfl,rfl,hS⟩:=hrel
  by_cases htl : t < 80
  ·have hs:=hstep t
   obtain ⟨ba,bb,bc,bd,be,bf,bg,bh⟩:=hO t;have hX : F t < 18446744073709551616:=hxb t;have hKt:=O2 htl;have cx:=(hS.drew.bx.cell t).trans (iE (by omega));rw [hxl t htl] at cx;have ck:=hS.drew.tw.cell t htl;generalize R t = q at *;obtain ⟨a,b',c,d,e,f,g,h⟩:=q;generalize F t = X at *;generalize cbs[t]! = Kt at *
   dsimp only at ba bb bc bd be bf bg bh ⊢
   have e1 : oU 64 (14,18,41) e = dW 64 14 e ^^^ dW 64 18 e ^^^ dW 64 41 e:=rfl;have e0 : oU 64 (28,34,39) a = dW 64 28 a ^^^ dW 64 34 a ^^^ dW 64 39 a:=rfl;have r1:=eG (w:=64) (n:=14) (x:=e) (by decide) be;have r2:=eG (w:=64) (n:=18) (x:=e) (by decide) be;have r3:=eG (w:=64) (n:=41) (x:=e) (by decide) be;have r4:=eG (w:=64) (n:=28) (x:=a) (by decide) ba;have r5:=eG (w:=64) (n:=34) (x:=a) (by decide) ba;have r6:=eG (w:=64) (n:=39) (x:=a) (by decide) ba;have R1:=λw1=>aH (nV e 14 be (by decide) (by decide) w1);have R2:=λw1=>aH (nV e 18 be (by decide) (by decide) w1);have R3:=λw1=>aH (nV e 41 be (by decide) (by decide) w1);have R4:=λw1=>aH (nV a 28 ba (by decide) (by decide) w1);have R5:=λw1=>aH (nV a 34 ba (by decide) (by decide) w1);have R6:=λw1=>aH (nV a 39 ba (by decide) (by decide) w1);have hnew : rnd eM Kt X ⟨a,b',c,d,e,f,g,h⟩ = ⟨(h + oU 64 (14,18,41) e + chw 64 e f g + Kt + X + (oU 64 (28,34,39) a + maw a b' c)) % 18446744073709551616,a,b',c,(d + (h + oU 64 (14,18,41) e + chw 64 e f g + Kt + X)) % 18446744073709551616,e,f,g⟩:=rfl;rw [hnew] at hs;clear hnew;have u1:=vU (w:=64) (t:=(14,18,41)) (x:=e) (by decide) be;have u0:=vU (w:=64) (t:=(28,34,39)) (x:=a) (by decide) ba;have uc:=Ja (w:=64) (e:=e) (f:=f) (g:=g) be;have um:=IA (w:=64) (a:=a) (b:=b') (c:=c) ba bb;have x1:=u64_xor_nat _ _ r1 r2;have x2:=u64_xor_nat _ _ (gL r1 r2) r3;have x3:=u64_xor_nat _ _ r4 r5;have x4:=u64_xor_nat _ _ (gL r4 r5) r6;rw [<-e1] at x2;rw [<-e0] at x4;generalize oU 64 (14,18,41) e = s1 at *;generalize oU 64 (28,34,39) a = s0 at *;generalize dW 64 14 e ^^^ dW 64 18 e = y1 at *;generalize dW 64 28 a ^^^ dW 64 34 a = y0 at *;generalize dW 64 14 e = p1 at *;generalize dW 64 18 e = p2 at *;generalize dW 64 41 e = p3 at *;generalize dW 64 28 a = p4 at *;generalize dW 64 34 a = p5 at *;generalize dW 64 39 a = p6 at *;have n1:=u64_and_nat e f be bf;have n2:=u64_and_nat (2 ^ 64 - 1 - e) g (by omega) bg;have n3 : bits .xor .u64 ((e &&& f : Nat) : Int) (((2 ^ 64 - 1 - e) &&& g : Nat) : Int) = ((chw 64 e f g : Nat) : Int):=u64_xor_nat _ _ (gR (w:=64) be) (gR (w:=64) (bR (Nat.sub_le (2 ^ 64 - 1) e) (by decide)));have n4:=u64_and_nat a b' ba bb;have n5:=u64_and_nat a c ba bc;have n6:=u64_and_nat b' c bb bc;have n7:=u64_xor_nat (a &&& b') (a &&& c) (gR ba) (gR ba);have n8 : bits .xor .u64 (((a &&& b') ^^^ (a &&& c) : Nat) : Int) ((b' &&& c : Nat) : Int) = ((maw a b' c : Nat) : Int):=u64_xor_nat _ _ (gL (gR ba) (gR ba)) (gR bb);generalize chw 64 e f g = ch at *;generalize maw a b' c = ma at *;generalize (a &&& b') ^^^ (a &&& c) = m4 at *;generalize a &&& b' = m1 at *;generalize a &&& c = m2 at *
   generalize b' &&& c = m3 at *;generalize e &&& f = m5 at *;generalize (2 ^ 64 - 1 - e) &&& g = m6 at *;have nn:=UF be;generalize 2 ^ 64 - 1 - e = ne at *;obtain ⟨q1,hq1⟩ : ∃ z,z = (h + s1) % 18446744073709551616:=⟨_,rfl⟩;obtain ⟨q2,hq2⟩ : ∃ z,z = (q1 + ch) % 18446744073709551616:=⟨_,rfl⟩;obtain ⟨q3,hq3⟩ : ∃ z,z = (q2 + Kt) % 18446744073709551616:=⟨_,rfl⟩;obtain ⟨q4,hq4⟩ : ∃ z,z = (q3 + X) % 18446744073709551616:=⟨_,rfl⟩;obtain ⟨q5,hq5⟩ : ∃ z,z = (s0 + ma) % 18446744073709551616:=⟨_,rfl⟩;obtain ⟨q6,hq6⟩ : ∃ z,z = (d + q4) % 18446744073709551616:=⟨_,rfl⟩;obtain ⟨q7,hq7⟩ : ∃ z,z = (q4 + q5) % 18446744073709551616:=⟨_,rfl⟩
   have t1 : IntKind.u64.wrap ((h : Int) + (s1 : Int)) = (q1 : Int):=by rw [aP]; omega
   have t2 : IntKind.u64.wrap ((q1 : Int) + (ch : Int)) = (q2 : Int):=by rw [aP]; omega
   have t3 : IntKind.u64.wrap ((q2 : Int) + (Kt : Int)) = (q3 : Int):=by rw [aP]; omega
   have t4 : IntKind.u64.wrap ((q3 : Int) + (X : Int)) = (q4 : Int):=by rw [aP]; omega
   have t5 : IntKind.u64.wrap ((s0 : Int) + (ma : Int)) = (q5 : Int):=by rw [aP]; omega
   have t6 : IntKind.u64.wrap ((d : Int) + (q4 : Int)) = (q6 : Int):=by rw [aP]; omega
   have t7 : IntKind.u64.wrap ((q4 : Int) + (q5 : Int)) = (q7 : Int):=by rw [aP]; omega
   have h6 : (d + (h + s1 + ch + Kt + X)) % 18446744073709551616 = q6:=by omega
   have h7 : (h + s1 + ch + Kt + X + (s0 + ma)) % 18446744073709551616 = q7:=by omega
   rw [h6,h7] at hs;clear hq1 hq2 hq3 hq4 hq5 hq6 hq7 h6 h7;have HN:=aH (aY hs hS.drew);clear hs hS e1 e0 r1 r2 r3 r4 r5 r6
   go_wp2_with (fail)
   refine (R1 _).out.mono ?_
   rintro z w4 ⟨rfl,rfl⟩
   go_wp2_with (fail)
   refine (R2 _).out.mono ?_
   rintro z w4 ⟨rfl,rfl⟩
   go_wp2_with (fail)
   refine (R3 _).out.mono ?_
   rintro z w4 ⟨rfl,rfl⟩
   go_wp2_with (fail)
   refine (R4 _).out.mono ?_
   rintro z w4 ⟨rfl,rfl⟩
   go_wp2_with (fail)
   refine (R5 _).out.mono ?_
   rintro z w4 ⟨rfl,rfl⟩
   go_wp2_with (fail)
   refine (R6 _).out.mono ?_
   rintro z w4 ⟨rfl,rfl⟩
   go_wp2_with (fail)
   go_region
   go_wp2
   go_roundw
   case rel =>
    obtain ⟨hs,hS⟩:=HN.out;refine ⟨t + 1,by omega,by go_num,?_⟩;rw [hs];exact ⟨rfl,rfl,rfl,rfl,rfl,rfl,rfl,rfl,hS⟩
   case measure=>simp [intOf]; omega
  ·obtain rfl : t = 80:=by omega
   obtain ⟨ba,bb,bc,bd,be,bf,bg,bh⟩:=hO 80;obtain ⟨ha,hb',hc,hd,he,hf,hg,hh⟩:=ho;generalize hq : R 80 = q at *;obtain ⟨a,b',c,d,e,f,g,h⟩:=q;have HQ:=aH hq;clear hq
   dsimp only at ba bb bc bd be bf bg bh ⊢
   obtain ⟨k0,k2,kx,kt,kb⟩:=hS;have c0 : wr.cell? ⟨w.heap.size,0,none⟩ = some (.int .u64 (o.a : Int)):=k0.cell 0;have c1 : wr.cell? ⟨w.heap.size,1,none⟩ = some (.int .u64 (o.b : Int)):=k0.cell 1;have c2 : wr.cell? ⟨w.heap.size,2,none⟩ = some (.int .u64 (o.c : Int)):=k0.cell 2;have c3 : wr.cell? ⟨w.heap.size,3,none⟩ = some (.int .u64 (o.d : Int)):=k0.cell 3;have c4 : wr.cell? ⟨w.heap.size,4,none⟩ = some (.int .u64 (o.e : Int)):=k0.cell 4;have c5 : wr.cell? ⟨w.heap.size,5,none⟩ = some (.int .u64 (o.f : Int)):=k0.cell 5;have c6 : wr.cell? ⟨w.heap.size,6,none⟩ = some (.int .u64 (o.g : Int)):=k0.cell 6;have c7 : wr.cell? ⟨w.heap.size,7,none⟩ = some (.int .u64 (o.h : Int)):=k0.cell 7
   have w0 : IntKind.u64.wrap ((o.a : Int) + (a : Int)) = (((o.a + a) % 18446744073709551616 : Nat) : Int):=by rw [aP]; omega
   have w1 : IntKind.u64.wrap ((o.b : Int) + (b' : Int)) = (((o.b + b') % 18446744073709551616 : Nat) : Int):=by rw [aP]; omega
   have w2 : IntKind.u64.wrap ((o.c : Int) + (c : Int)) = (((o.c + c) % 18446744073709551616 : Nat) : Int):=by rw [aP]; omega
   have w3 : IntKind.u64.wrap ((o.d : Int) + (d : Int)) = (((o.d + d) % 18446744073709551616 : Nat) : Int):=by rw [aP]; omega
   have w4 : IntKind.u64.wrap ((o.e : Int) + (e : Int)) = (((o.e + e) % 18446744073709551616 : Nat) : Int):=by rw [aP]; omega
   have w5 : IntKind.u64.wrap ((o.f : Int) + (f : Int)) = (((o.f + f) % 18446744073709551616 : Nat) : Int):=by rw [aP]; omega
   have w6 : IntKind.u64.wrap ((o.g : Int) + (g : Int)) = (((o.g + g) % 18446744073709551616 : Nat) : Int):=by rw [aP]; omega
   have w7 : IntKind.u64.wrap ((o.h : Int) + (h : Int)) = (((o.h + h) % 18446744073709551616 : Nat) : Int):=by rw [aP]; omega
   have hres : CB 64 o ⟨a,b',c,d,e,f,g,h⟩ = ⟨(o.a + a) % 18446744073709551616,(o.b + b') % 18446744073709551616,(o.c + c) % 18446744073709551616,(o.d + d) % 18446744073709551616,(o.e + e) % 18446744073709551616,(o.f + f) % 18446744073709551616,(o.g + g) % 18446744073709551616,(o.h + h) % 18446744073709551616⟩:=rfl;generalize (o.a + a) % 18446744073709551616 = z0 at *;generalize (o.b + b') % 18446744073709551616 = z1 at *;generalize (o.c + c) % 18446744073709551616 = z2 at *;generalize (o.d + d) % 18446744073709551616 = z3 at *;generalize (o.e + e) % 18446744073709551616 = z4 at *;generalize (o.f + f) % 18446744073709551616 = z5 at *;generalize (o.g + g) % 18446744073709551616 = z6 at *;generalize (o.h + h) % 18446744073709551616 = z7 at *;have HR:=aH hres;clear hres ba bb bc bd be bf bg bh ha hb' hc hd he hf hg hh k0 kx kt;have HK:=aH (aY k2 kb);clear k2 kb;have hz : (Us [z0,z1,z2,z3,z4,z5,z6,z7]).toArray.size = 8:=rfl;have k2:=HK.out.1
   go_wp2_with (refine wpList_store_row rfl 91 _ _ rfl (w.heap.size + 1 + 1) rfl (Us [z0,z1,z2,z3,z4,z5,z6,z7]).toArray rfl 91 _ k2 (qN _ hz) (by rw [hz]; rfl) (cJ _) ?_)
   refine bodyPost_ret (results_cell_row rfl _ _ (w.heap.size + 1 + 1) 91 (Us [z0,z1,z2,z3,z4,z5,z6,z7]).toArray (0,0) _ rfl (k2.row _) Tryd.underlying91 rfl (qN _ hz)) rfl ⟨by rw [HQ.out,HR.out]; rfl,?_⟩;exact below_setRow HK.out.2 (by omega) _
end Go.Proofs.YtfkchihlchlfdaaDoor
namespace Nums
def pf (D : List UInt8) (p : Nat -> Bool) : List UInt8:=(List.range D.length).map λm=>if p m then D[m]! else 0
theorem Nq (D : List UInt8) (p : Nat -> Bool) : (pf D p).length = D.length:=by simp [pf]
theorem yJ {D : List UInt8} {p q : Nat -> Bool} (h : ∀ m,m < D.length -> p m = q m) : pf D p = pf D q:=by
 apply eE (by simp [pf])
 intro i h1 h2
 have hi : i < D.length:=by simpa [pf] using h1
 simp [pf,h i hi]
theorem Np {D : List UInt8} {p q : Nat -> Bool} {k : Nat} (h : ∀ m,m < D.length -> q m = (p m || decide (m = k))) : (pf D p).set k D[k]! = pf D q:=by
 apply eE (by simp [pf])
 intro i h1 h2
 have hi : i < D.length:=by simpa [pf] using h2
 rw [zF]
 by_cases e : k = i
 ·subst e
  simp [pf,h k hi]
 ·rw [if_neg e]
  have e2 : decide (i = k) = false:=decide_eq_false (λh=>e h.symm)
  simp [pf,h i hi,e2]
theorem Nr {D : List UInt8} {p : Nat -> Bool} (h : ∀ m,m < D.length -> p m = true) : pf D p = D:=by
 apply eE (by simp [pf])
 intro i h1 h2
 simp [pf,h i h2,h2]
theorem JU {D : List UInt8} {p : Nat -> Bool} (h : ∀ m,m < D.length -> p m = false) : pf D p = aD D.length 0:=by
 apply eE (by simp [pf])
 intro i h1 h2
 have hi : i < D.length:=by simpa [pf] using h1
 simp [pf,h i hi]
theorem flat_get {n : Nat} (f : Nat -> List UInt8) (hf : ∀ x,(f x).length = n) : ∀ (l : List Nat) {i j : Nat},i < l.length -> j < n -> ((l.map f).flatten)[n * i + j]! = (f l[i]!)[j]!
 | [],i,_,h,_=>absurd h (by simp)
 | x :: l,0,j,_,hj=>by
  rw [cH,o6,A9,Nat.zero_add]
  have h1 : j < (f x).length:=by rw [hf]; exact hj
  rw [getElem!_pos (f x ++ (l.map f).flatten) j (by rw [aO]; omega),List.getElem_append_left h1];exact (getElem!_pos (f x) j h1).symm
 | x :: l,i + 1,j,h,hj=>by
  have ih:=flat_get f hf l (i:=i) (j:=j) (by simpa using h) hj
  have e : ((x :: l).map f).flatten = f x ++ (l.map f).flatten:=by rw [cH,o6]
  have e2 : (x :: l)[i + 1]! = l[i]!:=rfl;rw [e2,<-ih,e];have hx:=hf x
  have hi : n * (i + 1) + j = (f x).length + (n * i + j):=by rw [hx,Nat.mul_add]; omega
  rw [hi]
  by_cases hb : n * i + j < (l.map f).flatten.length
  ·rw [getElem!_pos (l.map f).flatten _ hb,getElem!_pos (f x ++ (l.map f).flatten) _ (by rw [aO]; omega),List.getElem_append_right (by omega)]
   congr 1
   omega
  ·rw [getElem!_neg (l.map f).flatten _ hb,getElem!_neg (f x ++ (l.map f).flatten) _ (by rw [aO]; omega)]
theorem rU {n : Nat} (f : Nat -> List UInt8) (hf : ∀ x,(f x).length = n) : ∀ (l : List Nat),((l.map f).flatten).length = n * l.length
 | []=>rfl
 | x :: l=>by rw [cH,o6,aO,hf,rU f hf l,List.length_cons,Nat.mul_add]; omega
theorem rS (s : Sha) (x : Nat) : (m9 s x).length = s.w / 8:=by
 unfold m9
 rw [lZ,cK]
end Nums
namespace Go.Proofs.YtfkchihlchlfdaaDoor
open Go.RowKit Go.IntWalk Nums
theorem GC {s : Sha} {x j : Nat} (h : j < s.w / 8) : ((m9 s x)[s.w / 8 - 1 - j]!).toNat = x / 256 ^ j % 256:=by
 have hl : (Nums.bytes (s.w / 8) x).length = s.w / 8:=cK _ _
 have e : (m9 s x)[s.w / 8 - 1 - j]! = (Nums.bytes (s.w / 8) x)[j]!:=by
  unfold m9
  rw [getElem!_pos _ _ (by rw [lZ,hl]; omega),List.getElem_reverse,getElem!_pos _ j (by rw [hl]; exact h)]
  congr 1
  rw [hl]
  omega
 rw [e,nS _ _ h]
theorem pP (cs : Array Value) (h : cs.size = 64) : (Tryd.prog.info? 25).map (·.size) = some cs.size:=by
 rw [h]
 kernel_rfl
def wU : List UInt8:=aD 64 0
theorem PG : (Tryd.prog.info? 25).bind (λi=>i.zero.map (·.cells)) = some (By wU).toArray:=by kernel_rfl
structure LY (w wr : World) (cs : Array Value) (m : List UInt8) : Prop where
  b0 : Blk wr w.heap.size 91 cs
  b1 : Blk wr (w.heap.size + 1) 25 (By wU).toArray
  b2 : Blk wr (w.heap.size + 1 + 1) 25 (By m).toArray
  be : Below w.heap.size w wr
theorem LY.set {w wr : World} {cs : Array Value} {m : List UInt8} (h : LY w wr cs m) (k : Nat) (x : UInt8) : LY w (wr.setCell ⟨w.heap.size + 1 + 1,k,none⟩ (.int .u8 (x.toNat : Int))) cs (m.set k x) where
 b0:=h.b0.far (by show w.heap.size ≠ w.heap.size + 1 + 1; omega) _
 b1:=h.b1.far (by show w.heap.size + 1 ≠ w.heap.size + 1 + 1; omega) _
 b2:=by
  have h4:=h.b2.set k (.int .u8 (x.toNat : Int));rw [rG] at h4;exact h4
 be:=h.be.setCell (by show w.heap.size <= w.heap.size + 1 + 1; omega) _
theorem N0 {l : List Nat} (hl : l.length = 8) (hw : ∀ x ∈ l,x < 18446744073709551616) (w : World) :
  Calls Tryd.prog 78 #[.agg (Us l).toArray] w λe w'=>e = .returned (.agg (By (l.map (m9 eM)).flatten).toArray) /\ Below w.heap.size w w':=by
 have hD:=rU (m9 eM) (n:=8) (λx=>rS eM x) l;rw [hl] at hD
 have hg : ∀ i j,i < 8 -> j < 8 -> (((l.map (m9 eM)).flatten)[8 * i + 7 - j]!).toNat = l[i]! / 256 ^ j % 256:=λi j hi hj=>by
  have h1:=flat_get (m9 eM) (n:=8) (λx=>rS eM x) l (i:=i) (j:=7 - j) (by omega) (by omega);rw [show 8 * i + 7 - j = 8 * i + (7 - j) by omega,h1];exact GC (s:=eM) (j:=j) hj
 have hzs : (Us l).toArray.size = 8:=by rw [bA,cY,hl]
 have hix : ∀ i,i < 8 -> ∀ w1,(Instr.index 91 (.agg (Us l).toArray) (.int .i64 ((i : Nat) : Int))).run Tryd.prog w1 = .ok (.int .u64 (l[i]! : Nat)) w1:=λi hi w1=>by
  have h0 : (Us l).toArray[i]? = some (.int .u64 (l[i]! : Nat)):=iE (by omega)
  have h1 : ((i : Nat) : Int) < 8:=by omega
  have h2 : (0 : Int) <= (i : Nat):=by omega
  generalize l[i]! = c at *;generalize (Us l).toArray = cs at *
  unfold Instr.index Go.part
  go_simp
  obtain ⟨_,h⟩:=Array.getElem?_eq_some_iff.1 h0;exact h
 have hwl : ∀ i,i < 8 -> l[i]! < 18446744073709551616:=λi hi=>by
  rw [getElem!_pos l i (by omega)];exact hw _ (xS _)
 generalize (l.map (m9 eM)).flatten = D at *;generalize (Us l).toArray = cs at *
 go_enter Tryd.func78,Tryd.ntmps78
 refine wp_seq_k λK hK=>?_;refine wp_region_lit ?_;refine jW cs rfl rfl rfl ?_;refine dN (zs:=(By wU).toArray) rfl rfl PG ?_;refine dP ?_
 go_simp
 refine hK _ _ ?_;clear hK K;refine wp_seq_k λK hK=>?_;refine wp_region_lit ?_;refine dN (zs:=(By wU).toArray) rfl rfl PG ?_;refine dP ?_
 go_simp
 refine hK _ _ ?_;clear hK K;refine pM (λW=>LY w W cs wU) ⟨mV w _ _ _ _,lI w _ _ _ _,lV w _ _ _ _,(((Below.refl _ _).alloc (aF _) _).alloc (by simp) _).alloc (by simp; omega) _⟩ ?_
 intro W hW
 have k0:=hW.b0;have HW:=aH hW;clear hW
 go_wp2_with (refine wpList_load_row rfl 91 _ rfl w.heap.size rfl 91 cs (0,0) _ k0 Tryd.underlying91 rfl (qN _ hzs) ?_)
 clear k0
 go_loopw [8] (λi wr=>∃ t : Nat,t <= 8 /\ i = .int .i64 t /\ LY w wr cs (pf D λm=>decide (m < 8 * t))) (λi _=>8 - (intOf i).toNat)
 case atStart =>
  refine ⟨0,by omega,rfl,?_⟩;rw [JU (λm _=>decide_eq_false (by omega)),hD];exact HW.out
 case round =>
  clear HW;obtain ⟨t,ht,rfl,hS⟩:=hrel
  by_cases htl : t < 8
  ·have hi:=hix t htl
   have hx:=hwl t htl;have hby:=λj hj=>hg t j htl hj;generalize l[t]! = x at *
   have g4 : (0 : Int) <= (t : Int):=by omega
   have HS:=aH hS;clear hS hg hix hwl
   go_wp2
   go_loopw [12,5] (λj v wq=>∃ n : Nat,n <= 8 /\ j = .int .i64 n /\ v = .int .u64 ((x / 256 ^ n : Nat) : Int) /\ LY w wq cs (pf D λm=>decide (m < 8 * t \/ 8 * t + 8 - n <= m /\ m < 8 * t + 8))) (λj _ _=>8 - (intOf j).toNat)
   case atStart =>
    refine ⟨0,by omega,rfl,by rw [qG,sG],?_⟩;rw [yJ (q:=λm=>decide (m < 8 * t)) (λm _=>decide_eq_decide.2 (by omega))];exact HS.out
   case round =>
    clear HS;obtain ⟨n,hn,rfl,rfl,hS⟩:=hrel
    by_cases hnl : n < 8
    ·have hN:=hS.set (8 * t + 7 - n) D[8 * t + 7 - n]!
     rw [Np (q:=λm=>decide (m < 8 * t \/ 8 * t + 8 - (n + 1) <= m /\ m < 8 * t + 8)) (λm _=>by rw [<-Bool.decide_or]; exact decide_eq_decide.2 (by omega))] at hN;have hb:=hby n hnl
     have hdiv : x / 256 ^ (n + 1) = x / 256 ^ n / 256:=by rw [dE,gX]
     have hle : x / 256 ^ n < 18446744073709551616:=bR (gJ _ _) hx;have c2:=(hS.b2.cell (8 * t + 7 - n)).trans (fU (by rw [Nq,hD]; omega));have f2:=hS.b2.free (8 * t + 7 - n);generalize x / 256 ^ n = y at *
     have q4 : IntKind.u8.wrap (y : Int) = ((D[8 * t + 7 - n]!).toNat : Int):=by
      rw [k6,hb]
      omega
     have g5 : (0 : Int) <= (n : Int):=by omega
     have q5 : (y : Int) / 256 = ((y / 256 : Nat) : Int):=by omega
     have HN:=aH (aY hN hdiv);clear hS hN hdiv hb hby hi;generalize (D[8 * t + 7 - n]!).toNat = v at *;generalize ((pf D λm=>decide (m < 8 * t \/ 8 * t + 8 - n <= m /\ m < 8 * t + 8))[8 * t + 7 - n]!).toNat = old at *;generalize y / 256 = y2 at *
     go_wp2
     go_roundw
     case rel =>
      obtain ⟨hN,hdiv⟩:=HN.out;refine ⟨n + 1,by omega,by go_num,by rw [hdiv],hN⟩
     case measure=>simp [intOf]; omega
    ·obtain rfl : n = 8:=by omega
     rw [yJ (q:=λm=>decide (m < 8 * (t + 1))) (λm _=>decide_eq_decide.2 (by omega))] at hS;have HS:=aH hS;clear hS
     go_wp2
     go_roundw
     case rel=>exact ⟨t + 1,by omega,by go_num,HS.out⟩
     case measure=>simp [intOf]; omega
  ·obtain rfl : t = 8:=by omega
   rw [Nr (λm hm=>decide_eq_true (by omega))] at hS;obtain ⟨b0,b1,b2,be⟩:=hS
   have hz : (By D).toArray.size = 64:=by rw [bA,b6,hD]
   clear b0
   go_wp2_with (first
    | (refine wpList_load_row rfl 25 _ rfl (w.heap.size + 1 + 1) rfl 25 (By D).toArray (0,0) _ b2 Tryd.underlying25 rfl (pP _ hz) ?_)
    | (refine wpList_store_row rfl 25 _ _ rfl (w.heap.size + 1) rfl (By D).toArray rfl 25 _ b1 (pP _ hz) (by rw [hz]; rfl) (lJ _) ?_))
   refine bodyPost_ret (results_cell_row rfl _ _ (w.heap.size + 1) 25 (By D).toArray (0,0) _ rfl (b1.row _) Tryd.underlying25 rfl (pP _ hz)) rfl ⟨rfl,?_⟩;exact below_setRow be (by omega) _
end Go.Proofs.YtfkchihlchlfdaaDoor
namespace Go.Proofs.YtfkchihlchlfdaaDoor
open Go.RowKit Go.IntWalk
theorem FH {w : World} {g t : Nat} {cs : Array Value} (h : Blk w g t cs) : w.setRow g cs = w:=setRow_self w g cs t (0,0) h
def clr (z : List UInt8) (o : Nat) : List UInt8:=z.take o ++ aD (z.length - o) 0
theorem vT {z : List UInt8} {o : Nat} (h : o <= z.length) : (clr z o).length = z.length:=by
 simp [clr]
 omega
theorem kL {ops : Array Oper} {rest : List Oper} {op : Oper} {a : Act} {w : World} {Q : Exit -> Act -> World -> Prop} (x : Operand) (hgd : op.guard = none) (ho : op.op = .call { callee:=.builtin .clear,args:=#[x],argTypes:=#[37] })
  (g o n c : Nat) (A : Option Addr) (hx : a.eval x = .slice A n c) (hA : 0 < n -> A = some ⟨g,o,none⟩) (z : List UInt8) (t : Nat) (hz : Blk w g t (By z).toArray) (hn : o + n = z.length)
  (z' : List UInt8) (hz' : Hid (clr z o = z')) (h : wpList Tryd.prog ops Q rest (a.put op.dst (.tuple #[])) (w.setRow g (By z').toArray)) : wpList Tryd.prog ops Q (op :: rest) a w:=by
 rw [<-hz'.out] at h;refine wpList_plain hgd λK hK=>?_
 have hrun : (D0 #[37] op.type #[.slice A n c]).run Tryd.prog w = .ok (.tuple #[]) (w.setRow g (By (clr z o)).toArray):=by
  by_cases h0 : n = 0
  ·subst h0
   have e : clr z o = z:=by
    unfold clr
    rw [<-hn,fJ,Nat.sub_self,List.replicate_zero,cD,List.take_of_length_le (by omega)]
   rw [e,FH hz];have hu:=Tryd.underlying37
   cases A <;> simp [D0,run_underlying hu]
  ·obtain rfl:=hA (by omega)
   have hst:=run_storeCells_at (P:=Tryd.prog) g o t (aD n (.int .u8 0)) 0 (By z).toArray w hz (by rw [bM,bA,b6]; omega) (by intro v hv; rw [List.eq_of_mem_replicate hv]; rfl)
   have e : ((By z).toArray.toList.take (o + 0) ++ aD n (.int .u8 0) ++ (By z).toArray.toList.drop (o + 0 + (aD n (Value.int .u8 0)).length)) = By (clr z o):=by
    have hd : (By z).drop (o + n) = []:=List.drop_eq_nil_of_le (by rw [b6]; omega);simp only [bM,fJ,hd,cD]
    unfold clr
    rw [uT,<-hn,Nat.add_sub_cancel_left]
    simp [By]
   rw [e] at hst
   have hzc : (oN #[.int .u8 0] n).toList = aD n (.int .u8 0):=by
    simp [oN]
    apply eE
    ·simp
    ·intro i h1 h2
     simp [Nat.mod_one]
   obtain ⟨m,rfl⟩ : ∃ m,n = m + 1:=⟨n - 1,by omega⟩;have hu:=Tryd.underlying37
   simp [D0,run_underlying hu,Value.cells,hzc,hst]
 unfold Oper.wp
 simp [execOp,ho,resolve,invoke,builtin,hx,hrun,Result.andThen]
 exact hK _ _ h
end Go.Proofs.YtfkchihlchlfdaaDoor
