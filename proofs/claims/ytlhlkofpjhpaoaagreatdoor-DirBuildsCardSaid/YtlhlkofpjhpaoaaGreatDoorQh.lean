import Derived.Test.YtlhlkofpjhpaoaaGreatDoorQg
import Derived.Test.YtlhlkofpjhpaoaaGreatDoorQf
import Derived.Test.YtlhlkofpjhpaoaaGreatDoorQa
import Derived.Deep.AppendLies
import Derived.Deep.OwnRows
import Derived.OwnWalk
import Derived.Test.YtlhlkofpjhpaoaaGreatDoorQb
import Derived.Test.YtlhlkofpjhpaoaaGreatDoorQd
import Derived.Test.YtlhlkofpjhpaoaaGreatDoorQe
set_option maxRecDepth 100000
set_option maxHeartbeats 2000000
open And renaming intro->eN
open Go.Addr renaming add_mid->cU
open Go.Builtin renaming zeroCells->iG,clear_->pN
open Go.IntKind renaming wrap_u64->a8,wrap_u8'->oB
open Go.Lib renaming hid->dL
open Go.Result renaming andThen_ok->aB
open Go.Sem renaming run_bind->aF,run_pure->aG
open Go.Value renaming int->cC
open List renaming replicate->aA,length_append->aC,mem_singleton->aE,size_toArray->aV,length_take->aY,append_assoc->a7,length_cons->bB,take_of_length_le->bH,append_nil->bJ,length_replicate->bK,map_cons->bP,length_set->bR,length_map->cH,getElem?_take->c7,ext_getElem->dG,take_append_drop->eF,length_drop->eK,length_reverse->fI,take_length->gN,drop_eq_getElem_cons->gV,take_succ_eq_append_getElem->iF,drop_zero->kH,length_nil->kR,drop_eq_nil_of_le->lX,flatten_cons->l7,cons_append->oO,getElem_set_self->s6
open Nat renaming le_of_ble_eq_true->aD,le_refl->aH,blt->aO,zero_le->aQ,mod_eq_of_lt->aW,zero_add->aX,lt_of_lt_of_le->bS,min_eq_left->cA,pow_succ->cG,mod_lt->cI,mul_comm->c8,add_zero->dT,lt_irrefl->fU,one_mul->gM,sub_self->gP,add_mod->g7,mul_le_mul->iP,div_div_eq_div_mul->jN,mul_add->kP,pow_zero->kV,mul_zero->lJ,add_comm->lK,mul_mod->l5,lt_trans->l6,le_of_eq->mX,div_one->pZ,mul_mod_mod->p8,le_of_lt->rJ
open Option renaming map_some->bQ
open Option.some renaming injEq->aT,inj->bG
open Prod.mk renaming injEq->cP
open UInt8 renaming toNat_lt->cR
namespace Nums
def upw(a:List Nat):Nat->Nat
  | 0=>0
  | k+1=>a[k]! / 4294967296
def ful(a b:List Nat)(h:Nat):Nat->Nat
  | 0=>0
  | k+1=>(b[k]! * h+ful a b h k+(a[k]! % 4294967296*4294967296+upw a k))/18446744073709551616
def nxw(a b:List Nat)(h k:Nat):Nat:=(b[k]! * h+ful a b h k+(a[k]! % 4294967296*4294967296+upw a k))%18446744073709551616
theorem s9{a:List Nat}(ha:∀k,k<4->a[k]! < 18446744073709551616):∀k,k<=4->upw a k<4294967296
 | 0,_=>by
  show 0<4294967296
  decide
 | k+1,hk=>by
  have:=ha k (by omega)
  show a[k]! / 4294967296<4294967296
  omega
theorem vO{b h:Nat}(hb:b<18446744073709551616)(hh:h<4294967296):b*h<=18446744073709551615*4294967295:=iP (by omega) (by omega)
theorem uC{a b:List Nat}{h:Nat}(ha:∀k,k<4->a[k]! < 18446744073709551616)(hb:∀k,k<4->b[k]! < 18446744073709551616)(hh:h<4294967296):∀k,k<=4->ful a b h k<8589934592
 | 0,_=>by
  show 0<8589934592
  decide
 | k+1,hk=>by
  have h0:=uC ha hb hh k (by omega);have h1:=s9 ha k (by omega);have h2:=ha k (by omega);have h3:=vO (hb k (by omega)) hh
  show(b[k]! * h+ful a b h k+(a[k]! % 4294967296*4294967296+upw a k))/18446744073709551616<8589934592
  omega
theorem xC(f:Nat->Nat)(a0 a1 a2 a3 a4:Nat):mxl f [a0,a1,a2,a3,a4] 4=[f 0,f 1,f 2,f 3,a4]:=rfl
theorem vA{A B h:Nat}(hA:A<115792089237316195423570985008687907853269984665640564039457584007913129639936)(hB:B<115792089237316195423570985008687907853269984665640564039457584007913129639936) :
  v4 (nxw (ws A) (ws B) h 0) (nxw (ws A) (ws B) h 1) (nxw (ws A) (ws B) h 2) (nxw (ws A) (ws B) h 3)+115792089237316195423570985008687907853269984665640564039457584007913129639936*(ful (ws A) (ws B) h 4+upw (ws A) 4)=4294967296*A+B*h:=by
 obtain⟨a0,a1,a2,a3,eA,wA,p0,p1,p2,p3⟩:=mZ hA;obtain⟨b0,b1,b2,b3,eB,wB,q0,q1,q2,q3⟩:=mZ hB;rw [wA,wB];have u0:upw [a0,a1,a2,a3] 0=0:=rfl;have u1:upw [a0,a1,a2,a3] 1=a0/4294967296:=rfl;have u2:upw [a0,a1,a2,a3] 2=a1/4294967296:=rfl;have u3:upw [a0,a1,a2,a3] 3=a2/4294967296:=rfl;have u4:upw [a0,a1,a2,a3] 4=a3/4294967296:=rfl;have f0:ful [a0,a1,a2,a3] [b0,b1,b2,b3] h 0=0:=rfl;have f1:ful [a0,a1,a2,a3] [b0,b1,b2,b3] h 1=(b0*h+ful [a0,a1,a2,a3] [b0,b1,b2,b3] h 0+(a0%4294967296*4294967296+upw [a0,a1,a2,a3] 0))/18446744073709551616:=rfl;have f2:ful [a0,a1,a2,a3] [b0,b1,b2,b3] h 2=(b1*h+ful [a0,a1,a2,a3] [b0,b1,b2,b3] h 1+(a1%4294967296*4294967296+upw [a0,a1,a2,a3] 1))/18446744073709551616:=rfl;have f3:ful [a0,a1,a2,a3] [b0,b1,b2,b3] h 3=(b2*h+ful [a0,a1,a2,a3] [b0,b1,b2,b3] h 2+(a2%4294967296*4294967296+upw [a0,a1,a2,a3] 2))/18446744073709551616:=rfl;have f4:ful [a0,a1,a2,a3] [b0,b1,b2,b3] h 4=(b3*h+ful [a0,a1,a2,a3] [b0,b1,b2,b3] h 3+(a3%4294967296*4294967296+upw [a0,a1,a2,a3] 3))/18446744073709551616:=rfl;have n0:nxw [a0,a1,a2,a3] [b0,b1,b2,b3] h 0=(b0*h+ful [a0,a1,a2,a3] [b0,b1,b2,b3] h 0+(a0%4294967296*4294967296+upw [a0,a1,a2,a3] 0))%18446744073709551616:=rfl;have n1:nxw [a0,a1,a2,a3] [b0,b1,b2,b3] h 1=(b1*h+ful [a0,a1,a2,a3] [b0,b1,b2,b3] h 1+(a1%4294967296*4294967296+upw [a0,a1,a2,a3] 1))%18446744073709551616:=rfl;have n2:nxw [a0,a1,a2,a3] [b0,b1,b2,b3] h 2=(b2*h+ful [a0,a1,a2,a3] [b0,b1,b2,b3] h 2+(a2%4294967296*4294967296+upw [a0,a1,a2,a3] 2))%18446744073709551616:=rfl;have n3:nxw [a0,a1,a2,a3] [b0,b1,b2,b3] h 3=(b3*h+ful [a0,a1,a2,a3] [b0,b1,b2,b3] h 3+(a3%4294967296*4294967296+upw [a0,a1,a2,a3] 3))%18446744073709551616:=rfl
 have eBh:B*h=b0*h+18446744073709551616*(b1*h)+340282366920938463463374607431768211456*(b2*h)+6277101735386680763835789423207666416102355444464034512896*(b3*h):=by
  rw [eB]
  unfold v4
  grind only
 rw [eBh,eA];generalize nxw [a0,a1,a2,a3] [b0,b1,b2,b3] h 0=x0 at *;generalize nxw [a0,a1,a2,a3] [b0,b1,b2,b3] h 1=x1 at *;generalize nxw [a0,a1,a2,a3] [b0,b1,b2,b3] h 2=x2 at *;generalize nxw [a0,a1,a2,a3] [b0,b1,b2,b3] h 3=x3 at *;generalize ful [a0,a1,a2,a3] [b0,b1,b2,b3] h 0=c0 at *;generalize ful [a0,a1,a2,a3] [b0,b1,b2,b3] h 1=c1 at *;generalize ful [a0,a1,a2,a3] [b0,b1,b2,b3] h 2=c2 at *;generalize ful [a0,a1,a2,a3] [b0,b1,b2,b3] h 3=c3 at *;generalize ful [a0,a1,a2,a3] [b0,b1,b2,b3] h 4=c4 at *;generalize upw [a0,a1,a2,a3] 0=y0 at *;generalize upw [a0,a1,a2,a3] 1=y1 at *;generalize upw [a0,a1,a2,a3] 2=y2 at *;generalize upw [a0,a1,a2,a3] 3=y3 at *;generalize upw [a0,a1,a2,a3] 4=y4 at *;generalize b0*h=z0 at *;generalize b1*h=z1 at *;generalize b2*h=z2 at *;generalize b3*h=z3 at *;clear eBh eA eB wA wB hA hB q0 q1 q2 q3
 unfold v4
 omega
end Nums
namespace Go.Proofs.YtlhlkofpjhpaoaaGreatDoor
open Go.RowKit Go.IntWalk Nums
theorem size_w5(cs:Array Value)(h:cs.size=5):(Tryz.prog.info? 191).map (·.size)=some cs.size:=by
 rw [h]
 kernel_rfl
structure NS(w wr:World)(a b l:List Nat):Prop where
  ba:Blk wr w.heap.size 145 (Us a).toArray
  bb:Blk wr (w.heap.size+1) 145 (Us b).toArray
  bo:Blk wr (w.heap.size+1+1) 145 z4
  bv:Blk wr (w.heap.size+1+1+1) 191 (Us l).toArray
  be:Below w.heap.size w wr
theorem NS.set{w wr:World}{a b l:List Nat}(h:NS w wr a b l)(k x:Nat):NS w (wr.setCell ⟨w.heap.size+1+1+1,k,none⟩ (.int .u64 (x:Int))) a b (l.set k x) where
 ba:=h.ba.far (by show w.heap.size≠w.heap.size+1+1+1;omega) _
 bb:=h.bb.far (by show w.heap.size+1≠w.heap.size+1+1+1;omega) _
 bo:=h.bo.far (by show w.heap.size+1+1≠w.heap.size+1+1+1;omega) _
 bv:=by
  have h4:=h.bv.set k (.int .u64 (x:Int))
  rwa [Us_set] at h4
 be:=h.be.setCell (by show w.heap.size<=w.heap.size+1+1+1;omega) _
theorem next_f{A B h:Nat}(hA:A<LL)(hB:B<LL)(hh:h<4294967296)(w:World) :
  Calls Tryz.prog 132 #[.agg (Us (ws A)).toArray,.agg (Us (ws B)).toArray,.int .u64 (h:Int)] w λe w'=>e = .returned (.agg (Us (ws ((4294967296*A+B*h)%LL))).toArray)/\Below w.heap.size w w':=by
 have hA2:A<115792089237316195423570985008687907853269984665640564039457584007913129639936:=l6 hA (by decide);have hB2:B<115792089237316195423570985008687907853269984665640564039457584007913129639936:=l6 hB (by decide);have hE:=vA (h:=h) hA2 hB2;have ha:=λk=>j3 A (k:=k);have hb:=λk=>j3 B (k:=k);have la:=jX A;have lb:=jX B;have hf:=uC ha hb hh;have hu:=s9 ha;have hn:∀k,nxw (ws A) (ws B) h k<18446744073709551616:=λk=>cI _ (by decide);have hBh:B*h<=LL*4294967296:=iP (rJ hB) (rJ hh)
 have hR:=λw1=>red_f (hn 0) (hn 1) (hn 2) (hn 3) (u:=ful (ws A) (ws B) h 4+upw (ws A) 4) (by
  unfold v4 at hE
  rw [nP] at hA hB hBh;generalize B*h=z at *
  omega) w1
 rw [hE] at hR;generalize (4294967296*A+B*h)%LL=res at *;clear hE hBh hA2 hB2 hn hA hB;generalize ws A=a at *;generalize ws B=b at *;have hR:=dL hR
 go_enter Tryz.func132,Tryz.ntmps132
 go_wp2
 go_loopw [14,8,9] (λi u8 u9 wr=>∃k:Nat,k<=4/\i = .int .i64 k/\u8 = .int .u64 (upw a k:Nat)/\u9 = .int .u64 (ful a b h k:Nat)/\NS w wr a b (mxl (nxw a b h) [0,0,0,0,0] k)) (λi _ _ _=>4-(intOf i).toNat)
 case atStart =>
  refine⟨0,by omega,rfl,rfl,rfl,?_,?_,?_,?_,?_⟩
  ·exact blk4_0 w _ _ _ _ _
  ·exact blk4_1 w _ _ _ _ _
  ·exact blk4_2 w _ _ _ _ _
  ·exact blk4_3 w _ _ _ _ _
  ·exact below4 w _ _ _ _
 case round =>
  obtain⟨k,hk,rfl,rfl,rfl,hS⟩:=hrel
  by_cases hlt:k<4
  ·have hN:=hS.set k (nxw a b h k)
   rw [kM] at hN;have hU:upw a (k+1)=a[k]! / 4294967296:=rfl;have hF:ful a b h (k+1)=(b[k]! * h+ful a b h k+(a[k]! % 4294967296*4294967296+upw a k))/18446744073709551616:=rfl;have hX:nxw a b h k=(b[k]! * h+ful a b h k+(a[k]! % 4294967296*4294967296+upw a k))%18446744073709551616:=rfl;have c0:=(hS.ba.cell k).trans (Us_at (by omega));have c1:=(hS.bb.cell k).trans (Us_at (by omega));have c2:=(hS.bv.cell k).trans (Us_at (by rw [gJ];simp;omega));have c3:=hS.bv.free k;have b0:=ha k hlt;have b1:=hb k hlt;have b2:=hf k (by omega);have b3:=hu k (by omega);have b4:=vO b1 hh;have b5:=hf (k+1) (by omega);rw [hF] at b5;generalize (mxl (nxw a b h) [0,0,0,0,0] k)[k]! = old at *;generalize a[k]! = u at *;generalize b[k]! = v at *;generalize upw a k=y at *;generalize ful a b h k=c at *;generalize nxw a b h k=x at *;have HM:=λw1=>dL (mul64_any v h b1 (by omega) w1);generalize v*h=z at *;have hA1:=λw1=>add64_run (z%18446744073709551616) c 0 (by omega) w1
   have q1:IntKind.u64.wrap (((z/18446744073709551616:Nat):Int)+(((z%18446744073709551616+c+0)/18446744073709551616:Nat):Int))=((z/18446744073709551616+(z%18446744073709551616+c+0)/18446744073709551616:Nat):Int):=by
    rw [a8]
    omega
   have q2:bits .or .u64 (IntKind.u64.wrap ((u:Int)*4294967296)) (y:Int)=((u%4294967296*4294967296+y:Nat):Int):=by
    have e1:IntKind.u64.wrap ((u:Int)*4294967296)=((u%4294967296*4294967296:Nat):Int):=by
     rw [a8]
     omega
    rw [e1];exact orW 32 _ _ (by omega) (by omega) (by omega) (by omega)
   have hA2:=λw1=>add64_run ((z%18446744073709551616+c+0)%18446744073709551616) (u%4294967296*4294967296+y) 0 (by omega) w1
   have q3:IntKind.u64.wrap (((z/18446744073709551616+(z%18446744073709551616+c+0)/18446744073709551616:Nat):Int)+((((z%18446744073709551616+c+0)%18446744073709551616+(u%4294967296*4294967296+y)+0)/18446744073709551616:Nat):Int))=(((z+c+(u%4294967296*4294967296+y))/18446744073709551616:Nat):Int):=by
    rw [a8]
    omega
   have e4:((z%18446744073709551616+c+0)%18446744073709551616+(u%4294967296*4294967296+y)+0)%18446744073709551616=x:=by omega
   have q5:(0:Int)<=(k:Int):=by omega
   have q6:(u:Int)/4294967296=((u/4294967296:Nat):Int):=div32 u;rw [e4] at hA2;have HK:=dL (eN hN (eN hU hF));clear hN hU hF hX hS b4 b5 b2 b3 e4 b0 b1 hf hu ha hb;generalize (z+c+(u%4294967296*4294967296+y))/18446744073709551616=n9 at *;generalize ((z%18446744073709551616+c+0)%18446744073709551616+(u%4294967296*4294967296+y)+0)/18446744073709551616=m1 at *;generalize u%4294967296*4294967296+y=m2 at *;generalize z/18446744073709551616+(z%18446744073709551616+c+0)/18446744073709551616=m3 at *;generalize (z%18446744073709551616+c+0)%18446744073709551616=m4 at *;generalize (z%18446744073709551616+c+0)/18446744073709551616=m5 at *;generalize z%18446744073709551616=m6 at *;generalize z/18446744073709551616=m7 at *;generalize u/4294967296=m8 at *;replace hA1:∀w1,(callFunc 162 #[.int .u64 (m6:Int),.int .u64 (c:Int),.int .u64 0]).run Tryz.prog w1 = .ok (.value (.tuple #[.int .u64 (m4:Int),.int .u64 (m5:Int)])) w1:=hA1;replace hA2:∀w1,(callFunc 162 #[.int .u64 (m4:Int),.int .u64 (m2:Int),.int .u64 0]).run Tryz.prog w1 = .ok (.value (.tuple #[.int .u64 (x:Int),.int .u64 (m1:Int)])) w1:=hA2
   go_wp2_with (fail)
   refine(HM _).out.mono ?_
   rintro e w1 ⟨rfl,rfl⟩
   go_wp2
   go_roundw
   case rel =>
    obtain⟨hN,hU,hF⟩:=HK.out;exact⟨k+1,by omega,by go_num,by rw [hU],by rw [hF],hN⟩
   case measure=>simp [intOf];omega
  ·obtain rfl:k=4:=by omega
   have b2:=hf 4 (by omega);have b3:=hu 4 (by omega);have e5:mxl (nxw a b h) [0,0,0,0,0] 4=[nxw a b h 0,nxw a b h 1,nxw a b h 2,nxw a b h 3,0]:=xC _ _ _ _ _ _;rw [e5] at hS;have hN:=hS.set 4 (ful a b h 4+upw a 4);have c2:=(hS.bv.cell 4).trans (Us_at (by simp));have c3:=hS.bv.free 4
   have q1:IntKind.u64.wrap (((ful a b h 4:Nat):Int)+((upw a 4:Nat):Int))=((ful a b h 4+upw a 4:Nat):Int):=by
    rw [a8]
    omega
   have e6:[nxw a b h 0,nxw a b h 1,nxw a b h 2,nxw a b h 3,0].set 4 (ful a b h 4+upw a 4)=[nxw a b h 0,nxw a b h 1,nxw a b h 2,nxw a b h 3,ful a b h 4+upw a 4]:=rfl;rw [e6] at hN;clear e5 e6 hf hu ha hb b2 b3 hS;generalize ful a b h 4+upw a 4=s at *;generalize ful a b h 4=f4 at *;generalize upw a 4=u4 at *;have hbv:=hN.bv;generalize hl:(Us [nxw a b h 0,nxw a b h 1,nxw a b h 2,nxw a b h 3,s]).toArray=cs at *
   have hcs:cs.size=5:=by rw [<-hl];rfl
   have HN:=dL hN;clear hN hl
   go_wp2_with (refine wpList_load_row rfl 191 _ rfl (w.heap.size+1+1+1) rfl 191 cs (0,0) _ hbv Tryz.underlying191 rfl (size_w5 _ hcs) ?_)
   refine(hR.out _).mono ?_
   rintro e w1 ⟨rfl,hw1⟩
   have hN:=HN.out;have ho:=hN.bo.later hw1;have hbe:=below_up hN.be hw1;have hz:=len_u4 (jX res);clear hN HN hw1 hR
   go_wp2_with (refine wpList_store_row rfl 145 _ _ rfl (w.heap.size+1+1) rfl (Us (ws res)).toArray rfl 145 _ ho (size_sc _ hz) (by rw [hz];rfl) (Us_one _) ?_)
   refine bodyPost_ret (results_cell_row rfl _ _ (w.heap.size+1+1) 145 (Us (ws res)).toArray (0,0) _ rfl (ho.row _) Tryz.underlying145 rfl (size_sc _ hz)) rfl ⟨rfl,?_⟩;exact below_setRow hbe (by omega) _
end Go.Proofs.YtlhlkofpjhpaoaaGreatDoor
namespace Nums
theorem zz{n:Nat}[NeZero n](d:Fin n):0*0*d+1=1:=by grind only
theorem xA(a:F) : -a * -a=a*a:=by grind only
def mC(x:F):F:=if x.val%2=1 then -x else x
theorem nO(x:F):(mC x).val%2=0:=by
 unfold mC
 by_cases h:x.val%2=1
 ·rw [if_pos h,n5 (by rintro rfl;exact absurd h (by decide)),h]
 ·rw [if_neg h];omega
theorem pH(x:F):mC x*mC x=x*x:=by
 unfold mC
 by_cases h:x.val%2=1
 ·rw [if_pos h];grind only
 ·rw [if_neg h]
theorem qE{a b:F}(h:a*a=b*b)(hp:a.val%2=b.val%2):a=b:=by
 rcases rT cX h with h1|h1
 ·exact h1
 ·by_cases h0:b=0
  ·rw [h1,h0];grind only
  ·have:=n5 h0
   rw [<-h1] at this
   omega
theorem rN(y:F):y*y*dd+1≠0:=by
 intro h
 have hy:y≠0:=by
  rintro rfl
  have e:(0:F)*0*dd+1=1:=zz dd;rw [e] at h;exact lD cX h.symm
 have h1:=gK cX hy;refine good.d (im*fL y) ?_;have hi:=vQ;generalize fL y=z at *;generalize im=i at *;generalize dd=d at *
 have a:i*z*(i*z)=(i*i)*(z*z):=by grind only
 have b:d = -(1:F)*(z*z):=by
  have c:d*(y*z)*(y*z)=(y*y*d)*(z*z):=by grind only
  have e:y*y*d = -1:=by grind only
  rw [h1,e] at c
  grind only
 rw [a,hi,b]
def ww(y:F):F:=(y*y-1)*fL (y*y*dd+1)
theorem pQ(x y:F):Ed.On dd ⟨x,y⟩↔x*x=ww y:=by
 have h:=gK cX (rN y)
 unfold ww
 show y*y-x*x=1+dd*x*x*y*y↔_
 have hv:=rN y;generalize hV:y*y*dd+1=v at *;generalize fL v=u at *;generalize dd=d at *
 constructor
 ·intro h1
  have a:y*y-1=x*x*v:=by rw [<-hV];grind only
  have b:x*x*v*u=x*x*(v*u):=by grind only
  rw [a,b,h]
  grind only
 ·intro h1
  have a:x*x*v=y*y-1:=by
   have b:(y*y-1)*u*v=(y*y-1)*(v*u):=by grind only
   rw [h1,b,h]
   grind only
  rw [<-hV] at a
  grind only
def mU(P:Ed.Pt p):Nat:=P.y.val+57896044618658097711785492504343953926634992332820282019728792003956564819968*(P.x.val%2)
def dX(P:Ed.Pt p):List UInt8:=bytes 32 (mU P)
theorem jF(P:Ed.Pt p):(dX P).length=32:=b9 _ _
theorem tW:p<57896044618658097711785492504343953926634992332820282019728792003956564819968:=by decide
theorem kN(P:Ed.Pt p):le (dX P)=mU P:=by
 unfold dX
 rw [iC]
 apply aW
 have h:=P.y.isLt;have h2:=tW
 have h3:57896044618658097711785492504343953926634992332820282019728792003956564819968*2=256^32:=by decide
 unfold mU
 omega
theorem uI{P Q:Ed.Pt p}(h:mU P=mU Q):P.y=Q.y/\P.x.val%2=Q.x.val%2:=by
 unfold mU at h
 have h1:=P.y.isLt;have h2:=Q.y.isLt;have h3:=tW;exact⟨Fin.ext (by omega),by omega⟩
theorem mT{P Q:Ed.Pt p}(hP:Ed.On dd P)(hQ:Ed.On dd Q)(h:dX P=dX Q):P=Q:=by
 have h1:mU P=mU Q:=by rw [<-kN,<-kN,h]
 obtain⟨h2,h3⟩:=uI h1;obtain⟨x,y⟩:=P;obtain⟨u,v⟩:=Q;simp only at h2 h3;subst h2;have a:=(pQ x y).mp hP;have b:=(pQ u y).mp hQ;rw [qE (a.trans b.symm) h3]
end Nums
namespace Nums
theorem gD:∀a b:List UInt8,le (a++b)=le a+256^a.length*le b
 | [],b=>by show le b=0+1*le b;omega
 | x::a,b=>by
  show x.toNat+256*le (a++b)=x.toNat+256*le a+256^(a.length+1)*le b
  rw [gD a b,cG,kP,c8 (256^a.length) 256,Nat.mul_assoc]
  omega
theorem nL:∀a:List UInt8,le a<256^a.length
 | []=>by decide
 | x::a=>by
  have h1:=nL a;have h2:=x.toNat_lt
  show x.toNat+256*le a<256^(a.length+1)
  rw [cG]
  omega
section
variable{b:List UInt8}(hb:b.length=32)
include hb
theorem w9:b=b.take 31++[b[31]!]:=by
 conv=>lhs;rw [<-eF 31 b]
 rw [gV (by omega),lX (by omega),getElem!_pos b 31 (by omega)]
theorem le_top:le b=le (b.take 31)+452312848583266388373324160190187140051835877600158453279131187530910662656*(b[31]!).toNat:=by
 conv=>lhs;rw [w9 hb]
 rw [gD,aY,hb]
 show _+256^31*((b[31]!).toNat+256*0)=_
 rw [show(256:Nat)^31=452312848583266388373324160190187140051835877600158453279131187530910662656 by decide]
 omega
theorem rZ:le (b.take 31)<452312848583266388373324160190187140051835877600158453279131187530910662656:=by
 have h:=nL (b.take 31);rw [aY,hb,show(256:Nat)^min 31 32=452312848583266388373324160190187140051835877600158453279131187530910662656 by decide] at h;exact h
theorem vN(x:UInt8):le (b.set 31 x)=le (b.take 31)+452312848583266388373324160190187140051835877600158453279131187530910662656*x.toNat:=by
 have h:(b.set 31 x).length=32:=by rw [bR,hb]
 rw [le_top h,List.take_set_of_le (by omega),getElem!_pos _ 31 (by omega),s6]
theorem rQ:(b[31]!).toNat<128↔le b<57896044618658097711785492504343953926634992332820282019728792003956564819968:=by
 have h1:=le_top hb;have h2:=rZ hb
 omega
end
theorem sQ{P:Ed.Pt p}(h:P.x.val%2≠1):dX P=enc P.y:=by
 apply mA (by rw [jF,fX])
 rw [kN,mB]
 unfold mU
 have:P.x.val%2=0:=by omega
 rw [this]
 omega
theorem pU(y:F):((enc y)[31]!).toNat<128:=by
 rw [rQ (fX y),mB];exact l6 y.isLt tW
theorem uH{P:Ed.Pt p}(h:P.x.val%2=1):dX P=(enc P.y).set 31 (UInt8.ofNat (((enc P.y)[31]!).toNat+128)):=by
 apply mA (by rw [jF,bR,fX])
 have h1:=pU P.y;have h2:=le_top (fX P.y);rw [kN,vN (fX P.y),UInt8.toNat_ofNat_of_lt' (by show _<256;omega)];rw [mB] at h2
 unfold mU
 rw [h]
 omega
end Nums
namespace Go.Proofs.YtlhlkofpjhpaoaaGreatDoor
open Go.RowKit Go.IntWalk Nums
theorem ws_wd(n:Nat){k:Nat}(hk:k<4):(ws n)[k]! = wd n k:=by
 have h4:k=0\/k=1\/k=2\/k=3:=by omega
 rcases h4 with rfl|rfl|rfl|rfl
 ·show n%18446744073709551616=n/1%18446744073709551616
  rw [pZ]
 ·rfl
 ·rfl
 ·rfl
structure HS4(w wr:World)(a:List Nat)(b:List UInt8)(n:Nat):Prop where
  b0:Blk wr w.heap.size 145 (Us a).toArray
  b1:Blk wr (w.heap.size+1) 45 z32
  b2:Blk wr (w.heap.size+1+1) 45 (By (fb b n)).toArray
  be:Below w.heap.size w wr
theorem HS4.set{w wr:World}{a:List Nat}{b:List UInt8}{n:Nat}(h:HS4 w wr a b n):HS4 w (wr.setCell ⟨w.heap.size+1+1,n,none⟩ (.int .u8 ((b[n]!).toNat:Int))) a b (n+1) where
 b0:=h.b0.far (by show w.heap.size≠w.heap.size+1+1;omega) _
 b1:=h.b1.far (by show w.heap.size+1≠w.heap.size+1+1;omega) _
 b2:=by
  have h4:=h.b2.set n (.int .u8 ((b[n]!).toNat:Int));rw [By_set,fb_set] at h4;exact h4
 be:=h.be.setCell (by show w.heap.size<=w.heap.size+1+1;omega) _
theorem schash_f(n:Nat)(w:World) :
  Calls Tryz.prog 99 #[.agg (Us (ws n)).toArray] w λe w'=>e = .returned (.agg (By (Nums.bytes 32 n)).toArray)/\Below w.heap.size w w':=by
 have hbyte:∀m,m<32->((Nums.bytes 32 n)[m]!).toNat=(ws n)[m/8]! / 2^(m%8*8)%256:=λm hm=>by
  rw [bytes_get 32 n hm,ws_wd n (by omega),c8 (m%8),wd_byte _ _ _ (by omega)]
  congr 3
  omega
 have hbl:(Nums.bytes 32 n).length=32:=b9 _ _;have ha:=λk=>j3 n (k:=k);have la:=jX n;generalize Nums.bytes 32 n=b at *;generalize ws n=a at *
 go_enter Tryz.func99,Tryz.ntmps99
 go_wp2
 go_loopw [5] (λi wr=>∃k:Nat,k<=32/\i = .int .i64 k/\HS4 w wr a b k) (λi _=>32-(intOf i).toNat)
 case atStart =>
  refine⟨0,by omega,rfl,blk3_0 w _ _ _ _,blk3_1 w _ _ _ _,?_,(((Below.refl _ _).alloc (aH _) _).alloc (by simp) _).alloc (by simp;omega) _⟩;rw [fb_zero];exact blk3_2 w _ _ _ _
 case round =>
  obtain⟨m,hm,rfl,hS⟩:=hrel
  by_cases hlt:m<32
  ·have hN:=hS.set
   have c0:=(hS.b0.cell (m/8)).trans (Us_at (by omega));have hc:=(hS.b2.cell m).trans (By_get (by rw [fb_len];omega));have hf:=hS.b2.free m;have hb:=hbyte m hlt;have qd:(m:Int).tdiv 8=((m/8:Nat):Int):=rfl;have qm:(m:Int).tmod 8=((m%8:Nat):Int):=rfl
   have qt:IntKind.i64.wrap (((m%8:Nat):Int)*8)=((m%8*8:Nat):Int):=by rw [i64_left,wrap64_in _ (by omega)];omega
   have g1:((m/8:Nat):Int)<4:=by omega
   have g2:((m%8*8:Nat):Int)<=64:=by omega
   have g5:(0:Int)<=(m:Int):=by omega
   generalize a[m/8]! = W at *;generalize m/8=q at *;generalize hs:m%8*8=s at *
   have q4:IntKind.u8.wrap ((W:Int)/2^s)=((b[m]!).toNat:Int):=by
    have f1:((W:Int)/2^s)=((W/2^s:Nat):Int):=by simp
    rw [f1,oB,hb]
    omega
   have HN:=dL hN;clear hS hbyte hb hN hs ha;generalize (fb b m)[m]! = old at *;generalize (b[m]!).toNat=y at *;generalize m%8=r at *
   go_wp2
   go_roundw
   case rel=>exact⟨m+1,by omega,by go_num,HN.out⟩
   case measure=>simp [intOf];omega
  ·obtain rfl:m=32:=by omega
   obtain⟨_,b1,b2,be⟩:=hS;rw [fb_all hbl] at b2;have hz:=len_by hbl
   go_wp2_with (first
    | (refine wpList_load_row rfl 45 _ rfl (w.heap.size+1+1) rfl 45 (By b).toArray (0,0) _ b2 Tryz.underlying45 rfl (size_hash _ hz) ?_)
    | (refine wpList_store_row rfl 45 _ _ rfl (w.heap.size+1) rfl (By b).toArray rfl 45 _ b1 (size_hash _ hz) (by rw [hz];rfl) (By_one _) ?_))
   refine bodyPost_ret (results_cell_row rfl _ _ (w.heap.size+1) 45 (By b).toArray (0,0) _ rfl (b1.row _) Tryz.underlying45 rfl (size_hash _ hz)) rfl ⟨rfl,?_⟩;exact below_setRow be (by omega) _
end Go.Proofs.YtlhlkofpjhpaoaaGreatDoor
namespace Go.Proofs.YtlhlkofpjhpaoaaGreatDoor
open Go.RowKit Go.IntWalk
theorem own_wide:Own 102:=λ_ _=>by go_simp
theorem own_schash:Own 99:=λ_ _=>by go_simp
theorem own_scadd:Own 97:=λ_ _=>by go_simp
theorem own_scmul:Own 98:=λ_ _=>by go_simp
end Go.Proofs.YtlhlkofpjhpaoaaGreatDoor
namespace Nums
end Nums
namespace Nums
end Nums
namespace Go.Proofs.YtlhlkofpjhpaoaaGreatDoor
open Go.RowKit Go.IntWalk Nums
end Go.Proofs.YtlhlkofpjhpaoaaGreatDoor
namespace Nums
end Nums
namespace Go.Proofs.YtlhlkofpjhpaoaaGreatDoor
open Go.RowKit Go.IntWalk Nums
end Go.Proofs.YtlhlkofpjhpaoaaGreatDoor
namespace Nums
end Nums
namespace Go.Proofs.YtlhlkofpjhpaoaaGreatDoor
open Go.RowKit Go.IntWalk Nums
end Go.Proofs.YtlhlkofpjhpaoaaGreatDoor
namespace Nums
theorem le_take{l:List UInt8}{k:Nat}(h:k<l.length):le (l.take (k+1))=le (l.take k)+256^k*(l[k]!).toNat:=by
 rw [iF h,gD,aY,cA (by omega),getElem!_pos l k h]
 show _+_*(l[k].toNat+256*0)=_
 rw [lJ,dT]
theorem uB{b:List UInt8}(hb:b.length=32):decide (bytes 32 (le b%LL)=b)=decide (le b<LL):=by
 congr 1
 refine propext ⟨λh=>?_,λh=>?_⟩
 ·have h1:=congrArg le h
  rw [iC] at h1;have h2:le b%LL<LL:=cI _ (by decide);have h3:le b%LL%256^32=le b%LL:=aW (l6 h2 (by decide))
  omega
 ·apply mA (by rw [b9,hb])
  rw [iC,aW h,aW (l6 h (by decide))]
end Nums
namespace Go.Proofs.YtlhlkofpjhpaoaaGreatDoor
open Go.RowKit Go.IntWalk Nums
theorem own_next:Own 132:=λ_ _=>by go_simp
theorem le_cons4{l:List UInt8}{i:Nat}(h:i+4<=l.length):le (l.drop i)=(l[i]!).toNat+256*(l[i+1]!).toNat+65536*(l[i+2]!).toNat+16777216*(l[i+3]!).toNat+4294967296*le (l.drop (i+4)):=by
 have e:∀k k',k<l.length->k'=k+1->le (l.drop k)=(l[k]!).toNat+256*le (l.drop k'):=λk k' hk h=>by
  rw [h,gV hk,getElem!_pos l k hk]
  rfl
 have e0:=e i (i+1) (by omega) rfl;have e1:=e (i+1) (i+2) (by omega) rfl;have e2:=e (i+2) (i+3) (by omega) rfl;have e3:=e (i+3) (i+4) (by omega) rfl;rw [e0,e1,e2,e3]
 omega
theorem orL(i x y:Nat)(hx:x<2^i)(hy:y%2^i=0)(h1:x<18446744073709551616)(h2:y<18446744073709551616):bits .or .u64 (x:Int) (y:Int)=((x+y:Nat):Int):=by
 rw [u64_or_nat x y h1 h2,Nat.or_comm,nat_join i y x hy hx,lK]
theorem wide_step(X h L:Nat):(4294967296*(X%L)+1*h)%L=(h+4294967296*X)%L:=by
 rw [gM,lK h,g7,p8,<-g7]
theorem own_wred:Own 131:=λ_ _=>by go_simp
theorem mul_split(x Y u v L:Nat):(4294967296*((4294967296*(x*Y%L)+x*u)%L)+x*v)%L=x*(18446744073709551616*Y+(4294967296*u+v))%L:=by
 have e:x*(18446744073709551616*Y+(4294967296*u+v))=4294967296*(4294967296*(x*Y)+x*u)+x*v:=by grind only
 rw [e,g7,p8,<-g7]
 have e2:(4294967296*(x*Y%L)+x*u)%L=(4294967296*(x*Y)+x*u)%L:=by
  rw [g7,p8,<-g7]
 rw [g7 (4294967296*(4294967296*(x*Y%L)+x*u)),l5,e2,<-l5,<-g7]
theorem own_scnew:Own 108:=λ_ _=>by go_simp
theorem le_zero:∀n,le (aA n 0)=0
 | 0=>rfl
 | n+1=>by
  show(0:UInt8).toNat+256*le (aA n 0)=0
  rw [le_zero n]
  rfl
theorem cop_half{b:List UInt8}(hb:b.length=32):(cop (aA 64 0) 0 b).length=64/\le (cop (aA 64 0) 0 b)=le b:=by
 have e:cop (aA 64 0) 0 b=b++aA 32 0:=by
  simp [cop,hb]
 rw [e];refine⟨by simp [hb],?_⟩;rw [gD,le_zero,lJ,dT]
abbrev eS(n:Nat):SQ:=.p [.agg 4 (Us (ws n)).toArray]
theorem eS_ok(n:Nat):OkP [.agg 4 (Us (ws n)).toArray]:=eW_ok (jX n)
theorem mod_lt_LL(n:Nat):n%LL<LL:=cI _ (by decide)
theorem one_lt_LL:1<LL:=by decide
theorem arr4:Arr 143 4:=⟨_,Tryz.underlying143,by kernel_rfl⟩
theorem w64:KW .u64 64:=.inl ⟨rfl,rfl⟩
theorem src_one{l:List UInt8}{m:Nat}(off n:Nat):((catP [.agg m (By l).toArray]).toList.drop off).take n=By ((l.drop off).take n):=by
 simp [catP,Pt.cells,By,List.map_take,List.map_drop]
theorem all32{l:List UInt8}{n:Nat}(h:l.length=n):(l.drop 0).take n=l:=by rw [kH,bH (mX h)]
section
variable{b:Base}{ops:Array Oper}{Q:Exit->Act->World->Prop}{N:Nat}{E:SE}{L:List LV}{R:List Res}{F M:World->Prop}{rest:List Oper}{k:Nat}{o:Oper}
theorem l_copyW{d s:Operand}{j off n c j2 off2 n2 c2 m:Nat}{z:List UInt8}{ps:List Pt}(l:List UInt8)(hg:o.guard=none)(hd:o.dst=some k)(hk:aO k N=true)(ho:o.op = .call { callee:=.builtin .copy,args:=#[d,s],argTypes:=#[51,51] })
 (hx:evS E d=some (.s j off n c))(hy:evS E s=some (.s j2 off2 n2 c2))(hl:lookL L j=some [.agg m (By z).toArray])(hl2:lookL L j2=some ps)(hs:((catP ps).toList.drop off2).take l.length=By l)(hz:z.length=m)(hn2:l.length=n2)(h1:l.length<=n)(h2:off+l.length<=m)
 (hn:lS Tryz.prog b ops Q N rest ⟨(k,.v (.int .i64 (l.length:Int)))::E,putL L j [.agg m (By (cop z off l)).toArray],R,F,M⟩):lS Tryz.prog b ops Q N (o::rest) ⟨E,L,R,F,M⟩:=λa w ⟨G,S,g1,g2,g3⟩=>by
 subst hn2;have e1:a.eval d = .slice (some ⟨G j,off,none⟩) n c:=g1.eval (evS_ok hx);have e2:a.eval s = .slice (some ⟨G j2,off2,none⟩) l.length c2:=g1.eval (evS_ok hy);obtain⟨u,hu,rfl,hps⟩:=lookL_mem hl;obtain⟨u2,hu2,rfl,hps2⟩:=lookL_mem hl2;have hb:=g3.at u hu;have hb2:=g3.at u2 hu2;rw [hps] at hb;rw [hps2] at hb2
 have hok:OkP [Pt.agg m (By (cop z off l)).toArray]:=λp hp=>by
  rw [aE.1 hp];exact⟨by rw [aV,By_len,cop_len (by omega),hz],By_one _⟩
 refine wpList_copy_own hg d s 51 51 ho 5 Tryz.underlying51 size_u8 (G u.j) off n c ⟨G u2.j,off2,none⟩ l.length c2 e1 e2 (By z).toArray u.t hb (By l) (by rw [By_len];exact(cA h1).symm) ?_ (by rw [By_len,aV,By_len];omega) (By_one l) ?_
 ·intro i v hv
  rw [cU,hb2.cell];rw [<-hs,c7] at hv
  split at hv
  ·rw [List.getElem?_drop] at hv
   simpa using hv
  ·cases hv
 ·have e:(By z).toArray.toList.take off++(By l++(By z).toArray.toList.drop (off+(By l).length))=By (cop z off l):=by
   simp [cop,By]
  rw [e,hd,By_len];exact hn _ _ ⟨G,S,g1.put hk _,g2.cons trivial,g3.set (lookL_name hl) hok⟩
end
section
variable{F:World->Prop}[Pst F]
omit [Pst F] in
theorem next_C{A B h:Nat}(hA:A<LL)(hB:B<LL)(hh:h<4294967296):Ct F 132 [eS A,eS B,.c (.v (.int .u64 (h:Int)))] (one (.q (eS ((4294967296*A+B*h)%LL)))):=⟨own_next,Spec.pure (eS_ok _) λw _=>next_f hA hB hh w⟩
theorem or4{a b c d:Nat}(ha:a<256)(hb:b<256)(hc:c<256)(hd:d<256):bits .or .u64 (bits .or .u64 (bits .or .u64 (IntKind.u64.wrap (a:Int)) (IntKind.u64.wrap (IntKind.u64.wrap (b:Int)*2^min 8 IntKind.u64.bits))) (IntKind.u64.wrap (IntKind.u64.wrap (c:Int)*2^min 16 IntKind.u64.bits))) (IntKind.u64.wrap (IntKind.u64.wrap (d:Int)*2^min 24 IntKind.u64.bits))=((a+256*b+65536*c+16777216*d:Nat):Int):=by
 rw [wrapN a (by omega),wrapN b (by omega),wrapN c (by omega),wrapN d (by omega)]
 rw [show((b:Int)*2^min 8 IntKind.u64.bits)=((b*256:Nat):Int) from rfl,show((c:Int)*2^min 16 IntKind.u64.bits)=((c*65536:Nat):Int) from rfl,show((d:Int)*2^min 24 IntKind.u64.bits)=((d*16777216:Nat):Int) from rfl,wrapN _ (by omega),wrapN _ (by omega),wrapN _ (by omega),
  orL 8 _ _ (by omega) (by omega) (by omega) (by omega),orL 16 _ _ (by omega) (by omega) (by omega) (by omega),orL 24 _ _ (by omega) (by omega) (by omega) (by omega)]
 exact congrArg _ (by omega)
omit [Pst F] in
theorem wide_C{l:List UInt8}(hl:l.length=64):Ct F 102 [eY 64 l] (one (.q (eS (le l%LL)))):=⟨own_wide,by
 refine spec_S [eY 64 l] 41 Tryz.func102 rfl (by rw [Tryz.ntmps102];rfl) (one_ok (eY_ok hl).1) λB=>?_;refine s_auto TY_ok rfl ?_;refine s_auto TY_ok rfl ?_;refine s_seq λK1 hK1=>?_;refine s_auto TY_ok rfl ?_;refine s_block ?_
 let V:Nat×Int->Env:=λs=>⟨[(4,.v (.int .i64 s.2)),(1,.a 1 0),(2,.a 2 0),(3,.a 3 0)],[⟨3,none,145,[.agg 4 (Us (ws (le (l.drop (64-4*s.1))%LL))).toArray]⟩,⟨2,none,145,[.agg 4 (Us [0,0,0,0]).toArray]⟩,⟨1,none,74,[.agg 64 (By l).toArray]⟩],[],F,λ_=>True⟩
 have e0:le (l.drop (64-4*0))%LL=0:=by rw [lX (by omega)];rfl
 have e3:(some ⟨3,none,145,[.agg 4 (Us [0,0,0,0]).toArray]⟩:Option LV)=some ⟨3,none,145,[.agg 4 (Us (ws (le (l.drop (64-4*0))%LL))).toArray]⟩:=by rw [e0];rfl
 refine c_weak (e':=V (0,60)) ⟨⟨rfl,rfl,rfl,rfl,trivial⟩,⟨e3,rfl,rfl,rfl,rfl,rfl,trivial⟩,.refl _,λ_ h _=>h,λ_ _=>trivial⟩ (s_loop (λs=>16-s.1) V (λs=>s.1<=16/\s.2=60-4*(s.1:Int)) ?_ (0,60) ⟨aQ _,rfl⟩)
 rintro⟨j,z⟩ ⟨hj,hz⟩
 dsimp only at hj hz
 refine s_seq λK2 hK2=>?_;refine s_auto TY_ok rfl ?_;refine s_ifD (z>=0) rfl (λhge=>?_) (λhlt=>?_)
 ·obtain⟨q,rfl⟩:∃q:Nat,z=(q:Int):=⟨z.toNat,by omega⟩
  have hq:q=64-4*(j+1):=by omega
  have rd:∀i,i<64->(catP [.agg 64 (By l).toArray])[0+i]?=some (.int .u8 ((l[i]!).toNat:Int)):=λi hi=>by rw [aX];exact By_get (by omega)
  have hl4:=le_cons4 (l:=l) (i:=q) (by omega);rw [show q+4=64-4*j by omega] at hl4;refine s_skip (hK2 _ ?_);refine s_seq λK3 hK3=>?_;refine s_block ?_;refine s_N 26 [] (by kernel_rfl) λK hK G S w0 hst=>?_;refine n_auto2 hst rfl (n_cell hst rfl arr64 (by show q<64;omega) (.int .u8 ((l[q]!).toNat:Int)) (rd q (by omega)) ?_);refine n_auto2 hst rfl (n_num 15 ((q+1:Nat):Int) rfl (addI q 1 (by omega)) (n_cell hst rfl arr64 (by show q+1<64;omega) (.int .u8 ((l[q+1]!).toNat:Int)) (rd (q+1) (by omega)) ?_));refine n_auto2 hst rfl (n_num 22 ((q+2:Nat):Int) rfl (addI q 2 (by omega)) (n_cell hst rfl arr64 (by show q+2<64;omega) (.int .u8 ((l[q+2]!).toNat:Int)) (rd (q+2) (by omega)) ?_));refine n_auto2 hst rfl (n_num 29 ((q+3:Nat):Int) rfl (addI q 3 (by omega)) (n_cell hst rfl arr64 (by show q+3<64;omega) (.int .u8 ((l[q+3]!).toNat:Int)) (rd (q+3) (by omega)) ?_));refine n_auto2 hst rfl (n_num 5 _ rfl (or4 (cR _) (cR _) (cR _) (cR _)) (n_N hst rfl hK rfl ?_));have h0:=cR l[q]!;have h1:=cR l[q+1]!;have h2:=cR l[q+2]!;have h3:=cR l[q+3]!
  have e1:(4294967296*(le (l.drop (64-4*j))%LL)+1*((l[q]!).toNat+256*(l[q+1]!).toNat+65536*(l[q+2]!).toNat+16777216*(l[q+3]!).toNat))%LL=le (l.drop (64-4*(j+1)))%LL:=by
   rw [wide_step,<-hq,hl4]
  refine s_lit (l_auto2 rfl ?_);refine l_f (.p [.agg 4 (Us [1,0,0,0]).toArray]) (eW_ok rfl) (λG S w C0 Q' _ _ hQ=>f_build [(0,.int .u64 1)] (Us [1,0,0,0]).toArray rfl rfl rfl rfl rfl (by kernel_rfl) hQ) rfl ?_;refine l_X (next_C (mod_lt_LL _) one_lt_LL (by omega)) (λ_=>rfl) rfl λ_=>?_;rw [e1];refine l_E rfl (hK3 _ ?_);refine s_autoE TY_ok rfl ?_;exact k_next (j+1,(q:Int)-4) ⟨by show j+1<=16;omega,by show(q:Int)-4=60-4*((j+1:Nat):Int);omega⟩ (by show 16-(j+1)<16-j;omega) ⟨⟨congrArg (λx=>some (SV.v (.int .i64 x))) (by show IntKind.i64.wrap ((q:Int)-4)=_;rw [i64_left,wrap64_in _ (by omega)]),rfl,rfl,rfl,trivial⟩,⟨rfl,rfl,rfl,rfl,rfl,rfl,trivial⟩,.refl _,λ_ h _=>h,λ_ h=>h⟩
 ·obtain rfl:j=16:=by omega
  refine s_exit (k_pass (k_pass (k_out (hK1 _ ?_))));refine s_auto TY_ok rfl (s_ret ?_)
  exact k_ret TY_ok () rfl (by decide) rfl rfl rfl (λ_ _ _=>trivial) λ_ _=>trivial⟩
omit [Pst F] in
theorem scadd_C{x y:Nat}(hx:x<LL)(hy:y<LL):Ct F 97 [eS x,eS y] (one (.q (eS ((x+y)%LL)))):=⟨own_scadd,by
 have hL:LL<2^253:=by decide
 have hs:(x+y)%115792089237316195423570985008687907853269984665640564039457584007913129639936=x+y:=aW (by omega);obtain⟨a,b,c,d,e1,e2,ha,hb,hc,hd⟩:=mZ (n:=x+y) (by omega);refine spec_S [eS x,eS y] 21 Tryz.func97 rfl (by rw [Tryz.ntmps97];rfl) (two_ok (eS_ok x) (eS_ok y)) λB=>?_;refine s_auto TY_ok rfl ?_
 have c1:Ct F 130 [eS x,eS y] (one (.q (eW 4 [a,b,c,d]))):=⟨own_wsum,Spec.pure (eW_ok rfl) λw _=>by
  have h:=wsum_f (A:=x) (B:=y) (by omega) (by omega) w;rw [hs,e2] at h
  exact h⟩
 have c2:Ct F 131 [eW 5 [a,b,c,d,0]] (one (.q (eS ((x+y)%LL)))):=⟨own_wred,Spec.pure (eS_ok _) λw _=>by
  have h:=red_f ha hb hc hd (u:=0) (by decide) w;rw [lJ,dT,<-e1] at h
  exact h⟩
 refine s_reg λK hK=>l_X c1 (λ_=>rfl) rfl λ_=>l_N hK rfl ?_;refine s_reg λK hK=>l_cell rfl arr4 (aD rfl) (.int .u64 (a:Int)) rfl (l_cell rfl arr4 (aD rfl) (.int .u64 (b:Int)) rfl (l_cell rfl arr4 (aD rfl) (.int .u64 (c:Int)) rfl (l_cell rfl arr4 (aD rfl) (.int .u64 (d:Int)) rfl ?_)));refine l_f (.p [.agg 5 (Us [a,b,c,d,0]).toArray]) (eW_ok rfl) (λG S w C0 Q' _ _ hQ=>f_build ([a,b,c,d].zipIdx.map λx=>(x.2,.int .u64 ((x.1:Nat):Int))) (Us [a,b,c,d,0]).toArray rfl rfl rfl rfl rfl (by kernel_rfl) hQ) rfl ?_;refine l_X c2 (λ_=>rfl) rfl λ_=>l_N hK rfl (s_ret ?_)
 exact k_ret TY_ok () rfl (by decide) rfl rfl rfl (λ_ _ _=>trivial) λ_ _=>trivial⟩
theorem scmul_C{x y:Nat}(hx:x<LL)(hy:y<LL):Ct F 98 [eS x,eS y] (one (.q (eS (x*y%LL)))):=⟨own_scmul,by
 have hL:LL<2^253:=by decide
 refine spec_S [eS x,eS y] 28 Tryz.func98 rfl (by rw [Tryz.ntmps98];rfl) (two_ok (eS_ok x) (eS_ok y)) λB=>?_;refine s_auto TY_ok rfl ?_;refine s_auto TY_ok rfl ?_;refine s_seq λK1 hK1=>?_;refine s_auto TY_ok rfl ?_;refine s_block ?_
 let R:Nat->Nat:=λj=>x*(y/18446744073709551616^j)%LL
 let V:Nat×Int->Env:=λs=>⟨[(6,.v (.int .i64 s.2)),(2,.a 2 0),(3,.a 3 0),(4,.a 4 0),(5,.a 5 0)],[⟨5,none,145,[.agg 4 (Us (ws (R s.1))).toArray]⟩,⟨4,none,145,[.agg 4 (Us [0,0,0,0]).toArray]⟩,⟨3,none,145,[.agg 4 (Us (ws y)).toArray]⟩,⟨2,none,145,[.agg 4 (Us (ws x)).toArray]⟩],[],F,λ_=>True⟩
 have e4:R 4=0:=by
  show x*(y/18446744073709551616^4)%LL=0
  rw [Nat.div_eq_of_lt (bS hy (by decide)),lJ,Nat.zero_mod]
 have e5:(some ⟨5,none,145,[.agg 4 (Us [0,0,0,0]).toArray]⟩:Option LV)=some ⟨5,none,145,[.agg 4 (Us (ws (R 4))).toArray]⟩:=by rw [e4];rfl
 refine c_weak (e':=V (4,3)) ⟨⟨rfl,rfl,rfl,rfl,rfl,trivial⟩,⟨e5,rfl,rfl,rfl,rfl,rfl,rfl,rfl,trivial⟩,.refl _,λ_ h _=>h,λ_ _=>trivial⟩ (s_loop (λs=>s.1) V (λs=>s.1<=4/\s.2=(s.1:Int)-1) ?_ (4,3) ⟨aH _,rfl⟩)
 rintro⟨j,z⟩ ⟨hj,hz⟩
 dsimp only at hj hz
 refine s_seq λK2 hK2=>?_;refine s_auto TY_ok rfl ?_;refine s_ifD (z>=0) rfl (λhge=>?_) (λhlt=>?_)
 ·obtain⟨q,rfl⟩:∃q,j=q+1:=⟨j-1,by omega⟩
  obtain rfl:z=(q:Int):=by omega
  have hw:(ws y)[q]! = wd y q:=ws_wd y (by omega);obtain⟨v,hv⟩:∃v,v=wd y q:=⟨_,rfl⟩;have hvl:v<18446744073709551616:=hv▸cI _ (by decide);have rd:(catP [.agg 4 (Us (ws y)).toArray])[0+q]?=some (.int .u64 (v:Int)):=(Us_in (by rw [jX];omega)).trans (by rw [hw,hv])
  have hY:y/18446744073709551616^q=18446744073709551616*(y/18446744073709551616^(q+1))+v:=by
   rw [hv,cG,<-jN]
   unfold wd
   omega
  have hR:(4294967296*((4294967296*R (q+1)+x*(v/4294967296))%LL)+x*(v%4294967296))%LL=R q:=by
   show(4294967296*((4294967296*(x*(y/18446744073709551616^(q+1))%LL)+x*(v/4294967296))%LL)+x*(v%4294967296))%LL=x*(y/18446744073709551616^q)%LL
   rw [mul_split,hY,show 4294967296*(v/4294967296)+v%4294967296=v by omega]
  refine s_skip (hK2 _ ?_);refine s_seq λK3 hK3=>?_;refine s_block ?_;refine s_N 8 [] (by kernel_rfl) λK hK G S w0 hst=>?_;refine n_auto2 hst rfl (n_cell hst rfl arr4 (by show q<4;omega) (.int .u64 (v:Int)) rd ?_);refine n_auto2 hst rfl (n_num 17 ((v/4294967296:Nat):Int) rfl (w64.shr 32 (by decide)) (n_X hst (next_C (mod_lt_LL _) hx (by omega)) rfl λ_=>n_N hst rfl hK rfl ?_));refine s_drawnN 8 (by kernel_rfl) λG S w0 hst=>?_;refine n_auto2 hst rfl (n_cell hst rfl arr4 (by show q<4;omega) (.int .u64 (v:Int)) rd ?_);have hm:v%4294967296<4294967296:=cI _ (aD rfl);refine n_auto2 hst rfl (n_num 25 ((v%4294967296:Nat):Int) rfl (mask32 v hvl) (n_X hst (next_C (mod_lt_LL _) hx hm) rfl λ_=>?_));rw [hR];refine n_L hst rfl (l_E rfl (hK3 _ ?_));refine s_autoE TY_ok rfl ?_;exact k_next (q,(q:Int)-1) ⟨by show q<=4;omega,rfl⟩ (Nat.lt_succ_self q) ⟨⟨congrArg (λx=>some (SV.v (.int .i64 x))) (by show IntKind.i64.wrap ((q:Int)-1)=_;rw [i64_left,wrap64_in _ (by omega)]),rfl,rfl,rfl,rfl,trivial⟩,⟨rfl,rfl,rfl,rfl,rfl,rfl,rfl,rfl,trivial⟩,.refl _,λ_ h _=>h,λ_ h=>h⟩
 ·obtain rfl:j=0:=by omega
  have e6:R 0=x*y%LL:=by show x*(y/18446744073709551616^0)%LL=_;rw [kV,pZ]
  refine s_exit (k_pass (k_pass (k_out (hK1 _ ?_))));refine s_auto TY_ok rfl (s_ret ?_);rw [<-e6]
  exact k_ret TY_ok () rfl (by decide) rfl rfl rfl (λ_ _ _=>trivial) λ_ _=>trivial⟩
omit [Pst F] in
theorem schash_C{n:Nat}:Ct F 99 [eS n] (one (.q (eY 32 (Nums.bytes 32 n)))):=⟨own_schash,Spec.pure (eY_ok (b9 _ _)).1 λw _=>schash_f n w⟩
theorem scnew_C{b:List UInt8}(hb:b.length=32):Ct F 108 [eY 32 b] (one (.t [eS (if le b<LL then le b else 0),.c (.v (.bool (decide (le b<LL))))])):=⟨own_scnew,by
 have hl:=cop_half hb;obtain⟨c,hc⟩:∃c,c=cop z64 0 b:=⟨_,rfl⟩;have h1:c.length=64:=hc▸hl.1;have h2:le c=le b:=hc▸hl.2;refine spec_S [eY 32 b] 17 Tryz.func108 rfl (by rw [Tryz.ntmps108];rfl) (one_ok (eY_ok hb).1) λB=>?_;refine s_auto TY_ok rfl ?_;refine s_auto TY_ok rfl ?_;refine s_N 2 [] (by kernel_rfl) λK hK G S w0 hst=>n_L hst rfl ?_;refine l_copyW (z:=z64) (ps:=[.agg 32 (By b).toArray]) b rfl rfl rfl rfl rfl rfl rfl rfl ((src_one 0 _).trans (congrArg By (all32 rfl))) rfl hb (by rw [hb];exact aD rfl) (by rw [hb];exact aD rfl) (l_E rfl (hK _ ?_));rw [<-hc];refine s_reg λK hK=>l_X (wide_C h1) (λ_=>rfl) rfl λ_=>?_;rw [h2];refine l_N hK rfl ?_;refine s_seq λK1 hK1=>?_;refine s_N 4 [] (by kernel_rfl) λK hK G S w0 hst=>n_X hst schash_C rfl λ_=>?_;refine n_auto2 hst rfl (n_op hst (.b (!decide (Nums.bytes 32 (le b%LL)=b))) trivial rfl rfl rfl (run_neqY rfl rfl rfl Tryz.underlying45 (by kernel_rfl) (b9 _ _) hb) ?_);rw [uB hb];refine n_N hst rfl hK rfl ?_;refine s_if (!decide (le b<LL)) rfl (λh=>?_) (λh=>?_)
 ·have hq:¬le b<LL:=λhq=>by rw [decide_eq_true hq] at h;cases h
  refine s_auto TY_ok rfl (s_ret ?_);rw [decide_eq_false hq,if_neg hq];exact k_ret TY_ok () rfl (by decide) rfl rfl rfl (λ_ _ _=>trivial) λ_ _=>trivial
 ·have hq:le b<LL:=of_decide_eq_true (by rw [Bool.not_eq_false'] at h;exact h)
  rw [aW hq];refine s_skip (hK1 _ ?_);refine s_auto TY_ok rfl (s_ret ?_);rw [decide_eq_true hq,if_pos hq]
  exact k_ret TY_ok () rfl (by decide) rfl rfl rfl (λ_ _ _=>trivial) λ_ _=>trivial⟩
end
theorem wide_f{l:List UInt8}(hl:l.length=64)(w:World):Calls Tryz.prog 102 #[.agg (By l).toArray] w λe w'=>e = .returned (.agg (Us (ws (le l%LL))).toArray)/\Below w.heap.size w w' :=
 haveI:Pst λ_:World=>True:=⟨λ_ _ h _=>h⟩
 (wide_C (F:=λ_=>True) hl).row trivial
end Go.Proofs.YtlhlkofpjhpaoaaGreatDoor
namespace Go.Proofs.YtlhlkofpjhpaoaaGreatDoor
open Go.RowKit Go.IntWalk
section
variable{b:Base}{ops:Array Oper}{Q:Exit->Act->World->Prop}{N:Nat}{E:SE}{L:List LV}{R R':List Res}{F M F':World->Prop}{o:Oper}{rest:List Oper}{k:Nat}{α:Type}{post:Post α}{own:List Res}{f:FuncId}{y:Operand}{xs:Array Operand}{ats:Array TypeId}{svs:List SV}{caps:List Value}
theorem callV_run{G:Nat->Nat}{a:Act}{w:World}(hf:Own f)(ho:o.op = .call { callee:=.value y,args:=xs,argTypes:=ats })(hy:evS E y=some (.v (.func (.func f) #[] caps.toArray)))(hx:evSs E xs.toList=some svs)(ha:Fr N (denE G E) a) :
  (execOp a.eval o).run Tryz.prog w = .ok (.enter f (svs.map (SV.den G)++caps).toArray) w:=by
 have h1:a.eval y = .func (.func f) #[] caps.toArray:=ha.eval (evS_ok hy);have h2:=map_eval (args:=(svs.map (SV.den G)).toArray) (ha.evals _ _ (by rw [evSs_ok hx]));have h3:=hf (svs.map (SV.den G)++caps).toArray w
 have e:(svs.map (SV.den G)).toArray++caps.toArray=(svs.map (SV.den G)++caps).toArray:=by simp
 obtain⟨dst,op,ty,pos,af,gd⟩:=o;simp only at ho;subst ho
 unfold execOp
 simp only [resolve,h1,h2,Deferred.ofValue,aF,aG,aB,invoke]
 simp [e,h3]
theorem l_callV(args:List Value)(hg:o.guard=none)(hd:o.dst=some k)(hk:aO k N=true)(hf:Own f)(ho:o.op = .call { callee:=.value y,args:=xs,argTypes:=ats })(hy:evS E y=some (.v (.func (.func f) #[] caps.toArray)))(hx:evSs E xs.toList=some svs)
 (ha:∀G:Nat->Nat,(∀x∈L,∀g,x.g=some g->G x.j=g)->svs.map (SV.den G)++caps=args)(hs:Spec f args own F' post)(hF:∀w,F w->M w->F' w)
 (hn:∀x,lS Tryz.prog b ops Q N rest ⟨(k,(post.ret x).sv)::E,L,post.own x++R',λw=>post.p x w/\F w,λw=>post.n x w/\M w⟩):lS Tryz.prog b ops Q N (o::rest) ⟨E,L,own++R',F,M⟩:=λa w ⟨G,S,h1,h2,h3⟩=>by
 have hr:=callV_run (w:=w) hf ho hy hx h1;rw [ha G λx hx=>(h3.var x hx).2.2] at hr
 unfold wpList
 rw [if_pos (by simp [Region.wanted,hg])];refine .inl ?_
 unfold Oper.wp
 rw [hr];simp only [Oper.upon,hd];refine(h3.callA hs hF).mono ?_
 rintro e w' ⟨x,S',rfl,hok,h4⟩
 have h5:=h1.put hk (post.ret x).den;rw [<-RV.sv_den _ G] at h5;have h6:=hn x _ w' ⟨G,S',h5,h2.cons hok,h4⟩;rw [RV.sv_den] at h6;exact h6
theorem run_makeF{fn:Fn}{vals:List Value}(ho:o.op = .makeFunc fn #[] xs)(hx:evSs E xs.toList=some svs)(hv:∀G:Nat->Nat,svs.map (SV.den G)=vals) :
  ∀(G:Nat->Nat) (a:Act) (w:World),Fr N (denE G E) a->(execOp a.eval o).run Tryz.prog w = .ok (.value ((SV.v (.func fn #[] vals.toArray)).den G)) w:=λG a w ha=>by
 have h2:=map_eval (args:=(svs.map (SV.den G)).toArray) (ha.evals _ _ (by rw [evSs_ok hx]));rw [hv G] at h2
 unfold execOp
 simp only [ho]
 simp [h2,Instr.makeFunc]
 rfl
end
theorem setRow_same{w:World}{g t:Nat}{cs:Array Value}(h:Blk w g t cs):w.setRow g cs=w:=setRow_self w g cs t (0,0) h
def clr(z:List UInt8)(o:Nat):List UInt8:=z.take o++aA (z.length-o) 0
theorem clr_len{z:List UInt8}{o:Nat}(h:o<=z.length):(clr z o).length=z.length:=by
 simp [clr]
 omega
theorem wpl_clear{ops:Array Oper}{rest:List Oper}{op:Oper}{a:Act}{w:World}{Q:Exit->Act->World->Prop}(x:Operand)(hgd:op.guard=none)(ho:op.op = .call { callee:=.builtin .clear,args:=#[x],argTypes:=#[51] })
 (g o n c:Nat)(A:Option Addr)(hx:a.eval x = .slice A n c)(hA:0<n->A=some ⟨g,o,none⟩)(z:List UInt8)(t:Nat)(hz:Blk w g t (By z).toArray)(hn:o+n=z.length)
 (z':List UInt8)(hz':Hid (clr z o=z'))(h:wpList Tryz.prog ops Q rest (a.put op.dst (.tuple #[])) (w.setRow g (By z').toArray)):wpList Tryz.prog ops Q (op::rest) a w:=by
 rw [<-hz'.out] at h;refine wpList_plain hgd λK hK=>?_
 have hrun:(pN #[51] op.type #[.slice A n c]).run Tryz.prog w = .ok (.tuple #[]) (w.setRow g (By (clr z o)).toArray):=by
  by_cases h0:n=0
  ·subst h0
   have e:clr z o=z:=by
    unfold clr
    rw [<-hn,dT,gP,List.replicate_zero,bJ,bH (by omega)]
   rw [e,setRow_same hz];have hu:=Tryz.underlying51
   cases A<;>simp [pN,run_underlying hu]
  ·obtain rfl:=hA (by omega)
   have hst:=run_storeCells_at (P:=Tryz.prog) g o t (aA n (.int .u8 0)) 0 (By z).toArray w hz (by rw [bK,aV,By_len];omega) (by intro v hv;rw [List.eq_of_mem_replicate hv];rfl)
   have e:((By z).toArray.toList.take (o+0)++aA n (.int .u8 0)++(By z).toArray.toList.drop (o+0+(aA n (cC .u8 0)).length))=By (clr z o):=by
    have hd:(By z).drop (o+n)=[]:=lX (by rw [By_len];omega);simp only [bK,dT,hd,bJ]
    unfold clr
    rw [By_app,<-hn,Nat.add_sub_cancel_left]
    simp [By]
   rw [e] at hst
   have hzc:(iG #[.int .u8 0] n).toList=aA n (.int .u8 0):=by
    simp [iG]
    apply dG
    ·simp
    ·intro i h1 h2
     simp [Nat.mod_one]
   obtain⟨m,rfl⟩:∃m,n=m+1:=⟨n-1,by omega⟩;have hu:=Tryz.underlying51
   simp [pN,run_underlying hu,Value.cells,hzc,hst]
 unfold Oper.wp
 simp [execOp,ho,resolve,invoke,builtin,hx,hrun,Result.andThen]
 exact hK _ _ h
end Go.Proofs.YtlhlkofpjhpaoaaGreatDoor
namespace Go.Proofs.YtlhlkofpjhpaoaaGreatDoor
open Go.RowKit Go.IntWalk Nums
abbrev ObB(g ty n:Nat)(b:List UInt8):Res:=ObjS g ty [.agg n (By b).toArray]
section
variable{b:Base}{ops:Array Oper}{Q:Exit->Act->World->Prop}{N n m k c c2 g ty off:Nat}{E:SE}{L:List LV}{R:List Res}{F M:World->Prop}{rest:List Oper}{o o1 o2:Oper}{t e:TypeId}{x y z:Operand}{K:IntKind}{bb:List UInt8}
theorem catP_one(p:Pt):catP [p]=p.cells:=by
 rw [catP_cons];exact Array.append_empty
theorem obj_bytes{w:World}{S:Nat->Prop}(h:(ObB g ty n bb).holds w S):Blk w g ty (By bb).toArray:=by
 have h1:=h.1.1
 rwa [show catP [.agg n (By bb).toArray]=(By bb).toArray from catP_one _] at h1
theorem l_putO(i j:Nat)(v:UInt8)(hi:R[i]?=some (ObB g ty n bb))(hlen:bb.length=n)(h1:(o1.guard,o1.dst,o1.op)=(none,some k,.indexAddr t x y))(h2:(o2.guard,o2.dst,o2.op)=(none,none,.store e (.tmp k) z))(hk:aO k N=true)(hx:evS E x=some (.v (.slice (some ⟨g,0,none⟩) n c)))(hy:evS E y=some (.v (.int K (j:Int))))(hz:evS E z=some (.v (.int .u8 (v.toNat:Int))))(hf:lookS E k=none)(ht:Tryz.prog.underlying t=some (.slice e))(he:(Tryz.prog.info? e).map (·.size)=some 1)(hj:j<n)
 (hn:lS Tryz.prog b ops Q N rest ⟨(k,.v (.pointer (some ⟨g,0+1*j,none⟩)))::E,L,R.set i (ObB g ty n (bb.set j v)),F,M⟩):lS Tryz.prog b ops Q N (o1::o2::rest) ⟨E,L,R,F,M⟩:=by
 simp only [cP] at h1 h2;refine l_op (.v (.pointer (some ⟨g,0+1*j,none⟩))) trivial h1.1 h1.2.1 hk (runO_ixS j h1.2.2 ht he hx hy hj) λa w ⟨G,S,f1,f2,f3⟩=>?_;obtain⟨S1,hobj,hput⟩:=f3.put hi;have hb:=obj_bytes hobj
 have e1:a.eval (.tmp k) = .pointer (some ⟨g,j,none⟩):=by
  have e:=f1.get k _ (by rw [denE,look_cons,if_pos rfl]);rw [aX,gM] at e;exact e
 have e2:a.eval z = .int .u8 (v.toNat:Int):=f1.eval (evS_ok (evS_new hf hz));have hok:OkP [Pt.agg n (By (bb.set j v)).toArray]:=(eY_ok (by rw [bR,hlen])).1;have hst:=run_store_part (P:=Tryz.prog) (t:=e) (v:=.int .u8 (v.toNat:Int)) (off:=j) hb (by rw [he];rfl) (by show j+1<=_;rw [aV,By_len];omega) (λu hu=>by rw [aE.1 hu];rfl)
 have ec:((By bb).toArray.toList.take j++(cC .u8 (v.toNat:Int)).cells.toList++(By bb).toArray.toList.drop (j+(cC .u8 (v.toNat:Int)).cells.size)).toArray=catP [.agg n (By (bb.set j v)).toArray]:=by
  rw [catP_one]
  apply Array.ext'
  show(By bb).take j++[_]++(By bb).drop (j+1)=By (bb.set j v)
  rw [By,By,List.map_set,List.set_eq_take_append_cons_drop,if_pos (by rw [cH,hlen];exact hj)]
  simp
 rw [ec] at hst;obtain⟨S'',h6⟩:=hput (ObB g ty n (bb.set j v)) (w.setRow g (catP [.agg n (By (bb.set j v)).toArray])) S1 ((Chg.row w g _).mono λk _ hk=>(hobj.2 k).2 hk) ⟨⟨hb.row _,hok⟩,hobj.2⟩ (λk hk _=>hk)
 refine wpl_skip (w':=w.setRow g (catP [.agg n (By (bb.set j v)).toArray])) (oneS h2.1) (by
  unfold execOp
  simp only [h2.2.2,e1,e2,hst,aF,aG,aB]) ?_
 rw [h2.2.1];exact hn _ _ ⟨G,S'',f1,f2,h6⟩
theorem l_clearO{A:Option Addr}(i:Nat)(hi:R[i]?=some (ObB g ty n bb))(hlen:bb.length=n)(h1:(o.guard,o.dst,o.op)=(none,none,.call { callee:=.builtin .clear,args:=#[x],argTypes:=#[51] }))(hx:evS E x=some (.v (.slice A m c)))(hA:0<m->A=some ⟨g,off,none⟩)(hm:off+m=n)
 (hn:lS Tryz.prog b ops Q N rest ⟨E,L,R.set i (ObB g ty n (clr bb off)),F,M⟩):lS Tryz.prog b ops Q N (o::rest) ⟨E,L,R,F,M⟩:=λa w ⟨G,S,f1,f2,f3⟩=>by
 simp only [cP] at h1;obtain⟨S1,hobj,hput⟩:=f3.put hi;have hb:=obj_bytes hobj;have hok:OkP [Pt.agg n (By (clr bb off)).toArray]:=(eY_ok (by rw [clr_len (by omega),hlen])).1;obtain⟨S'',h6⟩:=hput (ObB g ty n (clr bb off)) (w.setRow g (By (clr bb off)).toArray) S1 ((Chg.row w g _).mono λk _ hk=>(hobj.2 k).2 hk) ⟨⟨by rw [show catP [.agg n (By (clr bb off)).toArray]=(By (clr bb off)).toArray from catP_one _];exact hb.row _,hok⟩,hobj.2⟩ (λk hk _=>hk);refine wpl_clear x h1.1 h1.2.2 g off m c A (f1.eval (evS_ok hx)) hA bb ty hb (by rw [hlen];exact hm) (clr bb off) (dL rfl) ?_;rw [h1.2.1];exact hn _ _ ⟨G,S'',f1,f2,h6⟩
theorem l_copyO{A:Option Addr}{l:List UInt8}(i:Nat)(hi:R[i]?=some (ObB g ty n bb))(hlen:bb.length=n)(h1:(o.guard,o.dst,o.op)=(none,some k,.call { callee:=.builtin .copy,args:=#[x,y],argTypes:=#[51,51] }))(hk:aO k N=true)(hx:evS E x=some (.v (.slice (some ⟨g,off,none⟩) m c)))(hy:evS E y=some (.v (.slice A l.length c2)))(hm:off+m=n)(h0:0<l.length)(hrd:∀G S w,View G S L R F M w->Rd 1 eB A c2 l w)
 (hn:lS Tryz.prog b ops Q N rest ⟨(k,.v (.int .i64 ((min l.length m:Nat):Int)))::E,L,R.set i (ObB g ty n (cop bb off (l.take m))),F,M⟩):lS Tryz.prog b ops Q N (o::rest) ⟨E,L,R,F,M⟩:=λa w ⟨G,S,f1,f2,f3⟩=>by
 simp only [cP] at h1;have hR:=hrd G S w f3.view;obtain⟨S1,hobj,hput⟩:=f3.put hi;have hb:=obj_bytes hobj
 have hl:(l.take m).length=min l.length m:=by rw [aY,Nat.min_comm]
 have hle:off+(l.take m).length<=bb.length:=by rw [hl];omega
 have hok:OkP [Pt.agg n (By (cop bb off (l.take m))).toArray]:=(eY_ok (by rw [cop_len hle,hlen])).1;obtain⟨S'',h6⟩:=hput (ObB g ty n (cop bb off (l.take m))) (w.setRow g (By (cop bb off (l.take m))).toArray) S1 ((Chg.row w g _).mono λk _ hk=>(hobj.2 k).2 hk) ⟨⟨by rw [show catP [.agg n (By (cop bb off (l.take m))).toArray]=(By (cop bb off (l.take m))).toArray from catP_one _];exact hb.row _,hok⟩,hobj.2⟩ (λk hk _=>hk);obtain⟨bk,oo,rfl,_,hcell⟩:=hR.2.2.2.2 h0;refine wpList_copy_own h1.1 x y 51 51 h1.2.2 5 Tryz.underlying51 size_u8 g off m c ⟨bk,oo,none⟩ l.length c2 (f1.eval (evS_ok hx)) (f1.eval (evS_ok hy)) (By bb).toArray ty hb (By (l.take m)) (by rw [By_len,hl]) ?_ (by rw [By_len,aV,By_len];exact hle) (By_one _) ?_
 ·intro j v hv
  obtain⟨x,hx1,rfl⟩:=By_at hv;rw [c7] at hx1
  split at hx1
  ·have:=hcell j x hx1 0 (.int .u8 (x.toNat:Int)) rfl
   rw [cU]
   simpa using this
  ·cases hx1
 ·have e:(By bb).toArray.toList.take off++(By (l.take m)++(By bb).toArray.toList.drop (off+(By (l.take m)).length))=By (cop bb off (l.take m)):=by
   simp [cop,By]
  rw [e,h1.2.1,By_len,hl];exact hn _ _ ⟨G,S'',f1.put hk _,f2.cons trivial,h6⟩
end
theorem be64_len(v:Nat):(iL v).length=8:=by
 unfold iL
 rw [fI,b9]
theorem be64_mod(v:Nat):iL (v%18446744073709551616)=iL v:=by
 unfold iL
 congr 1
 refine mA (by rw [b9,b9]) ?_;rw [iC,iC];exact Nat.mod_mod _ _
theorem be64_get{v i:Nat}(h:i<8):((iL v)[7-i]!).toNat=v/256^i%256:=by
 have hl:(Nums.bytes 8 v).length=8:=b9 _ _
 have e:(iL v)[7-i]! = (Nums.bytes 8 v)[i]!:=by
  unfold iL
  rw [getElem!_pos _ _ (by rw [fI,hl];omega),List.getElem_reverse,getElem!_pos _ i (by rw [hl];exact h)]
  congr 1
  rw [hl]
  omega
 rw [e,bytes_get _ _ h]
def eig(c e:List UInt8)(n i:Nat):List UInt8:=c.take (n-i)++e.drop (8-i)
theorem eig_len{c e:List UInt8}{n i:Nat}(hc:c.length=n)(he:e.length=8)(hi:i<=8)(hn:8<=n):(eig c e n i).length=n:=by
 unfold eig
 rw [aC,aY,eK]
 omega
theorem eig_zero{c e:List UInt8}{n:Nat}(hc:c.length=n)(he:e.length=8):eig c e n 0=c:=by
 unfold eig
 rw [bH (by omega),List.drop_of_length_le (by omega),bJ]
theorem eig_set{c e:List UInt8}{n i:Nat}(hc:c.length=n)(he:e.length=8)(hi:i<8)(hn:8<=n):(eig c e n i).set (n-1-i) e[7-i]! = eig c e n (i+1):=by
 unfold eig
 have h1:c.take (n-i)=c.take (n-(i+1))++[c[n-(i+1)]!]:=by
  rw [show n-i=n-(i+1)+1 by omega,iF (by omega),getElem!_pos c _ (by omega)]
 have h2:e.drop (8-(i+1))=e[7-i]! :: e.drop (8-i):=by
  rw [gV (by omega),getElem!_pos e _ (by omega)]
  congr 1
  ·congr 1
   omega
  ·congr 1
   omega
 have hl:(c.take (n-(i+1))).length=n-(i+1):=by rw [aY];omega
 rw [h1,h2,a7,List.set_append_right _ _ (by omega),hl,show n-1-i-(n-(i+1))=0 by omega]
 rfl
theorem clr_set{b:List UInt8}{n r:Nat}(hb:b.length=n)(hr:r<n):clr (b.set r 128) (r+1)=b.take r++128::aA (n-1-r) 0:=by
 unfold clr
 rw [bR,hb]
 have h1:(b.set r 128).take (r+1)=b.take r++[128]:=by
  rw [iF (by rw [bR];omega),s6,List.take_set_of_le (aH r)]
 rw [h1,a7,show n-(r+1)=n-1-r by omega]
 rfl
theorem clr_all(c:List UInt8):clr c 0=aA c.length 0:=by
 unfold clr
 simp
theorem end_one{s:Sha}{b:List UInt8}{n r v:Nat}{o:Oct}(hn:64<=n)(hb:b.length=n)(hr:r<n)(h:r+1<=n-n/8) :
  fK s o (eig (b.take r++128::aA (n-1-r) 0) (iL v) n 8)=fD s n o (b.take r++dW n r v):=by
 have h8:n/8*8<=n:=Nat.div_mul_le_self n 8
 have h9:2<=n/8:=by omega
 have e:eig (b.take r++128::aA (n-1-r) 0) (iL v) n 8=b.take r++dW n r v:=by
  unfold eig dW
  have hl:(b.take r).length=r:=by rw [aY];omega
  rw [if_pos h,List.take_append,hl,bH (by omega),a7,gP,kH]
  congr 1
  rw [show n-8-r=(n-9-r)+1 by omega,List.take_succ_cons,List.take_replicate,cA (by omega),oO]
 rw [e]
 have hl:(b.take r++dW n r v).length=n:=by
  rw [<-e,eig_len (by rw [aC,aY,bB,bK];omega) (be64_len _) (aH _) (by omega)]
 have h0:=fZ (s:=s) (B:=n) (o:=o) (b:=b.take r++dW n r v) (l:=[]) (by omega) hl;rw [bJ] at h0;rw [h0,gX (by simp only [kR];omega)]
theorem end_two{s:Sha}{b:List UInt8}{n r v:Nat}{o:Oct}(hn:64<=n)(hb:b.length=n)(hr:r<n)(h:¬r+1<=n-n/8) :
  fK s (fK s o (b.take r++128::aA (n-1-r) 0)) (eig (aA n 0) (iL v) n 8)=fD s n o (b.take r++dW n r v):=by
 have hl1:(b.take r++128::aA (n-1-r) 0).length=n:=by
  rw [aC,aY,bB,bK]
  omega
 have hl2:(eig (aA n 0) (iL v) n 8).length=n:=eig_len (bK) (be64_len _) (aH _) (by omega)
 have e:b.take r++dW n r v=(b.take r++128::aA (n-1-r) 0)++eig (aA n 0) (iL v) n 8:=by
  unfold dW eig
  rw [if_neg h,a7,oO,gP,kH,List.take_replicate,cA (by omega),<-a7 (aA _ 0),List.replicate_append_replicate]
  congr 4
  omega
 have h0:=fZ (s:=s) (B:=n) (o:=fK s o (b.take r++128::aA (n-1-r) 0)) (b:=eig (aA n 0) (iL v) n 8) (l:=[]) (by omega) hl2;rw [bJ] at h0;rw [e,fZ (by omega) hl1,h0,gX (by simp only [kR];omega)]
end Go.Proofs.YtlhlkofpjhpaoaaGreatDoor
namespace Nums
theorem uK{t r b:List UInt8}{n:Nat}(ht:b.take t.length=t):(Go.Proofs.YtlhlkofpjhpaoaaGreatDoor.cop b t.length (r.take (n-t.length))).take (t.length+min r.length (n-t.length))=t++r.take (n-t.length):=by
 unfold Go.Proofs.YtlhlkofpjhpaoaaGreatDoor.cop
 rw [ht,<-a7]
 have hl:(t++r.take (n-t.length)).length=t.length+min r.length (n-t.length):=by
  rw [aC,aY,Nat.min_comm]
 rw [<-hl,List.take_left]
theorem tF{s:Sha}{n k:Nat}{o:Oct}{a z:List UInt8}(hn:0<n)(ha:a.length=k*n)(hz:z.length=n):fK s (fD s n o a) z=fD s n o (a++z):=by
 rw [lC hn k ha];have h:=fZ (s:=s) (B:=n) (o:=fD s n o a) (b:=z) (l:=[]) hn hz;rw [bJ] at h;have h2:=gX (s:=s) (B:=n) (o:=fK s (fD s n o a) z) (l:=[]) (by simpa using hn);rw [h,h2]
theorem uT{s:Sha}{n k:Nat}{o:Oct}{a t x:List UInt8}(hn:0<n)(ha:a.length=k*n):fD s n (fD s n o a) (t++x)=fD s n o ((a++t)++x):=by
 rw [a7,lC hn k ha]
theorem sF(n r v:Nat):dW n r (8*(v%18446744073709551616))=dW n r (8*v):=by
 unfold dW
 have e:iL (8*(v%18446744073709551616))=iL (8*v):=by
  have h1:=Go.Proofs.YtlhlkofpjhpaoaaGreatDoor.be64_mod (8*(v%18446744073709551616));have h2:=Go.Proofs.YtlhlkofpjhpaoaaGreatDoor.be64_mod (8*v);rw [<-h1,<-h2]
  congr 1
  omega
 rw [e]
end Nums
namespace Go.Proofs.YtlhlkofpjhpaoaaGreatDoor
open Go.RowKit Go.IntWalk Nums
theorem own_end:Own 124:=λ_ _=>by go_simp
theorem own_fill:Own 86:=λ_ _=>by go_simp
structure BK where
  s:Sha
  n:Nat
  th:TypeId
  tb:TypeId
  eo:Oct->List Pt
  f:FuncId
abbrev BK.R(k:BK)(gh gb:Nat)(o:Oct)(b:List UInt8):List Res:=[ObjS gh k.th (k.eo o),ObB gb k.tb k.n b]
abbrev atG(g:Nat):Value:=.pointer (some ⟨g,0,none⟩)
abbrev BK.take(k:BK)(gh gb:Nat):Value:=.func (.func k.f) #[] [atG gh,atG gb].toArray
abbrev BK.post(k:BK)(gh gb:Nat)(o:Oct):Post {b:List UInt8 // b.length=k.n}:={ ret:=λ_=>.t [],own:=λb=>k.R gh gb o b.1 }
structure BK.Ok(k:BK):Prop where
  n64:64<=k.n
  n128:k.n<=128
  own:Own k.f
  tk:∀{gh gb:Nat} {o:Oct} {b:List UInt8},OB k.s.w o->b.length=k.n->Spec k.f [atG gh,atG gb] (k.R gh gb o b) Ts { ret:=λ_:Unit=>.t [],own:=λ_=>k.R gh gb (fK k.s o b) b }
section
variable{k:BK}{gh gb:Nat}
theorem end_S(hk:k.Ok){r v:Nat}{o:Oct}{b:List UInt8}(ho:OB k.s.w o)(hb:b.length=k.n)(hr:r<k.n) :
  Spec 124 [.slice (some ⟨gb,0,none⟩) k.n k.n,.int .i64 (r:Int),.int .u64 (v:Int),k.take gh gb] (k.R gh gb o b) Ts (k.post gh gb (fD k.s k.n o (b.take r++dW k.n r (8*v)))):=by
 have h64:=hk.n64;have h128:=hk.n128;refine spec_S [.c (.v (.slice (some ⟨gb,0,none⟩) k.n k.n)),.c (.v (.int .i64 (r:Int))),.c (.v (.int .u64 (v:Int))),.c (.v (k.take gh gb))] 48 Tryz.func124 rfl (by rw [Tryz.ntmps124];rfl) (more_ok trivial (more_ok trivial (two_ok trivial trivial))) λB=>?_;refine s_reg λK hK=>l_autoS TY_ok rfl (l_putO 1 r 128 rfl hb rfl rfl rfl rfl rfl rfl rfl Tryz.underlying51 size_u8 hr (l_N hK rfl ?_))
 have hcut:cutA (some ⟨gb,0,none⟩) k.n (r+1)=some ⟨gb,r+1,none⟩\/k.n-(r+1)=0:=by
  unfold cutA
  by_cases h:k.n=r+1
  ·exact .inr (by omega)
  ·rw [if_neg h]
   exact .inl (by rw [bQ,cU,aX])
 refine s_reg λK hK=>l_autoS TY_ok rfl (l_num 15 ((r+1:Nat):Int) rfl (addI r 1 (by omega)) (l_op (.v (.slice (cutA (some ⟨gb,0,none⟩) k.n (r+1)) (k.n-(r+1)) (k.n-(r+1)))) trivial rfl rfl rfl (run_cutLo (by omega) (aH _) (λh=>by cases h) rfl rfl rfl) ?_));refine l_clearO (off:=r+1) 1 rfl (by rw [bR,hb]) rfl rfl (λh=>hcut.resolve_right (by omega)) (by omega) ?_;rw [clr_set hb hr];refine l_N hK rfl ?_
 have hlen:∀c:List UInt8,(b.take r++128::c).length=r+1+c.length:=λc=>by rw [aC,aY,bB,hb];omega
 have he:=be64_len (8*v);generalize hP:fD k.s k.n o (b.take r++dW k.n r (8*v))=P
 let V:Oct->List UInt8->SE->Env:=λo c E=>⟨E++[(0,.v (.slice (some ⟨gb,0,none⟩) k.n k.n)),(2,.v (.int .u64 (v:Int))),(3,.v (k.take gh gb))],[],k.R gh gb o c,Ts,λ_=>True⟩
 refine s_seq λK1 hK1=>?_;have go:∀(o:Oct) (c:List UInt8),OB k.s.w o->c.length=k.n->fK k.s o (eig c (iL (8*v)) k.n 8)=P->∀e,Weak e (V o c [])->kS B K1 48 e:=λo c ho hc hend e hw=>k_weak hw (hK1 _ ?_)
 ·refine s_reg λK hK=>l_autoS TY_ok rfl ?_
  refine l_eq 25 (.b (decide (r+1>k.n-k.n/8))) rfl ?_ (s_end (hK _ ?_))
  ·show SV.b (decide (IntKind.i64.wrap ((r:Int)+((1:Nat):Int))>IntKind.i64.wrap ((k.n:Int)-IntKind.i64.wrap ((k.n:Int).tdiv ((8:Nat):Int)))))=_
   rw [addI r 1 (by omega),wrapQ k.n 8 (by omega),subI k.n (k.n/8) (by omega) (by omega)];exact congrArg SV.b (decide_eq_decide.2 (by omega))
  refine s_ifD (r+1>k.n-k.n/8) rfl (λhgt=>?_) (λhle=>?_)
  ·have hl0:(b.take r++128::aA (k.n-1-r) 0).length=k.n:=by rw [hlen,bK];omega
   refine s_reg λK hK=>l_autoS TY_ok rfl (l_callV (own:=k.R gh gb o (b.take r++128::aA (k.n-1-r) 0)) (R':=[]) [atG gh,atG gb] rfl rfl rfl hk.own rfl rfl rfl (λ_ _=>rfl) (hk.tk ho (by rw [hlen,bK];omega)) (λw h _=>h) λ_=>l_R (k.R gh gb (fK k.s o (b.take r++128::aA (k.n-1-r) 0)) (b.take r++128::aA (k.n-1-r) 0)) rfl (l_N hK rfl ?_));refine s_lit (l_autoS TY_ok rfl (l_clearO (off:=0) 1 rfl (by rw [hlen,bK];omega) rfl rfl (λ_=>rfl) (aX _) ?_));rw [clr_all,hl0];exact l_E rfl (go _ _ (OB.fK _ _ _) bK (by rw [end_two h64 hb hr (by omega)];exact hP) _ ⟨⟨rfl,rfl,rfl,trivial⟩,trivial,.refl _,λ_ h _=>h.2,λ_ _=>trivial⟩)
  ·exact s_skip (go _ _ ho (by rw [hlen,bK];omega) (by rw [end_one h64 hb hr (by omega)];exact hP) _ ⟨⟨rfl,rfl,rfl,trivial⟩,trivial,.refl _,λ_ h _=>h,λ_ h=>h⟩)
 ·refine s_reg λK hK=>l_autoS TY_ok rfl (l_num 8 (((8*v)%18446744073709551616:Nat):Int) rfl (by
   show IntKind.u64.wrap ((v:Int)*8)=_
   rw [a8]
   omega) (s_end (hK _ ?_)))
  have hbe:=be64_mod (8*v);rw [<-hbe] at hend;generalize (8*v)%18446744073709551616=u at *;have heu:=be64_len u;have hel:∀i,i<=8->(eig c (iL u) k.n i).length=k.n:=λi hi=>eig_len hc heu hi (by omega);refine s_seq λK2 hK2=>?_;refine s_auto TY_ok rfl ?_;refine s_block ?_
  let W:Nat->Env:=λi=>⟨[(31,.v (.int .i64 (i:Int))),(8,.v (.int .u64 ((u/256^i:Nat):Int))),(0,.v (.slice (some ⟨gb,0,none⟩) k.n k.n)),(3,.v (k.take gh gb))],[],k.R gh gb o (eig c (iL u) k.n i),Ts,λ_=>True⟩
  refine c_weak (e':=W 0) ⟨⟨rfl,congrArg (λx:Nat=>some (SV.v (.int .u64 (x:Int)))) (by rw [kV,pZ]),rfl,rfl,trivial⟩,trivial,.of_eq (congrArg (k.R gh gb o) (eig_zero hc heu).symm),λ_ h _=>h,λ_ h=>h⟩ (s_loop (λi=>8-i) W (λi=>i<=8) ?_ 0 (aQ _))
  rintro i hi
  refine s_auto TY_ok rfl ?_;refine s_seq λK3 hK3=>?_;refine s_ifD ((i:Int)<8) rfl (λhlt=>?_) (λhge=>?_)
  ·have hlt:i<8:=by omega
   refine s_skip (hK3 _ ?_);refine s_seq λK4 hK4=>?_;refine s_block ?_;refine s_auto TY_ok rfl ?_
   refine s_reg λK hK=>l_autoS TY_ok rfl (l_num 39 ((k.n-1-i:Nat):Int) rfl (by
    show IntKind.i64.wrap (IntKind.i64.wrap ((k.n:Int)-((1:Nat):Int))-(i:Int))=_
    rw [subI k.n 1 (by omega) (by omega),subI (k.n-1) i (by omega) (by omega)]) (l_num 41 (((iL u)[7-i]!).toNat:Int) rfl (by
    show IntKind.u8.wrap ((u/256^i:Nat):Int)=_
    rw [oB,be64_get hlt]
    omega) ?_))
   refine l_putO 1 (k.n-1-i) ((iL u)[7-i]!) rfl (hel i (by omega)) rfl rfl rfl rfl rfl rfl rfl Tryz.underlying51 size_u8 (by omega) ?_;rw [eig_set hc heu hlt (by omega)];refine l_N hK rfl ?_
   refine s_lit (l_auto2 rfl (l_num 8 ((u/256^(i+1):Nat):Int) rfl (by
    show Int.fdiv ((u/256^i:Nat):Int) (2^min 8 IntKind.u64.bits)=_
    rw [kw64.shr 8 (by decide),jN,show(256:Nat)^i*2^8=256^(i+1) from rfl]) (s_end (hK4 _ ?_))))
   refine s_autoE TY_ok rfl ?_;exact k_next (i+1) hlt (by omega) ⟨⟨congrArg (λx=>some (SV.v (.int .i64 x))) (addI i 1 (by omega)),rfl,rfl,rfl,trivial⟩,trivial,.refl _,λ_ h _=>h,λ_ h=>h⟩
  ·obtain rfl:i=8:=by omega
   refine s_exit (k_pass (k_pass (k_out (hK2 _ ?_))));refine s_lit (l_autoS TY_ok rfl (l_callV (own:=k.R gh gb o (eig c (iL u) k.n 8)) (R':=[]) [atG gh,atG gb] rfl rfl rfl hk.own rfl rfl rfl (λ_ _=>rfl) (hk.tk ho (hel 8 (aH _))) (λw h _=>h) λ_=>l_R (k.R gh gb P (eig c (iL u) k.n 8)) (by rw [<-hend];rfl) (l_E rfl ?_)));exact k_ret TY_ok ⟨eig c (iL u) k.n 8,hel 8 (aH _)⟩ rfl (by decide) rfl rfl rfl (λ_ _ _=>trivial) λ_ _=>trivial
end
structure FIq(k:BK)(o0:Oct)(m:List UInt8)(o:Oct)(c:List UInt8)(f:Nat):Prop where
  len:c.length=k.n
  ob:OB k.s.w o
  lt:f<k.n
  so:∃a j,m=a++c.take f/\a.length=j*k.n/\o=fD k.s k.n o0 a
section
variable{k:BK}{o0 o:Oct}{m c r:List UInt8}{f f':Nat}
theorem FIq.more(h:FIq k o0 m o c f)(hq:f+min r.length (k.n-f)=f'):(cop c f (r.take (k.n-f))).length=k.n/\(cop c f (r.take (k.n-f))).take f'=c.take f++r.take (k.n-f):=by
 have h1:(c.take f).length=f:=by rw [aY,h.len];have:=h.lt;omega
 have h2:=uK (t:=c.take f) (r:=r) (b:=c) (n:=k.n) (by rw [h1]);rw [h1,hq] at h2;exact⟨by rw [cop_len (by rw [aY,h.len];have:=h.lt;omega),h.len],h2⟩
theorem take_min(r:List UInt8)(n:Nat):r.take (min r.length n)=r.take n:=by
 rcases Nat.le_total r.length n with h|h
 ·rw [cA h,gN,bH h]
 ·rw [Nat.min_eq_right h]
theorem FIq.part(h:FIq k o0 m o c f)(hq:f+min r.length (k.n-f)≠k.n):FIq k o0 (m++r.take (min r.length (k.n-f))) o (cop c f (r.take (k.n-f))) (f+min r.length (k.n-f)):=by
 obtain⟨h1,h2⟩:=h.more (r:=r) rfl;obtain⟨a,j,rfl,e2,e3⟩:=h.so;refine⟨h1,h.ob,by have:=h.lt;omega,a,j,?_,e2,e3⟩;rw [h2,take_min,a7]
theorem FIq.full(h:FIq k o0 m o c f)(hk:k.Ok)(hq:f+min r.length (k.n-f)=k.n):FIq k o0 (m++r.take (min r.length (k.n-f))) (fK k.s o (cop c f (r.take (k.n-f)))) (cop c f (r.take (k.n-f))) 0:=by
 have h64:=hk.n64;obtain⟨h1,h2⟩:=h.more (r:=r) hq;rw [bH (by omega)] at h2;obtain⟨a,j,rfl,e2,e3⟩:=h.so;refine⟨h1,OB.fK _ _ _,by omega,a++cop c f (r.take (k.n-f)),j+1,?_,?_,?_⟩
 ·rw [take_min,List.take_zero,bJ,h2,a7]
 ·rw [aC,e2,h1,Nat.add_mul,gM]
 ·rw [e3]
  exact tF (by omega) e2 h1
end
theorem fill_S{k:BK}(hk:k.Ok){gh gb:Nat}{P:Option Addr}{pc:Nat}{ss:List Seg}{o0:Oct}{b:List UInt8}(ho:OB k.s.w o0)(hb:b.length=k.n)(hn:ss.length<=9223372036854775807) :
  Spec 86 [.slice (some ⟨gb,0,none⟩) k.n k.n,.slice P ss.length pc,k.take gh gb] (k.R gh gb o0 b) (λw=>Ts w/\PartsF P pc ss w) (k.post gh gb (fD k.s k.n o0 ((ss.map Seg.l).flatten++dW k.n ((ss.map Seg.l).flatten.length%k.n) (8*(ss.map Seg.l).flatten.length)))):=by
 have h64:=hk.n64;have h128:=hk.n128;refine spec_S [.c (.v (.slice (some ⟨gb,0,none⟩) k.n k.n)),.c (.v (.slice P ss.length pc)),.c (.v (k.take gh gb))] 48 Tryz.func86 rfl (by rw [Tryz.ntmps86];rfl) (more_ok trivial (two_ok trivial trivial)) λB=>?_;refine s_auto TY_ok rfl ?_;refine s_seq λK1 hK1=>?_;refine s_auto TY_ok rfl ?_;refine s_block ?_
 let m:Nat->List UInt8:=λi=>((ss.take i).map Seg.l).flatten
 let sz:Nat->Value:=λi=>.int .u64 (((m i).length%18446744073709551616:Nat):Int)
 let V:Nat×Nat×Oct×List UInt8->Env:=λs=>⟨[(13,.v (.int .i64 (s.1:Int))),(12,.v (.int .i64 (ss.length:Int))),(11,.v (.slice P ss.length pc)),(6,.v (.int .i64 (s.2.1:Int))),(7,.v (sz s.1)),(0,.v (.slice (some ⟨gb,0,none⟩) k.n k.n)),(2,.v (k.take gh gb))],[],k.R gh gb s.2.2.1 s.2.2.2,λw=>Ts w/\PartsF P pc ss w,λ_=>True⟩
 refine c_weak (e':=V (0,0,o0,b)) ⟨⟨rfl,rfl,rfl,rfl,rfl,rfl,rfl,trivial⟩,trivial,.refl _,λ_ h _=>h,λ_ h=>h⟩ (s_loop (λs=>ss.length-s.1) V (λs=>s.1<=ss.length/\FIq k o0 (m s.1) s.2.2.1 s.2.2.2 s.2.1) ?_ (0,0,o0,b) ⟨aQ _,hb,ho,by show 0<k.n;omega,[],0,rfl,(Nat.zero_mul _).symm,(gX (by show 0<k.n;omega)).symm⟩)
 rintro⟨i,f,o,c⟩ ⟨hi,hI⟩
 dsimp only at hi hI
 refine s_auto TY_ok rfl ?_;refine s_seq λK2 hK2=>?_;refine s_ifD ((i:Int)<(ss.length:Int)) rfl (λhlt=>?_) (λhge=>?_)
 ·have hlt:i<ss.length:=by omega
  obtain⟨s,hs⟩:∃s,ss[i]?=some s:=⟨_,List.getElem?_eq_getElem hlt⟩;have hmn:m i++s.l=m (i+1):=take_flatS hs;refine s_skip (hK2 _ ?_);refine s_seq λK3 hK3=>?_;refine s_block ?_;refine s_reg λK hK=>l_elem (fe:=eSeg) (x:=s) TY_ok rfl rfl rfl i rfl hs rfl rfl (λ_ _ _ hv=>hv.fact.2.1 (by omega)) (l_N hK rfl ?_)
  refine s_reg λK hK=>l_autoS TY_ok rfl (l_num 7 (((m (i+1)).length%18446744073709551616:Nat):Int) rfl (by
   show IntKind.u64.wrap ((((m i).length%18446744073709551616:Nat):Int)+IntKind.u64.wrap (s.l.length:Int))=_
   rw [wrapM,kw64.sum,<-aC,hmn]) (s_end (hK _ ?_)))
  refine s_block ?_
  let W:Option Addr×Nat×List UInt8×Nat×Oct×List UInt8->Env:=λs=>⟨[(9,.v (.slice s.1 s.2.2.1.length s.2.1)),(13,.v (.int .i64 (i:Int))),(12,.v (.int .i64 (ss.length:Int))),(11,.v (.slice P ss.length pc)),(6,.v (.int .i64 (s.2.2.2.1:Int))),(7,.v (sz (i+1))),(0,.v (.slice (some ⟨gb,0,none⟩) k.n k.n)),(2,.v (k.take gh gb))],[],k.R gh gb s.2.2.2.2.1 s.2.2.2.2.2,λw=>(Ts w/\PartsF P pc ss w)/\Rd 1 eB s.1 s.2.1 s.2.2.1 w,λ_=>True⟩
  refine c_weak (e':=W (s.A,s.c,s.l,f,o,c)) ⟨⟨rfl,rfl,rfl,rfl,rfl,rfl,rfl,rfl,trivial⟩,trivial,.refl _,λ_ h _=>⟨h,h.2.2 s (List.mem_of_getElem? hs)⟩,λ_ h=>h⟩ (s_loop (λs=>s.2.2.1.length) W (λs=>∃d,d++s.2.2.1=m (i+1)/\FIq k o0 d s.2.2.2.2.1 s.2.2.2.2.2 s.2.2.2.1) ?_ (s.A,s.c,s.l,f,o,c) ⟨_,hmn,hI⟩);clear hI hmn
  rintro⟨A,c2,r,f,o,c⟩ ⟨d,hd,hI⟩
  dsimp only at hd hI
  have hf:=hI.lt;refine s_seq λK4 hK4=>?_;refine s_auto TY_ok rfl ?_;refine s_ifD ((r.length:Int)>0) rfl (λhgt=>?_) (λhle=>?_)
  ·have h0:0<r.length:=by omega
   have hcut:cutA (some ⟨gb,0,none⟩) k.n f=some ⟨gb,f,none⟩\/False:=by
    unfold cutA
    rw [if_neg (by omega)];exact .inl (by rw [bQ,cU,aX])
   refine s_skip (hK4 _ ?_);refine s_block ?_;refine s_reg λK hK=>l_autoS TY_ok rfl (l_op (.v (.slice (cutA (some ⟨gb,0,none⟩) k.n f) (k.n-f) (k.n-f))) trivial rfl rfl rfl (run_cutLo (by omega) (aH _) (λh=>by cases h) rfl rfl rfl) (l_eq 27 (.v (.slice (some ⟨gb,f,none⟩) (k.n-f) (k.n-f))) rfl (by rw [hcut.resolve_right id]) (l_autoS TY_ok rfl ?_)));refine l_copyO (off:=f) 1 rfl hI.len rfl rfl rfl rfl (by omega) h0 (rd_fact λw h _=>h.2) (l_N hK rfl ?_);refine s_pure (r.length<=c2/\(A=none->c2=0)) (λw h _=>⟨h.2.1,h.2.2.2.1⟩) λ⟨hc2,hA⟩=>?_;have hq:min r.length (k.n-f)<=r.length:=Nat.min_le_left _ _
   have hq1:0<min r.length (k.n-f):=by omega
   have hq2:min r.length (k.n-f)<=k.n-f:=Nat.min_le_right _ _;have hpt:=λh=>hI.part (r:=r) h;have hfl:=λh=>hI.full (r:=r) hk h;generalize hmin:min r.length (k.n-f)=q at *;generalize cop c f (r.take (k.n-f))=c' at *
   have hd':(d++r.take q)++r.drop q=m (i+1):=by rw [a7,eF,hd]
   have hdl:(r.drop q).length=r.length-q:=eK;refine s_reg λK hK=>l_autoS TY_ok rfl (l_op (.v (.slice (cutA A c2 q) (r.length-q) (c2-q))) trivial rfl rfl rfl (run_cutLo hq hc2 hA rfl rfl rfl) (l_autoS TY_ok rfl (s_end (hK _ ?_))));refine s_reg λK hK=>l_autoS TY_ok rfl (l_num 6 ((f+q:Nat):Int) rfl (addI f q (by omega)) (s_end (hK _ ?_)));refine s_auto TY_ok rfl ?_;refine s_ifD (((f+q:Nat):Int)=(k.n:Int)) rfl (λhe=>?_) (λhne=>?_)
   ·have h2:=hfl (by omega)
    refine s_reg λK hK=>l_autoS TY_ok rfl (l_callV (own:=k.R gh gb o c') (R':=[]) [atG gh,atG gb] rfl rfl rfl hk.own rfl rfl rfl (λ_ _=>rfl) (hk.tk hI.ob h2.len) (λw h _=>h.1.1) λ_=>l_R (k.R gh gb (fK k.s o c') c') rfl (l_N hK rfl ?_));refine s_autoE TY_ok rfl ?_;exact k_next (cutA A c2 q,c2-q,r.drop q,0,fK k.s o c',c') ⟨_,hd',h2⟩ (by show(r.drop q).length<r.length;omega) ⟨⟨congrArg (λx:Nat=>some (SV.v (.slice (cutA A c2 q) x (c2-q)))) hdl.symm,rfl,rfl,rfl,rfl,rfl,rfl,rfl,trivial⟩,trivial,.refl _,λ_ h _=>⟨h.2.1,h.2.2.part hq⟩,λ_ h=>trivial⟩
   ·refine s_skip ?_
    exact k_next (cutA A c2 q,c2-q,r.drop q,f+q,o,c') ⟨_,hd',hpt (by omega)⟩ (by show(r.drop q).length<r.length;omega) ⟨⟨congrArg (λx:Nat=>some (SV.v (.slice (cutA A c2 q) x (c2-q)))) hdl.symm,rfl,rfl,rfl,rfl,rfl,rfl,rfl,trivial⟩,trivial,.refl _,λ_ h _=>⟨h.1,h.2.part hq⟩,λ_ h=>h⟩
  ·obtain rfl:r=[]:=List.eq_nil_of_length_eq_zero (by omega)
   rw [bJ] at hd;subst hd;refine s_exit (k_pass (k_pass (k_out (hK3 _ ?_))));refine s_autoE TY_ok rfl ?_;exact k_next (i+1,f,o,c) ⟨hlt,hI⟩ (by show ss.length-(i+1)<ss.length-i;omega) ⟨⟨congrArg (λx=>some (SV.v (.int .i64 x))) (addI i 1 (by omega)),rfl,rfl,rfl,rfl,rfl,rfl,trivial⟩,trivial,.refl _,λ_ h _=>h.1,λ_ h=>h⟩
 ·obtain rfl:i=ss.length:=by omega
  obtain⟨a,j,e1,e2,e3⟩:=hI.so
  have hM:m ss.length=(ss.map Seg.l).flatten:=by show((ss.take ss.length).map Seg.l).flatten=_;rw [gN]
  have hf:(ss.map Seg.l).flatten.length%k.n=f:=by
   rw [<-hM,e1,aC,aY,hI.len,e2,cA (rJ hI.lt),lK,Nat.add_mul_mod_self_right,aW hI.lt]
  have hend:fD k.s k.n o (c.take f++dW k.n f (8*((m ss.length).length%18446744073709551616)))=fD k.s k.n o0 ((ss.map Seg.l).flatten++dW k.n ((ss.map Seg.l).flatten.length%k.n) (8*(ss.map Seg.l).flatten.length)):=by
   rw [sF,hf,e3,uT (by omega) e2,<-e1,hM]
  refine s_exit (k_pass (k_pass (k_out (hK1 _ ?_))));refine s_lit (l_autoS TY_ok rfl (l_callA (own:=k.R gh gb o c) (R':=[]) [.slice (some ⟨gb,0,none⟩) k.n k.n,.int .i64 (f:Int),sz ss.length,k.take gh gb] rfl rfl rfl own_end rfl rfl (λ_ _=>rfl) (end_S hk hI.ob hI.len hI.lt) (λw h _=>h.1) λb'=>l_R (k.R gh gb (fD k.s k.n o0 ((ss.map Seg.l).flatten++dW k.n ((ss.map Seg.l).flatten.length%k.n) (8*(ss.map Seg.l).flatten.length))) b'.1) (by rw [<-hend];rfl) (l_E rfl ?_)));exact k_ret TY_ok b' rfl (by decide) rfl rfl rfl (λ_ _ _=>trivial) λ_ _=>trivial
end Go.Proofs.YtlhlkofpjhpaoaaGreatDoor
namespace Nums
def pf(D:List UInt8)(p:Nat->Bool):List UInt8:=(List.range D.length).map λm=>if p m then D[m]! else 0
theorem tU(D:List UInt8)(p:Nat->Bool):(pf D p).length=D.length:=by simp [pf]
theorem mM{D:List UInt8}{p q:Nat->Bool}(h:∀m,m<D.length->p m=q m):pf D p=pf D q:=by
 apply dG (by simp [pf])
 intro i h1 h2
 have hi:i<D.length:=by simpa [pf] using h1
 simp [pf,h i hi]
theorem tT{D:List UInt8}{p q:Nat->Bool}{k:Nat}(h:∀m,m<D.length->q m=(p m||decide (m=k))):(pf D p).set k D[k]! = pf D q:=by
 apply dG (by simp [pf])
 intro i h1 h2
 have hi:i<D.length:=by simpa [pf] using h2
 rw [List.getElem_set]
 by_cases e:k=i
 ·subst e
  simp [pf,h k hi]
 ·rw [if_neg e]
  have e2:decide (i=k)=false:=decide_eq_false (λh=>e h.symm)
  simp [pf,h i hi,e2]
theorem tV{D:List UInt8}{p:Nat->Bool}(h:∀m,m<D.length->p m=true):pf D p=D:=by
 apply dG (by simp [pf])
 intro i h1 h2
 simp [pf,h i h2,h2]
theorem rW{D:List UInt8}{p:Nat->Bool}(h:∀m,m<D.length->p m=false):pf D p=aA D.length 0:=by
 apply dG (by simp [pf])
 intro i h1 h2
 have hi:i<D.length:=by simpa [pf] using h1
 simp [pf,h i hi]
theorem flat_get{n:Nat}(f:Nat->List UInt8)(hf:∀x,(f x).length=n):∀(l:List Nat) {i j:Nat},i<l.length->j<n->((l.map f).flatten)[n*i+j]! = (f l[i]!)[j]!
 | [],i,_,h,_=>absurd h (by simp)
 | x::l,0,j,_,hj=>by
  rw [bP,l7,lJ,aX]
  have h1:j<(f x).length:=by rw [hf];exact hj
  rw [getElem!_pos (f x++(l.map f).flatten) j (by rw [aC];omega),List.getElem_append_left h1];exact(getElem!_pos (f x) j h1).symm
 | x::l,i+1,j,h,hj=>by
  have ih:=flat_get f hf l (i:=i) (j:=j) (by simpa using h) hj
  have e:((x::l).map f).flatten=f x++(l.map f).flatten:=by rw [bP,l7]
  have e2:(x::l)[i+1]! = l[i]!:=rfl;rw [e2,<-ih,e];have hx:=hf x
  have hi:n*(i+1)+j=(f x).length+(n*i+j):=by rw [hx,kP];omega
  rw [hi]
  by_cases hb:n*i+j<(l.map f).flatten.length
  ·rw [getElem!_pos (l.map f).flatten _ hb,getElem!_pos (f x++(l.map f).flatten) _ (by rw [aC];omega),List.getElem_append_right (by omega)]
   congr 1
   omega
  ·rw [getElem!_neg (l.map f).flatten _ hb,getElem!_neg (f x++(l.map f).flatten) _ (by rw [aC];omega)]
theorem j9{n:Nat}(f:Nat->List UInt8)(hf:∀x,(f x).length=n):∀(l:List Nat),((l.map f).flatten).length=n*l.length
 | []=>rfl
 | x::l=>by rw [bP,l7,aC,hf,j9 f hf l,bB,kP];omega
theorem j6(s:Sha)(x:Nat):(iD s x).length=s.w/8:=by
 unfold iD
 rw [fI,b9]
end Nums
namespace Go.Proofs.YtlhlkofpjhpaoaaGreatDoor
open Go.RowKit Go.IntWalk Nums
theorem layw_get{s:Sha}{x j:Nat}(h:j<s.w/8):((iD s x)[s.w/8-1-j]!).toNat=x/256^j%256:=by
 have hl:(Nums.bytes (s.w/8) x).length=s.w/8:=b9 _ _
 have e:(iD s x)[s.w/8-1-j]! = (Nums.bytes (s.w/8) x)[j]!:=by
  unfold iD
  rw [getElem!_pos _ _ (by rw [fI,hl];omega),List.getElem_reverse,getElem!_pos _ j (by rw [hl];exact h)]
  congr 1
  rw [hl]
  omega
 rw [e,bytes_get _ _ h]
theorem size_b64(cs:Array Value)(h:cs.size=64):(Tryz.prog.info? 74).map (·.size)=some cs.size:=by
 rw [h]
 kernel_rfl
def z64b:List UInt8:=aA 64 0
theorem zb64:(Tryz.prog.info? 74).bind (λi=>i.zero.map (·.cells))=some (By z64b).toArray:=by kernel_rfl
structure LY(w wr:World)(cs:Array Value)(m:List UInt8):Prop where
  b0:Blk wr w.heap.size 217 cs
  b1:Blk wr (w.heap.size+1) 74 (By z64b).toArray
  b2:Blk wr (w.heap.size+1+1) 74 (By m).toArray
  be:Below w.heap.size w wr
theorem LY.set{w wr:World}{cs:Array Value}{m:List UInt8}(h:LY w wr cs m)(k:Nat)(x:UInt8):LY w (wr.setCell ⟨w.heap.size+1+1,k,none⟩ (.int .u8 (x.toNat:Int))) cs (m.set k x) where
 b0:=h.b0.far (by show w.heap.size≠w.heap.size+1+1;omega) _
 b1:=h.b1.far (by show w.heap.size+1≠w.heap.size+1+1;omega) _
 b2:=by
  have h4:=h.b2.set k (.int .u8 (x.toNat:Int));rw [By_set] at h4;exact h4
 be:=h.be.setCell (by show w.heap.size<=w.heap.size+1+1;omega) _
theorem lay512_f{l:List Nat}(hl:l.length=8)(hw:∀x∈l,x<18446744073709551616)(w:World) :
  Calls Tryz.prog 135 #[.agg (Us l).toArray] w λe w'=>e = .returned (.agg (By (l.map (iD dC)).flatten).toArray)/\Below w.heap.size w w':=by
 have hD:=j9 (iD dC) (n:=8) (λx=>j6 dC x) l;rw [hl] at hD
 have hg:∀i j,i<8->j<8->(((l.map (iD dC)).flatten)[8*i+7-j]!).toNat=l[i]! / 256^j%256:=λi j hi hj=>by
  have h1:=flat_get (iD dC) (n:=8) (λx=>j6 dC x) l (i:=i) (j:=7-j) (by omega) (by omega);rw [show 8*i+7-j=8*i+(7-j) by omega,h1];exact layw_get (s:=dC) (j:=j) hj
 have hzs:(Us l).toArray.size=8:=by rw [aV,Us_len,hl]
 have hix:∀i,i<8->∀w1,(Instr.index 217 (.agg (Us l).toArray) (.int .i64 ((i:Nat):Int))).run Tryz.prog w1 = .ok (.int .u64 (l[i]! : Nat)) w1:=λi hi w1=>by
  have h0:(Us l).toArray[i]?=some (.int .u64 (l[i]! : Nat)):=Us_at (by omega)
  have h1:((i:Nat):Int)<8:=by omega
  have h2:(0:Int)<=(i:Nat):=by omega
  generalize l[i]! = c at *;generalize (Us l).toArray=cs at *
  unfold Instr.index Go.part
  go_simp
  obtain⟨_,h⟩:=Array.getElem?_eq_some_iff.1 h0;exact h
 have hwl:∀i,i<8->l[i]! < 18446744073709551616:=λi hi=>by
  rw [getElem!_pos l i (by omega)];exact hw _ (List.getElem_mem _)
 generalize (l.map (iD dC)).flatten=D at *;generalize (Us l).toArray=cs at *
 go_enter Tryz.func135,Tryz.ntmps135
 refine wp_seq_k λK hK=>?_;refine wp_region_lit ?_;refine wpl_box cs rfl rfl rfl ?_;refine wpl_alloc (zs:=(By z64b).toArray) rfl rfl zb64 ?_;refine wpl_nil ?_
 go_simp
 refine hK _ _ ?_;clear hK K;refine wp_seq_k λK hK=>?_;refine wp_region_lit ?_;refine wpl_alloc (zs:=(By z64b).toArray) rfl rfl zb64 ?_;refine wpl_nil ?_
 go_simp
 refine hK _ _ ?_;clear hK K;refine wp_at (λW=>LY w W cs z64b) ⟨blk3_0 w _ _ _ _,blk3_1 w _ _ _ _,blk3_2 w _ _ _ _,(((Below.refl _ _).alloc (aH _) _).alloc (by simp) _).alloc (by simp;omega) _⟩ ?_
 intro W hW
 have k0:=hW.b0;have HW:=dL hW;clear hW
 go_wp2_with (refine wpList_load_row rfl 217 _ rfl w.heap.size rfl 217 cs (0,0) _ k0 Tryz.underlying217 rfl (size_w8 _ hzs) ?_)
 clear k0
 go_loopw [8] (λi wr=>∃t:Nat,t<=8/\i = .int .i64 t/\LY w wr cs (pf D λm=>decide (m<8*t))) (λi _=>8-(intOf i).toNat)
 case atStart =>
  refine⟨0,by omega,rfl,?_⟩;rw [rW (λm _=>decide_eq_false (by omega)),hD];exact HW.out
 case round =>
  clear HW;obtain⟨t,ht,rfl,hS⟩:=hrel
  by_cases htl:t<8
  ·have hi:=hix t htl
   have hx:=hwl t htl;have hby:=λj hj=>hg t j htl hj;generalize l[t]! = x at *
   have g4:(0:Int)<=(t:Int):=by omega
   have HS:=dL hS;clear hS hg hix hwl
   go_wp2
   go_loopw [12,5] (λj v wq=>∃n:Nat,n<=8/\j = .int .i64 n/\v = .int .u64 ((x/256^n:Nat):Int)/\LY w wq cs (pf D λm=>decide (m<8*t\/8*t+8-n<=m/\m<8*t+8))) (λj _ _=>8-(intOf j).toNat)
   case atStart =>
    refine⟨0,by omega,rfl,by rw [kV,pZ],?_⟩;rw [mM (q:=λm=>decide (m<8*t)) (λm _=>decide_eq_decide.2 (by omega))];exact HS.out
   case round =>
    clear HS;obtain⟨n,hn,rfl,rfl,hS⟩:=hrel
    by_cases hnl:n<8
    ·have hN:=hS.set (8*t+7-n) D[8*t+7-n]!
     rw [tT (q:=λm=>decide (m<8*t\/8*t+8-(n+1)<=m/\m<8*t+8)) (λm _=>by rw [<-Bool.decide_or];exact decide_eq_decide.2 (by omega))] at hN;have hb:=hby n hnl
     have hdiv:x/256^(n+1)=x/256^n/256:=by rw [cG,jN]
     have hle:x/256^n<18446744073709551616:=Nat.lt_of_le_of_lt (Nat.div_le_self _ _) hx;have c2:=(hS.b2.cell (8*t+7-n)).trans (By_get (by rw [tU,hD];omega));have f2:=hS.b2.free (8*t+7-n);generalize x/256^n=y at *
     have q4:IntKind.u8.wrap (y:Int)=((D[8*t+7-n]!).toNat:Int):=by
      rw [oB,hb]
      omega
     have g5:(0:Int)<=(n:Int):=by omega
     have q5:(y:Int)/256=((y/256:Nat):Int):=by omega
     have HN:=dL (eN hN hdiv);clear hS hN hdiv hb hby hi;generalize (D[8*t+7-n]!).toNat=v at *;generalize ((pf D λm=>decide (m<8*t\/8*t+8-n<=m/\m<8*t+8))[8*t+7-n]!).toNat=old at *;generalize y/256=y2 at *
     go_wp2
     go_roundw
     case rel =>
      obtain⟨hN,hdiv⟩:=HN.out;refine⟨n+1,by omega,by go_num,by rw [hdiv],hN⟩
     case measure=>simp [intOf];omega
    ·obtain rfl:n=8:=by omega
     rw [mM (q:=λm=>decide (m<8*(t+1))) (λm _=>decide_eq_decide.2 (by omega))] at hS;have HS:=dL hS;clear hS
     go_wp2
     go_roundw
     case rel=>exact⟨t+1,by omega,by go_num,HS.out⟩
     case measure=>simp [intOf];omega
  ·obtain rfl:t=8:=by omega
   rw [tV (λm hm=>decide_eq_true (by omega))] at hS;obtain⟨b0,b1,b2,be⟩:=hS
   have hz:(By D).toArray.size=64:=by rw [aV,By_len,hD]
   clear b0
   go_wp2_with (first
    | (refine wpList_load_row rfl 74 _ rfl (w.heap.size+1+1) rfl 74 (By D).toArray (0,0) _ b2 Tryz.underlying74 rfl (size_b64 _ hz) ?_)
    | (refine wpList_store_row rfl 74 _ _ rfl (w.heap.size+1) rfl (By D).toArray rfl 74 _ b1 (size_b64 _ hz) (by rw [hz];rfl) (By_one _) ?_))
   refine bodyPost_ret (results_cell_row rfl _ _ (w.heap.size+1) 74 (By D).toArray (0,0) _ rfl (b1.row _) Tryz.underlying74 rfl (size_b64 _ hz)) rfl ⟨rfl,?_⟩;exact below_setRow be (by omega) _
end Go.Proofs.YtlhlkofpjhpaoaaGreatDoor
namespace Go.Proofs.YtlhlkofpjhpaoaaGreatDoor
open Go.RowKit Go.IntWalk
theorem own_join:Own 70:=λ_ _=>by go_simp
theorem join_S{A:Option Addr}{c:Nat}(ss:List Seg)(ht:(ss.map Seg.l).flatten.length<=281474976710656):Spec 70 [.slice A ss.length c] [] (λw=>Rd 1 eSeg A c ss w/\∀s∈ss,s.rd w)
  { ret:=λg:Nat=>.v (.slice (some ⟨g,0,none⟩) (ss.map Seg.l).flatten.length (ss.map Seg.l).flatten.length),n:=λg=>Rd 1 eB (some ⟨g,0,none⟩) (ss.map Seg.l).flatten.length (ss.map Seg.l).flatten }:=λw S X hS _ hF=>by
 obtain⟨h1,h2⟩:=hF.now;have hj:=join_any A (ss.map Seg.l) c w.heap.size w (parts_of h1 h2) (aH _) (by rw [cH];exact h1.1) h1.2.1 ht;rw [cH] at hj;refine hj.mono ?_
 rintro e w' ⟨he,ho,hb⟩
 refine⟨w.heap.size,S,he,trivial,Chg.of_up hb,hS.keep λk hk=>hb.block k (hS.lt k hk),λ_ h _=>h,λ_ _=>trivial,?_⟩;have h3:(OwnS w.heap.size 5 1 eB (some ⟨w.heap.size,0,none⟩) (ss.map Seg.l).flatten.length (ss.map Seg.l).flatten).holds w' λj=>(some (⟨w.heap.size,0,none⟩:Addr)).map (·.block)=some j:=⟨okF_B _,by rw [flat_B];exact ho,λ_=>Iff.rfl⟩;have h4:=OwnS.rd h3
 intro w2 hw2
 refine h4.keep hw2.size λb' e hlt=>hw2.block b' hlt ?_;simp only [bQ,aT] at e;subst e
 rintro(h5|h5)
 ·exact fU _ h5
 ·exact fU _ (hS.lt _ h5)
section
variable{f:FuncId}{args:List Value}{F:World->Prop}{l:List UInt8}
theorem Spec.made(h:∀w,F w->Calls Tryz.prog f args.toArray w (Made w l)):Spec f args [] F
  { ret:=λg:Nat=>.v (.slice (some ⟨g,0,none⟩) l.length l.length),n:=λg=>Rd 1 eB (some ⟨g,0,none⟩) l.length l }:=λw S X hS _ hF=>by
 refine(h w hF.now).mono ?_
 rintro e w' ⟨g,he,ho,hb⟩
 refine⟨g,S,he,trivial,Chg.of_up hb,hS.keep λk hk=>hb.block k (hS.lt k hk),λ_ h _=>h,λ_ _=>trivial,?_⟩;have h3:(OwnS w.heap.size 5 1 eB (some ⟨g,0,none⟩) l.length l).holds w' λj=>(some (⟨g,0,none⟩:Addr)).map (·.block)=some j:=⟨okF_B _,by rw [flat_B];exact ho,λ_=>Iff.rfl⟩;have h4:=OwnS.rd h3;have h6:=(OwnS.inb h3 _ rfl).1
 intro w2 hw2
 refine h4.keep hw2.size λb' e hlt=>hw2.block b' hlt ?_;simp only [bQ,aT] at e;subst e
 rintro(h5|h5)
 ·exact fU _ (bS h5 h6)
 ·exact fU _ (bS (hS.lt _ h5) h6)
end
section
variable{b:Base}{G:Nat->Nat}{S:Nat->Prop}{L:List LV}{R:List Res}{F M:World->Prop}{w:World}{g:Nat}{t:TypeId}{ps:List Pt}
theorem StW.freeO(h:StW b G S L R F M w){i:Nat}(hi:R[i]?=some (ObjS g t ps)):∃S',StW b G S' L (R.eraseIdx i) (λw=>ObjF g t ps w/\F w) M w:=by
 obtain⟨S1,S2,⟨h1,h1'⟩,h2,h3,h4⟩:=h.let hi;refine⟨S2,h4.and (p:=ObjF g t ps) λw' hw=>⟨(hw.block g h1.1.lt λhx=>?_).trans h1.1,h1.2⟩⟩
 rcases hx with hx|hx|⟨j,hj,e⟩
 ·exact(h.old g hx).2 (h.mine g (.inl ((h3 g).2 (.inl ((h1' g).2 rfl)))) (h.old g hx).1)
 ·exact h2 g ((h1' g).2 rfl) hx
 ·exact h.sep j hj ((h3 _).2 (.inl ((h1' _).2 e)))
variable{P:Program}{Q:Exit->Act->World->Prop}{N:Nat}{E:SE}
theorem s_freeO{x:Code}(i:Nat)(hi:R[i]?=some (ObjS g t ps))(h:cS P b x Q N ⟨E,L,R.eraseIdx i,λw=>ObjF g t ps w/\F w,M⟩):cS P b x Q N ⟨E,L,R,F,M⟩:=λa w ⟨G,S,h1,h2,h3⟩=>by
 obtain⟨S',h4⟩:=h3.freeO hi;exact h a w ⟨G,S',h1,h2,h4⟩
end
theorem obj_rd{g n:Nat}{t:TypeId}{l:List UInt8}{w:World}(h:ObjF g t [.agg n (By l).toArray] w)(hn:n<=9223372036854775807):Rd 1 eB (some ⟨g,0,none⟩) n l w:=by
 have h1:l.length=n:=by
  have:=(h.2 _ List.mem_cons_self).1
  rwa [aV,By_len] at this
 refine⟨mX h1,hn,λh=>(by cases h),okF_B l,λ_=>⟨g,0,rfl,h.1.lt,λi x hi j v hj=>?_⟩⟩;have hB:Blk w g t (By l).toArray:=h.1;rw [hB.cell]
 cases j with
 | zero =>
  have e:v = .int .u8 (x.toNat:Int):=(bG ((show(eB x).cl[0]?=some (.int .u8 (x.toNat:Int)) from rfl).symm.trans hj)).symm;obtain⟨h2,h3⟩:=List.getElem?_eq_some_iff.1 hi;have h4:=By_at? h2;rw [getElem!_pos l i h2,h3] at h4;rw [e]
  simpa using h4
 | succ j =>
  have:(eB x).cl[j+1]?=none:=rfl;rw [this] at hj
  cases hj
theorem runO_allP{P:Program}{N:Nat}{E:SE}{o:Oper}{x:Operand}{t e:TypeId}{g off n sz:Nat}(ho:o.op = .slice t x none none none)(ht:P.underlying t=some (.array n e))(he:(P.info? e).map (·.size)=some sz)(hx:evS E x=some (.v (.pointer (some ⟨g,off,none⟩)))) :
  ∀(G:Nat->Nat) (a:Act) (w:World),Fr N (denE G E) a->(execOp a.eval o).run P w = .ok (.value ((SV.v (.slice (some ⟨g,off,none⟩) n n)).den G)) w:=λG a w ha=>by
 have h1:a.eval x = .pointer (some ⟨g,off,none⟩):=ha.eval (evS_ok hx);have h5:=run_sizeOf he w
 unfold execOp
 simp only [ho];generalize a.eval=ρ at *;simp only [Option.map,h1]
 show _=Result.ok (Next.value (.slice (some ⟨g,off,none⟩) n n)) w
 simp [Instr.sliceAt,Instr.sureAddr,run_underlying ht,Instr.sliceBounds,h5,aF,cU]
theorem own_lay:Own 90:=λ_ _=>by go_simp
theorem own_wnum:Own 64:=λ_ _=>by go_simp
theorem lay_S(v:Nat)(hv:v<18446744073709551616):Spec 90 [.int .u64 (v:Int)] [] (λ_=>True) (one (.q (eY 8 (be8 v)))) :=
 Spec.pure (eY_ok (be8_len v)).1 λw _=>lay_any v w hv
theorem wnum_S{A:Option Addr}{c:Nat}(l:List UInt8)(v:Nat)(hv:v<18446744073709551616)(hl:l.length+8<=281474976710656):Spec 64 [.slice A l.length c,.int .u64 (v:Int)] [] (Rd 1 eB A c l)
  { ret:=λg:Nat=>.v (.slice (some ⟨g,0,none⟩) (l++be8 v).length (l++be8 v).length),n:=λg=>Rd 1 eB (some ⟨g,0,none⟩) (l++be8 v).length (l++be8 v) }:=by
 refine spec_S [.c (.v (.slice A l.length c)),.c (.v (.int .u64 (v:Int)))] 12 Tryz.func64 rfl (by rw [Tryz.ntmps64];rfl) (two_ok trivial trivial) λb=>?_;refine s_auto TY_ok rfl ?_;refine s_regA TY_ok rfl λK1 hK1=>?_;refine l_call0 [.int .u64 (v:Int)] rfl rfl rfl own_lay rfl rfl (λ_ _=>rfl) (lay_S v hv) (λ_ _ _=>trivial) λ_=>?_;refine l_autoS TY_ok rfl ?_;refine s_end (k_give 5 rfl (E':=[(0,.v (.slice A l.length c))]) ⟨rfl,trivial⟩ λg=>hK1 _ ?_);refine s_freeO 0 rfl ?_;refine s_regA TY_ok rfl λK2 hK2=>?_;refine l_op (.v (.slice (some ⟨g,0,none⟩) 8 8)) trivial rfl rfl rfl (runO_allP rfl Tryz.underlying179 rfl rfl) ?_;refine l_list TY_ok b.B.heap.size [⟨A,c,l⟩,⟨some ⟨g,0,none⟩,8,be8 v⟩] (fe:=eSeg) rfl rfl rfl rfl rfl (λ_=>rfl) rfl (by decide) (by decide) (okF_seg _) (aH _) λP=>?_;refine l_free 0 rfl ?_
 have e0:(List.map Seg.l [⟨A,c,l⟩,⟨some ⟨g,0,none⟩,8,be8 v⟩]).flatten=l++be8 v:=by simp
 have hj:=join_S (A:=P) (c:=2) [⟨A,c,l⟩,⟨some ⟨g,0,none⟩,8,be8 v⟩] (by rw [e0,aC,be8_len];exact hl);rw [e0] at hj
 refine l_call0 [.slice P 2 2] rfl rfl rfl own_join rfl rfl (λ_ _=>rfl) hj (λw h _=>⟨h.1,λs hs=>by
  rcases List.mem_cons.1 hs with rfl|hs
  ·exact h.2.2.2
  ·rw [aE.1 hs]
   exact obj_rd (n:=8) h.2.1 (aD rfl)⟩) λgb=>?_
 refine l_autoS TY_ok rfl ?_;refine s_end (hK2 _ ?_);exact s_ret (k_ret TY_ok gb rfl (by decide) rfl rfl rfl (λ_ _ _=>trivial) (λw h=>h.1))
end Go.Proofs.YtlhlkofpjhpaoaaGreatDoor
