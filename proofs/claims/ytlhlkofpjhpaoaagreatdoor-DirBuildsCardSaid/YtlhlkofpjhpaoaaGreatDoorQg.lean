import Derived.Test.YtlhlkofpjhpaoaaGreatDoorQf
import Derived.Test.YtlhlkofpjhpaoaaGreatDoorQb
import Derived.Test.YtlhlkofpjhpaoaaGreatDoorQd
import Derived.Laws.CopyOwn
import Derived.Maps.AppendAt
import Derived.ArgAppend
import Derived.Lib.Mul64
import Derived.StillTailTactics
set_option maxRecDepth 100000
set_option maxHeartbeats 2000000
open And renaming intro->eN
open Bool renaming and_eq_true->aK
open Go.Addr renaming add_mid->cU
open Go.IntKind renaming wrap_u64->a8,u8->dY,wrap_u32->pA
open Go.Lib renaming hid->dL,half_mul_le->p9
open Go.Obj renaming cells->gZ
open Go.Result renaming andThen_ok->aB
open Go.Sem renaming run_bind->aF,run_pure->aG
open Go.Value renaming int->cC
open Go.World renaming size_alloc->cY
open Int renaming eq_ofNat_of_zero_le->lV
open List renaming replicate->aA,length_append->aC,mem_singleton->aE,mem_cons->aJ,getElem?_eq_getElem->aP,size_toArray->aV,length_cons->bB,append_nil->bJ,length_replicate->bK,mem_map->bO,map_cons->bP,length_set->bR,eq_nil_of_length_eq_zero->bV,ext_getElem->dG,map_set->dR,take_append_drop->eF,length_reverse->fI,take_length->gN,map_nil->jO,flatten_cons->l7,flatten_append->nH,getElem_mem->oM,take_add_one->qQ
open Nat renaming le_of_ble_eq_true->aD,le_refl->aH,blt->aO,zero_le->aQ,mod_eq_of_lt->aW,zero_add->aX,lt_of_lt_of_le->bS,add_assoc->bW,pow_succ->cG,mod_lt->cI,mul_comm->c8,one_mul->gM,lt_of_le_of_lt->iN,div_div_eq_div_mul->jN,mod_add_mod->jV,and_two_pow_sub_one_eq_mod->kC,div_le_self->k7,add_mul_mod_self_left->mF,beq_refl->nW,pow_le_pow_right->o5,add_mul->sZ
open Prod.mk renaming injEq->cP
open UInt8 renaming ofNat->bD
namespace Go.Proofs.YtlhlkofpjhpaoaaGreatDoor
open Go.RowKit Go.IntWalk Nums
theorem u32_or(a b:Nat)(ha:a<4294967296)(hb:b<4294967296):bits .or .u32 (a:Int) (b:Int)=((a ||| b:Nat):Int):=u32_or_nat a b ha hb
theorem rot32_f(x n:Nat)(hx:x<4294967296)(h0:0<n)(hn:n<32)(w:World) :
  Calls Tryz.prog 126 #[.int .u32 (x:Int),.int .i64 (-(n:Int))] w λe w'=>e = .returned (.int .u32 ((jM 32 n x:Nat):Int))/\w'=w:=by
 have q1:IntKind.u64.wrap (-(n:Int))=((18446744073709551616-n:Nat):Int):=by
  rw [a8]
  omega
 have q2:bits .and .u64 ((18446744073709551616-n:Nat):Int) 31=((32-n:Nat):Int):=by
  have h:=u64_and_nat (18446744073709551616-n) 31 (by omega) (by omega);have e:(18446744073709551616-n) &&& 31=(18446744073709551616-n)%32:=kC _ 5;rw [e] at h
  have e2:(18446744073709551616-n)%32=32-n:=by omega
  rw [e2] at h;exact h
 obtain⟨e1,e2⟩:=rot_or 32 n x (by omega) hx
 have q3:IntKind.u32.wrap ((x:Int)*2^(32-n))=((x%2^n*2^(32-n):Nat):Int):=by
  rw [<-e1,pA]
  simp
 have q4:IntKind.u64.wrap (32-((32-n:Nat):Int))=(n:Int):=by
  rw [a8]
  omega
 have f1:((x:Int)/2^n)=((x/2^n:Nat):Int):=by simp
 have hm:x%2^n*2^(32-n)<4294967296:=by
  rw [<-e1];exact cI _ (by decide)
 have hd:x/2^n<4294967296:=iN (k7 _ _) hx
 have q5:bits .or .u32 ((x%2^n*2^(32-n):Nat):Int) ((x/2^n:Nat):Int)=((jM 32 n x:Nat):Int):=by
  rw [u32_or _ _ hm hd,nat_join (32-n) _ _ (Nat.mul_mod_left _ _) e2]
  unfold jM
  rw [Nat.add_comm]
 have g1:((32-n:Nat):Int)<=32:=by omega
 have g2:(n:Int)<=32:=by omega
 clear e1 e2 hm hd;generalize jM 32 n x=r at *;generalize x%2^n*2^(32-n)=m at *;generalize x/2^n=d at *;generalize hs:32-n=s at *;generalize 18446744073709551616-n=u at *;clear hs
 go_enter Tryz.func126,Tryz.ntmps126
 go_wp2
 go_ret
 exact⟨rfl,rfl⟩
def Uw(l:List Nat):List Value:=l.map λx:Nat=>.int .u32 (x:Int)
theorem Uw_len(l:List Nat):(Uw l).length=l.length:=by simp [Uw]
theorem Uw_one(l:List Nat):∀u∈Uw l,u.oneCell'=true:=by
 intro u hu
 obtain⟨x,_,rfl⟩:=bO.1 hu
 rfl
theorem Uw_at{l:List Nat}{j:Nat}(h:j<l.length):(Uw l).toArray[j]?=some (.int .u32 (l[j]! : Nat)):=by
 simp [Uw,h]
theorem Uw_set(l:List Nat)(k x:Nat):(Uw l).toArray.setIfInBounds k (.int .u32 (x:Int))=(Uw (l.set k x)).toArray:=by
 simp [Uw,dR]
theorem orV(i x y:Nat)(hx:x%2^i=0)(hy:y<2^i)(h1:x<4294967296)(h2:y<4294967296):bits .or .u32 (x:Int) (y:Int)=((x+y:Nat):Int):=by
 rw [u32_or_nat x y h1 h2,nat_join i x y hx hy]
end Go.Proofs.YtlhlkofpjhpaoaaGreatDoor
namespace Nums
def ws(n:Nat):List Nat:=[n%18446744073709551616,n/18446744073709551616%18446744073709551616,n/340282366920938463463374607431768211456%18446744073709551616,n/6277101735386680763835789423207666416102355444464034512896%18446744073709551616]
def v4(a b c d:Nat):Nat:=a+18446744073709551616*b+340282366920938463463374607431768211456*c+6277101735386680763835789423207666416102355444464034512896*d
theorem jX(n:Nat):(ws n).length=4:=rfl
theorem s8{a b c d:Nat}(h0:a<18446744073709551616)(h1:b<18446744073709551616)(h2:c<18446744073709551616)(h3:d<18446744073709551616):ws (v4 a b c d)=[a,b,c,d]:=by
 unfold ws v4
 have e0:(a+18446744073709551616*b+340282366920938463463374607431768211456*c+6277101735386680763835789423207666416102355444464034512896*d)%18446744073709551616=a:=by omega
 have e1:(a+18446744073709551616*b+340282366920938463463374607431768211456*c+6277101735386680763835789423207666416102355444464034512896*d)/18446744073709551616%18446744073709551616=b:=by omega
 have e2:(a+18446744073709551616*b+340282366920938463463374607431768211456*c+6277101735386680763835789423207666416102355444464034512896*d)/340282366920938463463374607431768211456%18446744073709551616=c:=by omega
 have e3:(a+18446744073709551616*b+340282366920938463463374607431768211456*c+6277101735386680763835789423207666416102355444464034512896*d)/6277101735386680763835789423207666416102355444464034512896%18446744073709551616=d:=by omega
 rw [e0,e1,e2,e3]
theorem mZ{n:Nat}(h:n<115792089237316195423570985008687907853269984665640564039457584007913129639936) :
  ∃a b c d,n=v4 a b c d/\ws n=[a,b,c,d]/\a<18446744073709551616/\b<18446744073709551616/\c<18446744073709551616/\d<18446744073709551616:=by
 refine⟨_,_,_,_,?_,rfl,cI _ (by decide),cI _ (by decide),cI _ (by decide),cI _ (by decide)⟩
 unfold v4
 omega
theorem wJ(n:Nat):∀y∈ws n,y<18446744073709551616:=by
 intro y hy
 simp only [ws,aJ,List.not_mem_nil,or_false] at hy
 rcases hy with rfl|rfl|rfl|rfl<;>exact cI _ (by decide)
theorem j3(n:Nat){k:Nat}(hk:k<4):(ws n)[k]! < 18446744073709551616 :=
 wJ n _ (by rw [getElem!_pos (ws n) k hk];exact oM _)
def mxl(f:Nat->Nat)(l:List Nat)(k:Nat):List Nat:=(List.range l.length).map λj=>if j<k then f j else l[j]!
theorem gJ(f:Nat->Nat)(l:List Nat)(k:Nat):(mxl f l k).length=l.length:=by simp [mxl]
theorem mN(f:Nat->Nat)(l:List Nat):mxl f l 0=l:=by
 apply dG (by simp [mxl])
 intro i h1 h2
 simp [mxl,h2]
theorem rY(f:Nat->Nat)(l:List Nat){k:Nat}(h:k<l.length):(mxl f l k)[k]! = l[k]!:=by
 rw [getElem!_pos _ k (by rw [gJ];exact h)]
 simp [mxl]
theorem kM(f:Nat->Nat)(l:List Nat){k:Nat}:(mxl f l k).set k (f k)=mxl f l (k+1):=by
 apply dG (by simp [mxl])
 intro j h1 h2
 rw [List.getElem_set];simp only [mxl,List.getElem_map,List.getElem_range]
 by_cases hjk:k=j
 ·subst hjk
  simp
 ·rw [if_neg hjk]
  by_cases hlt:j<k
  ·rw [if_pos hlt,if_pos (by omega)]
  ·rw [if_neg hlt,if_neg (by omega)]
def sup(a b:List Nat):Nat->Nat
  | 0=>0
  | k+1=>(a[k]! + b[k]! + sup a b k)/18446744073709551616
def swd(a b:List Nat)(k:Nat):Nat:=(a[k]! + b[k]! + sup a b k)%18446744073709551616
theorem sup_le{a b:List Nat}(ha:∀k,k<4->a[k]! < 18446744073709551616)(hb:∀k,k<4->b[k]! < 18446744073709551616):∀k,k<=4->sup a b k<=1
 | 0,_=>aQ _
 | k+1,hk=>by
  have:=sup_le ha hb k (by omega);have:=ha k (by omega);have:=hb k (by omega)
  show(a[k]! + b[k]! + sup a b k)/18446744073709551616<=1
  omega
theorem vU{A B:Nat}(hA:A<115792089237316195423570985008687907853269984665640564039457584007913129639936)(hB:B<115792089237316195423570985008687907853269984665640564039457584007913129639936) :
  mxl (swd (ws A) (ws B)) (ws A) 4=ws ((A+B)%115792089237316195423570985008687907853269984665640564039457584007913129639936):=by
 obtain⟨a0,a1,a2,a3,eA,wA,p0,p1,p2,p3⟩:=mZ hA;obtain⟨b0,b1,b2,b3,eB,wB,q0,q1,q2,q3⟩:=mZ hB;rw [wA,wB];have e:mxl (swd [a0,a1,a2,a3] [b0,b1,b2,b3]) [a0,a1,a2,a3] 4=[swd [a0,a1,a2,a3] [b0,b1,b2,b3] 0,swd [a0,a1,a2,a3] [b0,b1,b2,b3] 1,swd [a0,a1,a2,a3] [b0,b1,b2,b3] 2,swd [a0,a1,a2,a3] [b0,b1,b2,b3] 3]:=rfl;have g0:sup [a0,a1,a2,a3] [b0,b1,b2,b3] 0=0:=rfl;have g1:sup [a0,a1,a2,a3] [b0,b1,b2,b3] 1=(a0+b0+sup [a0,a1,a2,a3] [b0,b1,b2,b3] 0)/18446744073709551616:=rfl;have g2:sup [a0,a1,a2,a3] [b0,b1,b2,b3] 2=(a1+b1+sup [a0,a1,a2,a3] [b0,b1,b2,b3] 1)/18446744073709551616:=rfl;have g3:sup [a0,a1,a2,a3] [b0,b1,b2,b3] 3=(a2+b2+sup [a0,a1,a2,a3] [b0,b1,b2,b3] 2)/18446744073709551616:=rfl;have s0:swd [a0,a1,a2,a3] [b0,b1,b2,b3] 0=(a0+b0+sup [a0,a1,a2,a3] [b0,b1,b2,b3] 0)%18446744073709551616:=rfl;have s1:swd [a0,a1,a2,a3] [b0,b1,b2,b3] 1=(a1+b1+sup [a0,a1,a2,a3] [b0,b1,b2,b3] 1)%18446744073709551616:=rfl;have s2:swd [a0,a1,a2,a3] [b0,b1,b2,b3] 2=(a2+b2+sup [a0,a1,a2,a3] [b0,b1,b2,b3] 2)%18446744073709551616:=rfl;have s3:swd [a0,a1,a2,a3] [b0,b1,b2,b3] 3=(a3+b3+sup [a0,a1,a2,a3] [b0,b1,b2,b3] 3)%18446744073709551616:=rfl;rw [e];generalize swd [a0,a1,a2,a3] [b0,b1,b2,b3] 0=x0 at *;generalize swd [a0,a1,a2,a3] [b0,b1,b2,b3] 1=x1 at *;generalize swd [a0,a1,a2,a3] [b0,b1,b2,b3] 2=x2 at *;generalize swd [a0,a1,a2,a3] [b0,b1,b2,b3] 3=x3 at *;generalize sup [a0,a1,a2,a3] [b0,b1,b2,b3] 0=c0 at *;generalize sup [a0,a1,a2,a3] [b0,b1,b2,b3] 1=c1 at *;generalize sup [a0,a1,a2,a3] [b0,b1,b2,b3] 2=c2 at *;generalize sup [a0,a1,a2,a3] [b0,b1,b2,b3] 3=c3 at *
 have hx:(A+B)%115792089237316195423570985008687907853269984665640564039457584007913129639936=v4 x0 x1 x2 x3:=by
  rw [eA,eB]
  unfold v4
  clear e wA wB hA hB eA eB
  omega
 rw [hx,s8 (by omega) (by omega) (by omega) (by omega)]
theorem nP:LL=7237005577332262213973186563042994240857116359379907606001950938285454250989:=rfl
theorem vW{v0 v1 v2 v3 t m0 m1 p1 r0 r1 r2 r3 l0 l1 l2 l3 V:Nat}(h0:v0<18446744073709551616)(h1:v1<18446744073709551616)(h2:v2<18446744073709551616)(h3:v3<1152921504606846976)(ht:t<34359738368)
 (hm0:m0=t*6346243789798364141)(hm1:m1=t*1503914060200516822)(hp1:p1=m1%18446744073709551616+m0/18446744073709551616)
 (hl0:l0=if v0<m0%18446744073709551616+0 then 1 else 0)(hr0:r0=(v0+18446744073709551616-m0%18446744073709551616-0)%18446744073709551616)
 (hl1:l1=if v1<p1%18446744073709551616+l0 then 1 else 0)(hr1:r1=(v1+18446744073709551616-p1%18446744073709551616-l0)%18446744073709551616)
 (hl2:l2=if v2<m1/18446744073709551616+p1/18446744073709551616+l1 then 1 else 0)(hr2:r2=(v2+18446744073709551616-(m1/18446744073709551616+p1/18446744073709551616)-l1)%18446744073709551616)
 (hl3:l3=if v3<0+l2 then 1 else 0)(hr3:r3=(v3+18446744073709551616-0-l2)%18446744073709551616)
 (hV:V=v4 v0 v1 v2 v3+7237005577332262213973186563042994240829374041602535252466099000494570602496*t) :
  (l3=0->v4 r0 r1 r2 r3=V%LL)/\(l3=1->(v4 r0 r1 r2 r3+LL)%115792089237316195423570985008687907853269984665640564039457584007913129639936=V%LL)/\l3<=1/\l0<=1/\l1<=1/\l2<=1 /\
   r0<18446744073709551616/\r1<18446744073709551616/\r2<18446744073709551616/\r3<18446744073709551616:=by
 have b0:l0<=1:=by rw [hl0];split<;>omega
 have b1:l1<=1:=by rw [hl1];split<;>omega
 have b2:l2<=1:=by rw [hl2];split<;>omega
 have b3:l3<=1:=by rw [hl3];split<;>omega
 have d0:r0+m0%18446744073709551616=v0+18446744073709551616*l0:=by rw [hr0,hl0];split<;>omega
 have d1:r1+p1%18446744073709551616+l0=v1+18446744073709551616*l1:=by rw [hr1,hl1];split<;>omega
 have hm:m1/18446744073709551616<17179869184:=by omega
 have hp:p1/18446744073709551616<2:=by omega
 have d2:r2+(m1/18446744073709551616+p1/18446744073709551616)+l1=v2+18446744073709551616*l2:=by rw [hr2,hl2];split<;>omega
 have d3:r3+l2=v3+18446744073709551616*l3:=by rw [hr3,hl3];split<;>omega
 have c0:r0<18446744073709551616:=by omega
 have c1:r1<18446744073709551616:=by omega
 have c2:r2<18446744073709551616:=by omega
 have c3:r3<18446744073709551616:=by omega
 clear hr0 hr1 hr2 hr3 hl0 hl1 hl2 hl3
 have key:v4 r0 r1 r2 r3+m0+18446744073709551616*m1=v4 v0 v1 v2 v3+115792089237316195423570985008687907853269984665640564039457584007913129639936*l3:=by
  unfold v4
  omega
 have hlow:v4 v0 v1 v2 v3<7237005577332262213973186563042994240829374041602535252466099000494570602496:=by
  unfold v4
  omega
 have hR:v4 r0 r1 r2 r3<115792089237316195423570985008687907853269984665640564039457584007913129639936:=by
  unfold v4
  omega
 clear d0 d1 d2 d3 hp1 hm hp;refine⟨λh=>?_,λh=>?_,b3,b0,b1,b2,c0,c1,c2,c3⟩
 ·have e:V=v4 r0 r1 r2 r3+LL*t:=by
   rw [hV,nP]
   omega
  rw [e,mF,aW];rw [nP]
  omega
 ·have hg:115792089237316195423570985008687907853269984665640564039457584007913129639936<=v4 r0 r1 r2 r3+LL:=by
   rw [nP]
   omega
  have e:V+LL=(v4 r0 r1 r2 r3+LL-115792089237316195423570985008687907853269984665640564039457584007913129639936)+LL*t:=by
   rw [hV,nP] at *
   omega
  have e2:V%LL=(V+LL)%LL:=by rw [Nat.add_mod_right]
  rw [e2,e,mF,Nat.mod_eq_sub_mod hg,aW,aW]
  ·rw [nP] at *
   omega
  ·rw [nP] at *
   omega
end Nums
namespace Go.Proofs.YtlhlkofpjhpaoaaGreatDoor
open Go.RowKit Go.IntWalk Nums
theorem Ct.row{f:FuncId}{qs:List SQ}{F:World->Prop}[Pst F]{r:RV}(h:Ct F f qs (one r)){w:World}(hF:F w):Calls Tryz.prog f (qs.map SQ.den).toArray w λe w'=>e = .returned r.den/\Below w.heap.size w w' :=
 (h.spec w (λ_=>False) (λ_=>False) (λ_ h=>h) (λ_ h=>h.elim) (Stb.of_pst hF λ_ _ h=>h.elim id id)).mono λ_ _ ⟨_,_,h1,_,h2,_⟩=>⟨h1,h2.up λ_ _ h=>h⟩
abbrev eW(n:Nat)(l:List Nat):SQ:=.p [.agg n (Us l).toArray]
abbrev eZ(n:Nat)(l:List Nat):SQ:=.p [.agg n (Uw l).toArray]
theorem eW_ok{l:List Nat}{n:Nat}(h:l.length=n):OkP [.agg n (Us l).toArray]:=λq hq=>by
 rw [aE.1 hq];exact⟨by rw [aV,Us_len,h],λv hv=>Us_one l v (by simpa using hv)⟩
theorem eZ_ok{l:List Nat}{n:Nat}(h:l.length=n):OkP [.agg n (Uw l).toArray]:=λq hq=>by
 rw [aE.1 hq];exact⟨by rw [aV,Uw_len,h],λv hv=>Uw_one l v (by simpa using hv)⟩
theorem Us_in{n j:Nat}{l:List Nat}(h:j<l.length):(catP [.agg n (Us l).toArray])[0+j]?=some (.int .u64 (l[j]! : Nat)):=by
 rw [aX];exact Us_at h
theorem Uw_in{n j:Nat}{l:List Nat}(h:j<l.length):(catP [.agg n (Uw l).toArray])[0+j]?=some (.int .u32 (l[j]! : Nat)):=by
 rw [aX];exact Uw_at h
section
variable{F:World->Prop}
theorem rot64_C{x:Nat}(n:Nat)(hx:x<2^64)(hn:0<n/\n<64):Ct F 166 [.c (.v (.int .u64 (x:Int))),.c (.v (.int .i64 (-(n:Int))))] (one (.v (.int .u64 ((jM 64 n x:Nat):Int)))):=⟨λ_ _=>by go_simp,Spec.pure trivial λw _=>(rot64_f x n hx hn.1 hn.2 w).mono λ_ _ h=>⟨h.1,h.2▸Below.refl _ _⟩⟩
theorem rot32_C{x:Nat}(n:Nat)(hx:x<2^32)(hn:0<n/\n<32):Ct F 126 [.c (.v (.int .u32 (x:Int))),.c (.v (.int .i64 (-(n:Int))))] (one (.v (.int .u32 ((jM 32 n x:Nat):Int)))):=⟨λ_ _=>by go_simp,Spec.pure trivial λw _=>(rot32_f x n hx hn.1 hn.2 w).mono λ_ _ h=>⟨h.1,h.2▸Below.refl _ _⟩⟩
end
def KW(K:IntKind)(w:Nat):Prop:=K = .u64/\w=64\/K = .u32/\w=32
section
variable{K:IntKind}{w:Nat}{a b c:Nat}
theorem KW.wrap(hK:KW K w)(x:Nat):K.wrap (x:Int)=((x%2^w:Nat):Int):=by
 rcases hK with⟨rfl,rfl⟩|⟨rfl,rfl⟩
 ·rw [a8];omega
 ·rw [pA];omega
theorem KW.add(hK:KW K w):K.wrap ((a:Int)+(b:Int))=(((a+b)%2^w:Nat):Int):=by rw [<-hK.wrap];rfl
theorem KW.xor(hK:KW K w)(ha:a<2^w)(hb:b<2^w):bits .xor K (a:Int) (b:Int)=((a ^^^ b:Nat):Int):=by
 rcases hK with⟨rfl,rfl⟩|⟨rfl,rfl⟩
 ·exact u64_xor_nat _ _ ha hb
 ·exact u32_xor_nat _ _ ha hb
theorem KW.and(hK:KW K w)(ha:a<2^w)(hb:b<2^w):bits .and K (a:Int) (b:Int)=((a &&& b:Nat):Int):=by
 rcases hK with⟨rfl,rfl⟩|⟨rfl,rfl⟩
 ·exact u64_and_nat _ _ ha hb
 ·exact u32_and_nat _ _ ha hb
theorem KW.not(hK:KW K w)(ha:a<2^w):bits .xor K (if K.signed then -1 else K.max) (a:Int)=((2^w-1-a:Nat):Int):=by
 have h2:(2^w-1) ^^^ a=2^w-1-a:=by
  apply Nat.eq_of_testBit_eq
  intro i
  rw [show 2^w-1-a=2^w-(a+1) by omega,Nat.testBit_two_pow_sub_succ ha,Nat.testBit_xor,Nat.testBit_two_pow_sub_one]
  by_cases hi:i<w
  ·simp [hi]
  ·have h3:a.testBit i=false:=Nat.testBit_lt_two_pow (bS ha (o5 (n:=2) (by decide) (show w<=i by omega)))
   simp [hi,h3]
 have h:=hK.xor (a:=2^w-1) (b:=a) (Nat.sub_lt (Nat.two_pow_pos _) (by decide)) ha;rw [h2] at h;rw [<-h]
 rcases hK with⟨rfl,rfl⟩|⟨rfl,rfl⟩<;>rfl
theorem KW.big(hK:KW K w)(t:Nat×Nat×Nat)(ht:t.1<=w/\t.2.1<=w/\t.2.2<=w)(ha:a<2^w):bits .xor K (bits .xor K ((jM w t.1 a:Nat):Int) ((jM w t.2.1 a:Nat):Int)) ((jM w t.2.2 a:Nat):Int)=((vI w t a:Nat):Int):=by
 rw [hK.xor (iT ht.1 ha) (iT ht.2.1 ha),hK.xor (q7 (iT ht.1 ha) (iT ht.2.1 ha)) (iT ht.2.2 ha)]
 rfl
theorem KW.ch{f g:Nat}(hK:KW K w)(ha:a<2^w)(hf:f<2^w)(hg:g<2^w):bits .xor K (bits .and K (a:Int) (f:Int)) (bits .and K (bits .xor K (if K.signed then -1 else K.max) (a:Int)) (g:Int))=((chw w a f g:Nat):Int):=by
 have hn:2^w-1-a<2^w:=by omega
 rw [hK.not ha,hK.and ha hf,hK.and hn hg,hK.xor (mE ha) (mE hn)]
 rfl
theorem KW.ma(hK:KW K w)(ha:a<2^w)(hb:b<2^w)(hc:c<2^w):bits .xor K (bits .xor K (bits .and K (a:Int) (b:Int)) (bits .and K (a:Int) (c:Int))) (bits .and K (b:Int) (c:Int))=((maw a b c:Nat):Int):=by
 rw [hK.and ha hb,hK.and ha hc,hK.and hb hc,hK.xor (mE ha) (mE ha),hK.xor (q7 (mE ha) (mE ha)) (mE hb)]
 rfl
theorem KW.shr(hK:KW K w)(c:Nat)(hc:c<=w):Int.fdiv (a:Int) (2^min c K.bits)=((a/2^c:Nat):Int):=by
 have e:min c K.bits=c:=by
  rcases hK with⟨rfl,rfl⟩|⟨rfl,rfl⟩<;>exact Nat.min_eq_left hc
 rw [e,Int.fdiv_eq_ediv_of_nonneg _ (Int.pow_nonneg (by decide))]
 simp
theorem KW.low(hK:KW K w)(t:Nat×Nat×Nat)(ht:t.1<=w/\t.2.1<=w/\t.2.2<=w)(ha:a<2^w):bits .xor K (bits .xor K ((jM w t.1 a:Nat):Int) ((jM w t.2.1 a:Nat):Int)) (Int.fdiv (a:Int) (2^min t.2.2 K.bits))=((oH w t a:Nat):Int):=by
 rw [hK.shr _ ht.2.2,hK.xor (iT ht.1 ha) (iT ht.2.1 ha),hK.xor (q7 (iT ht.1 ha) (iT ht.2.1 ha)) (iN (k7 _ _) ha)]
 rfl
theorem KW.sum4{d:Nat}(hK:KW K w):K.wrap (K.wrap (K.wrap ((a:Int)+(b:Int))+(c:Int))+(d:Int))=(((a+b+c+d)%2^w:Nat):Int):=by
 rw [hK.add,hK.add,hK.add,jV,bW ((a+b)%2^w) c d,jV,<-bW]
theorem KW.t1{h s ch k x:Nat}(hK:KW K w):K.wrap (K.wrap (K.wrap (K.wrap ((h:Int)+(s:Int))+(ch:Int))+(k:Int))+(x:Int))=(((h+s+ch+k+x)%2^w:Nat):Int):=by
 rw [hK.add,hK.add,hK.add,hK.add,jV,jV,bW ((h+s+ch)%2^w) k x,jV,<-bW]
theorem KW.t1c{h s e f g k x:Nat}(hK:KW K w)(he:e<2^w)(hf:f<2^w)(hg:g<2^w):K.wrap (K.wrap (K.wrap (K.wrap ((h:Int)+(s:Int))+bits .xor K (bits .and K (e:Int) (f:Int)) (bits .and K (bits .xor K (if K.signed then -1 else K.max) (e:Int)) (g:Int)))+(k:Int))+(x:Int))=(((h+s+chw w e f g+k+x)%2^w:Nat):Int):=by
 rw [hK.ch he hf hg];exact hK.t1
theorem KW.t2{s:Nat}(hK:KW K w)(ha:a<2^w)(hb:b<2^w)(hc:c<2^w):K.wrap ((s:Int)+bits .xor K (bits .xor K (bits .and K (a:Int) (b:Int)) (bits .and K (a:Int) (c:Int))) (bits .and K (b:Int) (c:Int)))=(((s+maw a b c)%2^w:Nat):Int):=by
 rw [hK.ma ha hb hc];exact hK.add
theorem KW.sum{x y:Nat}(hK:KW K w):K.wrap (((x%2^w:Nat):Int)+((y%2^w:Nat):Int))=(((x+y)%2^w:Nat):Int):=by
 rw [hK.add,<-Nat.add_mod]
theorem KW.sum1{x y:Nat}(hK:KW K w):K.wrap ((x:Int)+((y%2^w:Nat):Int))=(((x+y)%2^w:Nat):Int):=by
 rw [hK.add,Nat.add_mod_mod]
end
section
variable{b:Base}{ops:Array Oper}{N n i k1 k2 g:Nat}{G:Nat->Nat}{S:Nat->Prop}{E:SE}{L:List LV}{R:List Res}{F M:World->Prop}{w0:World}{Z:Act->Prop}{rest:List Oper}{o1 o2:Oper}{t e:TypeId}{y:Operand}{K:IntKind}{d:TypeDesc}{v:Value}
theorem n_tab(hst:StW b G S L R F M w0)(h1:(o1.guard,o1.dst,o1.op)=(none,some k1,.indexAddr t (.global g) y))(h2:(o2.guard,o2.dst,o2.op)=(none,some k2,.load e (.tmp k1)))(hk:(aO k1 N&&aO k2 N)=true)(hy:evS E y=some (.v (.int K (i:Int))))(ha:Arr t n)(hi:i<n)(hu:Tryz.prog.underlying e=some d)(hr:d.isRow=false)(hc:∀w,F w->w.cell? ⟨g,i,none⟩=some v)
 (hn:nS Tryz.prog ops N w0 Z G rest ((k2,.v v)::(k1,.v (.pointer (some ⟨g,0+1*i,none⟩)))::E)):nS Tryz.prog ops N w0 Z G (o1::o2::rest) E:=by
 obtain⟨te,ht,he⟩:=ha;simp only [cP,aK] at h1 h2 hk;refine n_op hst (.v (.pointer (some ⟨g,0+1*i,none⟩))) trivial h1.1 h1.2.1 hk.1 (runO_ixP i h1.2.2 ht he rfl hy hi) ?_;refine n_opV hst (.v v) trivial h2.1 h2.2.1 hk.2 (run_ldM h2.2.2 (by show lookS ((k1,_)::E) k1=_;unfold lookS;rw [nW]) hu hr λG S w hv=>?_) hn;rw [aX,gM];exact hc w hv.fact
end
section
variable{b:Base}{ops:Array Oper}{Q:Exit->Act->World->Prop}{N n m i l h k k1 k2 j off c:Nat}{E:SE}{L:List LV}{R:List Res}{F M:World->Prop}{rest:List Oper}{o o1 o2:Oper}{t e:TypeId}{x y lo hi:Operand}{K K2:IntKind}{d:TypeDesc}{v:Value}{ps:List Pt}
theorem l_cutV(l h:Nat)(ho:(o.guard,o.dst,o.op)=(none,some k,.slice t x (some lo) (some hi) none))(hk:aO k N=true)(ha:Arr t n)(hx:evS E x=some (.a j off))(hl:evS E lo=some (.v (.int K (l:Int))))(hh:evS E hi=some (.v (.int K2 (h:Int))))(h1:l<=h)(h2:h<=n)(h3:l<n)
 (hn:lS Tryz.prog b ops Q N rest ⟨(k,.s j (off+l) (h-l) (n-l))::E,L,R,F,M⟩):lS Tryz.prog b ops Q N (o::rest) ⟨E,L,R,F,M⟩:=by
 obtain⟨te,ht,he⟩:=ha;simp only [cP] at ho;refine l_op (.s j (off+l) (h-l) (n-l)) trivial ho.1 ho.2.1 hk (λG a w ha=>?_) hn;have e1:a.eval x = .pointer (some ⟨G j,off,none⟩):=ha.eval (evS_ok hx);have e2:=ha.eval (evS_ok (G:=G) hl);have e3:=ha.eval (evS_ok (G:=G) hh);have hr:=run_cutA (P:=Tryz.prog) (g:=G j) (off:=off) (l:=l) (h:=h) (n:=n) ht he (.inr ⟨K,rfl⟩) (.inr ⟨K2,rfl⟩) h1 h2 h3 w
 unfold execOp
 simp only [ho.2.2,Option.map_some,Option.map_none,e1,e2,e3,SV.den,SQ.den,SC.den,hr,aF,aG,aB]
theorem runO_ixW{P:Program}(i:Nat)(ho:o.op = .indexAddr t x y)(hx:evS E x=some (.s j off n c))(hy:evS E y=some (.v (.int K (i:Int))))(hi:i<n)(ht:P.underlying t=some (.slice e))(he:(P.info? e).map (·.size)=some 1):∀(G:Nat->Nat) (a:Act) (w:World),Fr N (denE G E) a->(execOp a.eval o).run P w = .ok (.value ((SV.a j (off+i)).den G)) w:=λG a w ha=>by
 have e1:a.eval x = .slice (some ⟨G j,off,none⟩) n c:=ha.eval (evS_ok hx);have e2:=ha.eval (evS_ok (G:=G) hy);have hz:=run_sizeOf he w
 have h0:(0:Int)<=i/\(i:Int)<n:=by omega
 unfold execOp
 simp only [ho,e1,e2,SV.den,SQ.den,SC.den,Instr.indexAt,asIntOf,run_underlying ht,aF,aG,aB]
 simp [h0,cU,hz]
theorem l_cellS(i:Nat)(h1:(o1.guard,o1.dst,o1.op)=(none,some k1,.indexAddr t x y))(h2:(o2.guard,o2.dst,o2.op)=(none,some k2,.load e (.tmp k1)))(hk:(aO k1 N&&aO k2 N)=true)(hx:evS E x=some (.s j off n c))(hy:evS E y=some (.v (.int K (i:Int))))(hi:i<n)(ht:Tryz.prog.underlying t=some (.slice e))(he:(Tryz.prog.info? e).map (·.size)=some 1)(hl:lookL L j=some ps)(hv:(catP ps)[off+i]?=some v)(hu:Tryz.prog.underlying e=some d)(hr:d.isRow=false)
 (hn:lS Tryz.prog b ops Q N rest ⟨(k2,.v v)::(k1,.a j (off+i))::E,L,R,F,M⟩):lS Tryz.prog b ops Q N (o1::o2::rest) ⟨E,L,R,F,M⟩:=by
 simp only [cP,aK] at h1 h2 hk;exact l_op (.a j (off+i)) trivial h1.1 h1.2.1 hk.1 (runO_ixW i h1.2.2 hx hy hi ht he) (l_opV (.v v) trivial h2.1 h2.2.1 hk.2 (runO_ldA v h2.2.2 (by show lookS ((k1,_)::E) k1=_;unfold lookS;rw [nW]) hl hv hu hr) hn)
theorem n_cellS{G:Nat->Nat}{S:Nat->Prop}{w0:World}{Z:Act->Prop}(hst:StW b G S L R F M w0)(i:Nat)(h1:(o1.guard,o1.dst,o1.op)=(none,some k1,.indexAddr t x y))(h2:(o2.guard,o2.dst,o2.op)=(none,some k2,.load e (.tmp k1)))(hk:(aO k1 N&&aO k2 N)=true)(hx:evS E x=some (.s j off n c))(hy:evS E y=some (.v (.int K (i:Int))))(hi:i<n)(ht:Tryz.prog.underlying t=some (.slice e))(he:(Tryz.prog.info? e).map (·.size)=some 1)(hl:lookL L j=some ps)(hv:(catP ps)[off+i]?=some v)(hu:Tryz.prog.underlying e=some d)(hr:d.isRow=false)
 (hn:nS Tryz.prog ops N w0 Z G rest ((k2,.v v)::(k1,.a j (off+i))::E)):nS Tryz.prog ops N w0 Z G (o1::o2::rest) E:=by
 simp only [cP,aK] at h1 h2 hk;exact n_op hst (.a j (off+i)) trivial h1.1 h1.2.1 hk.1 (runO_ixW i h1.2.2 hx hy hi ht he) (n_opV hst (.v v) trivial h2.1 h2.2.1 hk.2 (runO_ldA v h2.2.2 (by show lookS ((k1,_)::E) k1=_;unfold lookS;rw [nW]) hl hv hu hr) hn)
end
def z80:List Nat:=aA 80 0
theorem z80_len:z80.length=80:=by decide
theorem z80_get(k:Nat):z80[k]! = 0:=by
 unfold z80
 by_cases h:k<80
 ·rw [getElem!_pos _ k (by rw [bK];exact h),List.getElem_replicate]
 ·rw [getElem!_neg _ k (by rw [bK];exact h)]
  rfl
theorem mxl_in{f:Nat->Nat}{l:List Nat}{k j:Nat}(h:j<k)(hj:j<l.length):(mxl f l k)[j]! = f j:=by
 rw [getElem!_pos _ j (by rw [gJ];exact hj)]
 simp [mxl,h]
theorem set_zero{F:Nat->Nat}{k:Nat}:(mxl F z80 k).set k 0=mxl F z80 k:=by
 apply dG (by simp)
 intro i h1 h2
 rw [List.getElem_set]
 by_cases h:k=i
 ·subst h
  have h3:k<80:=by simpa [gJ,z80_len] using h2
  rw [if_pos rfl];have:=rY F z80 (k:=k) (by rw [z80_len];exact h3);rw [getElem!_pos _ k h2,z80_get] at this;exact this.symm
 ·rw [if_neg h]
theorem own_long512:Own 165:=λ_ _=>by go_simp
theorem arr80:Arr 222 80:=⟨_,Tryz.underlying222,by kernel_rfl⟩
theorem arr128:Arr 228 128:=⟨_,Tryz.underlying228,by kernel_rfl⟩
theorem mulI(a b:Nat)(h:a*b<9223372036854775808):IntKind.i64.wrap ((a:Int)*(b:Int))=((a*b:Nat):Int):=by
 rw [show(a:Int)*(b:Int)=((a*b:Nat):Int) from rfl,i64_left,wrap64_in _ (by omega)]
theorem get_set{l:List Nat}{t x:Nat}(h:t<l.length):(l.set t x)[t]! = x:=by
 rw [getElem!_pos _ t (by rw [bR];exact h),List.getElem_set_self]
theorem ben_or{f:Nat->Nat}{k:Nat}(hk:k<8)(hf:∀j,f j<256):bits .or .u64 (IntKind.u64.wrap ((ben f k:Int)*2^min 8 IntKind.u64.bits)) (IntKind.u64.wrap (f k:Int))=((ben f (k+1):Nat):Int):=by
 have h1:=rG hf k;have h2:=o5 (n:=256) (by decide) (show k<=7 by omega);have h3:=hf k
 have e:(256:Nat)^7=72057594037927936:=by decide
 rw [e] at h2;rw [show((ben f k:Int)*2^min 8 IntKind.u64.bits)=((ben f k*256:Nat):Int) from rfl,wrapN _ (by omega),wrapN _ (by omega)];exact orW 8 _ _ (by omega) h3 (by omega) (by omega)
theorem kw64:KW .u64 64:=.inl ⟨rfl,rfl⟩
theorem long512_C{F:World->Prop}[Pst F]{b:List UInt8}(hb:b.length=128):Ct F 165 [eY 128 b] (one (.q (eW 80 (mxl (sx dC b) z80 80)))):=⟨own_long512,by
 have hX:=vM dC b (by decide)
 have hlen:∀t,(mxl (sx dC b) z80 t).length=80:=λt=>by rw [gJ,z80_len]
 have h16:∀t,t<16->sx dC b t=ben (λk=>(b[8*t+k]!).toNat) 8:=λt ht=>by
  rw [sx,dif_pos ht]
  show ben (λk=>(b[t*8+k]!).toNat) 8=_
  rw [c8]
 have hrec:∀t,16<=t->(oH 64 (19,61,6) (sx dC b (t-2))+sx dC b (t-7)+oH 64 (1,8,7) (sx dC b (t-15))+sx dC b (t-16))%2^64=sx dC b t:=λt ht=>by
  conv=>rhs;rw [sx,dif_neg (by omega)]
  rfl
 generalize sx dC b=X at *;refine spec_S [eY 128 b] 81 Tryz.func165 rfl (by rw [Tryz.ntmps165];rfl) (one_ok (eY_ok hb).1) λB=>?_;refine s_auto TY_ok rfl ?_;refine s_auto TY_ok rfl ?_
 let L:List Nat->List LV:=λl=>[⟨3,none,222,[.agg 80 (Us l).toArray]⟩,⟨2,none,222,[.agg 80 (Us (aA 80 0)).toArray]⟩,⟨1,none,228,[.agg 128 (By b).toArray]⟩]
 let P:Nat×List Nat->Env:=λs=>⟨[(12,.v (.int .i64 (s.1:Int))),(1,.a 1 0),(2,.a 2 0),(3,.a 3 0)],L s.2,[],F,λ_=>True⟩
 refine s_seq λK1 hK1=>?_;refine s_auto TY_ok rfl ?_;refine s_block ?_;refine c_weak (e':=P (0,aA 80 0)) ⟨⟨rfl,rfl,rfl,rfl,trivial⟩,⟨rfl,rfl,rfl,rfl,rfl,rfl,trivial⟩,.refl _,λ_ h _=>h,λ_ _=>trivial⟩ (s_loop (λs=>16-s.1) P (λs=>s.1<=16/\s.2=mxl X z80 s.1) ?_ (0,aA 80 0) ⟨aQ _,(mN X z80).symm⟩)
 ·rintro⟨t,l⟩ ⟨ht,hl⟩
  dsimp only at ht hl
  subst hl;refine s_auto TY_ok rfl ?_;refine s_seq λK2 hK2=>?_;refine s_ifD ((t:Int)<16) rfl (λhlt=>?_) (λhge=>?_)
  ·have hlt:t<16:=by omega
   refine s_skip (hK2 _ ?_);refine s_seq λK3 hK3=>?_;refine s_block ?_;refine s_auto TY_ok rfl ?_;refine s_reg λK hK=>l_auto2 rfl (l_num 16 ((8*t:Nat):Int) rfl (mulI 8 t (by omega)) (l_num 19 ((8*t+8:Nat):Int) rfl (by show IntKind.i64.wrap (IntKind.i64.wrap (((8:Nat):Int)*(t:Int))+((8:Nat):Int))=_;rw [mulI 8 t (by omega)];exact addI _ _ (by omega)) ?_));refine l_cutV (8*t) (8*t+8) rfl rfl arr128 rfl rfl rfl (by omega) (by omega) (by omega) (l_auto2 rfl (l_num 21 8 rfl (by omega) (s_end (hK _ ?_))))
   let Q:Nat×List Nat->Env:=λs=>⟨[(22,.v (.int .i64 (s.1:Int))),(21,.v (.int .i64 8)),(20,.s 1 (0+8*t) (8*t+8-8*t) (128-8*t)),(4,.v (.int .i64 (t:Int))),(12,.v (.int .i64 (t:Int))),(1,.a 1 0),(2,.a 2 0),(3,.a 3 0)],L s.2,[],F,λ_=>True⟩
   have h0:∀x,((mxl X z80 t).set t x).length=80:=λx=>by rw [bR,hlen]
   refine s_block ?_;refine c_weak (e':=Q (0,mxl X z80 t)) ⟨⟨rfl,rfl,rfl,rfl,rfl,rfl,rfl,rfl,trivial⟩,⟨rfl,rfl,rfl,rfl,rfl,rfl,trivial⟩,.refl _,λ_ h _=>h,λ_ h=>h⟩ (s_loop (λs=>8-s.1) Q (λs=>s.1<=8/\s.2=(mxl X z80 t).set t (ben (λk=>(b[8*t+k]!).toNat) s.1)) ?_ (0,mxl X z80 t) ⟨aQ _,set_zero.symm⟩)
   rintro⟨k,l⟩ ⟨hk,hl⟩
   dsimp only at hk hl
   subst hl;refine s_auto TY_ok rfl ?_;refine s_seq λK4 hK4=>?_;refine s_ifD ((k:Int)<8) rfl (λhlt2=>?_) (λhge=>?_)
   ·have hlt2:k<8:=by omega
    refine s_skip (hK4 _ ?_);refine s_seq λK5 hK5=>?_;refine s_block ?_;refine s_reg λK hK=>l_cellS k rfl rfl rfl rfl rfl (by omega) Tryz.underlying51 size_u8 rfl (by rw [aX];exact By_get (by omega)) Tryz.underlying5 rfl (l_N hK rfl ?_);refine s_lit (l_auto2 rfl ?_);refine l_cell rfl arr80 (by show t<80;omega) (.int .u64 ((ben (λk=>(b[8*t+k]!).toNat) k:Nat):Int)) ((Us_in (j:=t) (l:=(mxl X z80 t).set t _) (by rw [h0];omega)).trans (by rw [get_set (by rw [hlen];omega)])) ?_;refine l_auto2 rfl (l_num 33 ((ben (λk=>(b[8*t+k]!).toNat) (k+1):Nat):Int) rfl (ben_or hlt2 (λj=>UInt8.toNat_lt _)) ?_);refine l_put rfl arr80 (by show t<80;omega) [.agg 80 (Us ((mxl X z80 t).set t (ben (λk=>(b[8*t+k]!).toNat) (k+1)))).toArray] (eW_ok (h0 _)) ?_ ?_ (s_end (hK5 _ ?_))
    ·show 0+t<(Us ((mxl X z80 t).set t _)).toArray.size
     rw [aV,Us_len,h0]
     omega
    ·show Us ((mxl X z80 t).set t _)=(Us ((mxl X z80 t).set t _)).set (0+t) _
     rw [aX,Us,Us,dR,dR,List.set_set]
    refine s_autoE TY_ok rfl ?_;exact k_next (k+1,_) ⟨hlt2,rfl⟩ (by show 8-(k+1)<8-k;omega) ⟨⟨congrArg (λx=>some (SV.v (.int .i64 x))) (addI k 1 (by omega)),rfl,rfl,rfl,rfl,rfl,rfl,rfl,trivial⟩,⟨rfl,rfl,rfl,rfl,rfl,rfl,trivial⟩,.refl _,λ_ h _=>h,λ_ h=>h⟩
   ·obtain rfl:k=8:=by omega
    refine s_exit (k_pass (k_pass (k_out (hK3 _ ?_))));refine s_autoE TY_ok rfl ?_;rw [<-h16 t hlt,kM];exact k_next (t+1,_) ⟨hlt,rfl⟩ (by show 16-(t+1)<16-t;omega) ⟨⟨congrArg (λx=>some (SV.v (.int .i64 x))) (addI t 1 (by omega)),rfl,rfl,rfl,trivial⟩,⟨rfl,rfl,rfl,rfl,rfl,rfl,trivial⟩,.refl _,λ_ h _=>h,λ_ h=>h⟩
  ·obtain rfl:t=16:=by omega
   refine s_exit (k_pass (k_pass (k_out (hK1 _ ?_))))
   let Q:Nat×List Nat->Env:=λs=>⟨[(7,.v (.int .i64 (s.1:Int))),(1,.a 1 0),(2,.a 2 0),(3,.a 3 0)],L s.2,[],F,λ_=>True⟩
   refine s_seq λK1 hK1=>?_;refine s_auto TY_ok rfl ?_;refine s_block ?_;refine c_weak (e':=Q (16,mxl X z80 16)) ⟨⟨rfl,rfl,rfl,rfl,trivial⟩,⟨rfl,rfl,rfl,rfl,rfl,rfl,trivial⟩,.refl _,λ_ h _=>h,λ_ h=>h⟩ (s_loop (λs=>80-s.1) Q (λs=>16<=s.1/\s.1<=80/\s.2=mxl X z80 s.1) ?_ (16,mxl X z80 16) ⟨aH _,aD rfl,rfl⟩)
   rintro⟨t,l⟩ ⟨ht0,ht,hl⟩
   dsimp only at ht0 ht hl
   subst hl;have rd:∀j,j<t->(catP [.agg 80 (Us (mxl X z80 t)).toArray])[0+j]?=some (.int .u64 ((X j:Nat):Int)):=λj hj=>(Us_in (by rw [hlen];omega)).trans (by rw [mxl_in hj (by rw [z80_len];omega)]);refine s_seq λK3 hK3=>?_;refine s_auto TY_ok rfl ?_;refine s_ifD ((t:Int)<80) rfl (λhlt=>?_) (λhge=>?_)
   ·have hlt:t<80:=by omega
    refine s_skip (hK3 _ ?_);refine s_seq λK4 hK4=>?_;refine s_block ?_;refine s_N 10 [] (by kernel_rfl) λK hK G S w0 hst=>?_;refine n_auto2 hst rfl (n_num 42 ((t-2:Nat):Int) rfl (subI t 2 (by omega) (by omega)) ?_);refine n_cell hst rfl arr80 (by show t-2<80;omega) (.int .u64 ((X (t-2):Nat):Int)) (rd (t-2) (by omega)) ?_;refine n_auto2 hst rfl (n_num 46 ((t-15:Nat):Int) rfl (subI t 15 (by omega) (by omega)) ?_);refine n_cell hst rfl arr80 (by show t-15<80;omega) (.int .u64 ((X (t-15):Nat):Int)) (rd (t-15) (by omega)) ?_;refine n_N hst rfl hK rfl ?_;refine s_reg λK hK=>l_X (rot64_C 19 (hX (t-2)) (by decide)) (λ_=>rfl) rfl λ_=>l_X (rot64_C 61 (hX (t-2)) (by decide)) (λ_=>rfl) rfl λ_=>l_auto2 rfl (l_num 10 _ rfl (kw64.low (19,61,6) (by decide) (hX (t-2))) (s_end (hK _ ?_)));refine s_reg λK hK=>l_X (rot64_C 1 (hX (t-15)) (by decide)) (λ_=>rfl) rfl λ_=>l_X (rot64_C 8 (hX (t-15)) (by decide)) (λ_=>rfl) rfl λ_=>l_auto2 rfl (l_num 11 _ rfl (kw64.low (1,8,7) (by decide) (hX (t-15))) (s_end (hK _ ?_)));refine s_drawnN 15 (by kernel_rfl) λG S w0 hst=>?_;refine n_auto2 hst rfl (n_num 68 ((t-7:Nat):Int) rfl (subI t 7 (by omega) (by omega)) ?_);refine n_cell hst rfl arr80 (by show t-7<80;omega) (.int .u64 ((X (t-7):Nat):Int)) (rd (t-7) (by omega)) ?_;refine n_auto2 hst rfl (n_num 75 ((t-16:Nat):Int) rfl (subI t 16 (by omega) (by omega)) ?_);refine n_cell hst rfl arr80 (by show t-16<80;omega) (.int .u64 ((X (t-16):Nat):Int)) (rd (t-16) (by omega)) ?_;refine n_auto2 hst rfl (n_num 78 _ rfl (kw64.sum4.trans (by rw [hrec t ht0])) (n_ix hst rfl arr80 hlt ?_));refine n_L hst rfl ?_;refine l_st1 rfl [.agg 80 (Us (mxl X z80 (t+1))).toArray] (eW_ok (hlen _)) ?_ ?_ (s_end (hK4 _ ?_))
    ·show 0+t<(Us (mxl X z80 t)).toArray.size
     rw [aV,Us_len,hlen]
     omega
    ·show Us (mxl X z80 (t+1))=(Us (mxl X z80 t)).set (0+t) _
     rw [aX,Us,Us,<-kM,dR]
    refine s_autoE TY_ok rfl ?_;exact k_next (t+1,_) ⟨by show 16<=t+1;omega,hlt,rfl⟩ (by show 80-(t+1)<80-t;omega) ⟨⟨congrArg (λx=>some (SV.v (.int .i64 x))) (addI t 1 (by omega)),rfl,rfl,rfl,trivial⟩,⟨rfl,rfl,rfl,rfl,rfl,rfl,trivial⟩,.refl _,λ_ h _=>h,λ_ h=>h⟩
   ·obtain rfl:t=80:=by omega
    refine s_exit (k_pass (k_pass (k_out (hK1 _ ?_))));refine s_auto TY_ok rfl (s_ret ?_)
    exact k_ret TY_ok () rfl (by decide) rfl rfl rfl (λ_ _ _=>trivial) λ_ _=>trivial⟩
theorem own_turn512:Own 134:=λ_ _=>by go_simp
structure Ts(w:World):Prop where
  cell:∀i,i<80->w.cell? ⟨1,i,none⟩=some (.int .u64 (cbs[i]! : Nat))
  lt : 1 < w.heap.size
theorem Ts.below{w w':World}(h:Ts w)(hb:Below w.heap.size w w'):Ts w' :=
 ⟨λi hi=>(hb.cell (p:=⟨1,i,none⟩) h.lt).trans (h.cell i hi),bS h.lt hb.size⟩
instance:Pst Ts:=⟨λ_ _ h hb=>h.below hb⟩
theorem cbs_lt{t:Nat}(h:t<80):cbs[t]! < 18446744073709551616:=by
 have h1:∀x∈cbs,x<18446744073709551616:=by decide
 have h2:t<cbs.length:=h;rw [getElem!_pos cbs t h2];exact h1 _ (oM _)
theorem arr8:Arr 217 8:=⟨_,Tryz.underlying217,by kernel_rfl⟩
theorem turn512_C{o:Oct}(ho:OB 64 o){b:List UInt8}(hb:b.length=128):Ct Ts 134 [eW 8 o.list,eY 128 b] (one (.q (eW 8 (fK dC o b).list))):=⟨own_turn512,by
 have hxn:(mxl (sx dC b) z80 80).length=80:=by rw [gJ,z80_len]
 have hO:=λt=>OB.nD (s:=dC) (b:=b) ho t;refine spec_S [eW 8 o.list,eY 128 b] 135 Tryz.func134 rfl (by rw [Tryz.ntmps134];rfl) (two_ok (eW_ok rfl) (eY_ok hb).1) λB=>?_;refine s_auto TY_ok rfl ?_;refine s_reg λK hK=>l_X (long512_C hb) (λ_=>rfl) rfl λ_=>l_N hK rfl ?_;refine s_N 24 [] (by kernel_rfl) λK hK G S w0 hst=>?_;refine n_cell hst rfl arr8 (aD rfl) (.int .u64 (o.a:Int)) rfl ?_;refine n_cell hst rfl arr8 (aD rfl) (.int .u64 (o.b:Int)) rfl ?_;refine n_cell hst rfl arr8 (aD rfl) (.int .u64 (o.c:Int)) rfl ?_;refine n_cell hst rfl arr8 (aD rfl) (.int .u64 (o.d:Int)) rfl ?_;refine n_cell hst rfl arr8 (aD rfl) (.int .u64 (o.e:Int)) rfl ?_;refine n_cell hst rfl arr8 (aD rfl) (.int .u64 (o.f:Int)) rfl ?_;refine n_cell hst rfl arr8 (aD rfl) (.int .u64 (o.g:Int)) rfl ?_;refine n_cell hst rfl arr8 (aD rfl) (.int .u64 (o.h:Int)) rfl ?_;refine n_N hst rfl hK rfl ?_;refine s_seq λK1 hK1=>?_;refine s_auto TY_ok rfl ?_;refine s_block ?_
 let P:Nat×Oct->Env:=λs=>⟨[(37,.v (.int .i64 (s.1:Int))),(6,.v (.int .u64 (s.2.a:Int))),(7,.v (.int .u64 (s.2.b:Int))),(8,.v (.int .u64 (s.2.c:Int))),(9,.v (.int .u64 (s.2.d:Int))),(10,.v (.int .u64 (s.2.e:Int))),(11,.v (.int .u64 (s.2.f:Int))),(12,.v (.int .u64 (s.2.g:Int))),(13,.v (.int .u64 (s.2.h:Int))),(2,.a 2 0),(4,.a 4 0),(5,.a 5 0)],
  [⟨5,none,222,[.agg 80 (Us (mxl (sx dC b) z80 80)).toArray]⟩,⟨4,none,217,[.agg 8 (Us (aA 8 0)).toArray]⟩,⟨2,none,217,[.agg 8 (Us o.list).toArray]⟩],[],Ts,λ_=>True⟩
 refine c_weak (e':=P (0,o)) ⟨⟨rfl,rfl,rfl,rfl,rfl,rfl,rfl,rfl,rfl,rfl,rfl,rfl,trivial⟩,⟨rfl,rfl,rfl,rfl,rfl,rfl,trivial⟩,.refl _,λ_ h _=>h,λ_ _=>trivial⟩ (s_loop (λs=>80-s.1) P (λs=>s.1<=80/\s.2=nD dC b o s.1) ?_ (0,o) ⟨aQ _,rfl⟩)
 rintro⟨t,q⟩ ⟨ht,hq⟩
 dsimp only at ht hq
 have hB:=hO t;rw [<-hq] at hB;refine s_auto TY_ok rfl ?_;refine s_seq λK2 hK2=>?_;refine s_ifD ((t:Int)<80) rfl (λhlt=>?_) (λhge=>?_)
 ·have hlt:t<80:=by omega
  refine s_skip (hK2 _ ?_);refine s_seq λK3 hK3=>?_;refine s_block ?_;refine s_auto TY_ok rfl ?_;refine s_reg λK hK=>l_X (rot64_C 14 hB.e (by decide)) (λ_=>rfl) rfl λ_=>l_X (rot64_C 18 hB.e (by decide)) (λ_=>rfl) rfl λ_=>l_X (rot64_C 41 hB.e (by decide)) (λ_=>rfl) rfl λ_=>l_auto2 rfl (l_num 15 _ rfl (kw64.big (14,18,41) (by decide) hB.e) (s_end (hK _ ?_)));refine s_reg λK hK=>l_X (rot64_C 28 hB.a (by decide)) (λ_=>rfl) rfl λ_=>l_X (rot64_C 34 hB.a (by decide)) (λ_=>rfl) rfl λ_=>l_X (rot64_C 39 hB.a (by decide)) (λ_=>rfl) rfl λ_=>l_auto2 rfl (l_num 16 _ rfl (kw64.big (28,34,39) (by decide) hB.a) (s_end (hK _ ?_)));refine s_N 21 [] (by kernel_rfl) λK hK G S w0 hst=>?_;refine n_auto2 hst rfl ?_;refine n_tab hst rfl rfl rfl rfl arr80 hlt Tryz.underlying123 rfl (λw h=>h.cell t hlt) ?_;refine n_auto2 hst rfl ?_;refine n_cell hst rfl arr80 hlt (.int .u64 ((sx dC b t:Nat):Int)) ((Us_in (by rw [hxn];exact hlt)).trans (by rw [mxl_in hlt (by rw [z80_len];exact hlt)])) ?_;refine n_auto2 hst rfl (n_num 17 _ rfl (kw64.t1c hB.e hB.f hB.g) (n_N hst rfl hK rfl ?_));refine s_reg λK hK=>l_auto2 rfl (l_num 18 _ rfl (kw64.t2 hB.a hB.b hB.c) (s_end (hK _ ?_)));refine s_lit (l_auto2 rfl (l_num 10 _ rfl kw64.sum1 (l_num 6 _ rfl kw64.sum (s_end (hK3 _ ?_)))));refine s_autoE TY_ok rfl ?_;exact k_next (t+1,rnd dC (cbs[t]!) (sx dC b t) q) ⟨hlt,by rw [hq];rfl⟩ (by show 80-(t+1)<80-t;omega) ⟨⟨congrArg (λx=>some (SV.v (.int .i64 x))) (addI t 1 (by omega)),rfl,rfl,rfl,rfl,rfl,rfl,rfl,rfl,rfl,rfl,rfl,trivial⟩,⟨rfl,rfl,rfl,rfl,rfl,rfl,trivial⟩,.refl _,λ_ h _=>h,λ_ h=>h⟩
 ·obtain rfl:t=80:=by omega
  refine s_exit (k_pass (k_pass (k_out (hK1 _ ?_))));refine s_reg λK hK=>?_;refine l_cell rfl arr8 (aD rfl) (.int .u64 (o.a:Int)) rfl (l_auto2 rfl (l_num 105 _ rfl (kw64.add (b:=q.a)) ?_));refine l_cell rfl arr8 (aD rfl) (.int .u64 (o.b:Int)) rfl (l_auto2 rfl (l_num 109 _ rfl (kw64.add (b:=q.b)) ?_));refine l_cell rfl arr8 (aD rfl) (.int .u64 (o.c:Int)) rfl (l_auto2 rfl (l_num 113 _ rfl (kw64.add (b:=q.c)) ?_));refine l_cell rfl arr8 (aD rfl) (.int .u64 (o.d:Int)) rfl (l_auto2 rfl (l_num 117 _ rfl (kw64.add (b:=q.d)) ?_));refine l_cell rfl arr8 (aD rfl) (.int .u64 (o.e:Int)) rfl (l_auto2 rfl (l_num 121 _ rfl (kw64.add (b:=q.e)) ?_));refine l_cell rfl arr8 (aD rfl) (.int .u64 (o.f:Int)) rfl (l_auto2 rfl (l_num 125 _ rfl (kw64.add (b:=q.f)) ?_));refine l_cell rfl arr8 (aD rfl) (.int .u64 (o.g:Int)) rfl (l_auto2 rfl (l_num 129 _ rfl (kw64.add (b:=q.g)) ?_));refine l_cell rfl arr8 (aD rfl) (.int .u64 (o.h:Int)) rfl (l_auto2 rfl (l_num 133 _ rfl (kw64.add (b:=q.h)) ?_));refine l_f (.p [.agg 8 (Us (pV 64 o q).list).toArray]) (eW_ok rfl) (λG S w C0 Q' _ _ hQ=>f_build ([(o.a+q.a)%2^64,(o.b+q.b)%2^64,(o.c+q.c)%2^64,(o.d+q.d)%2^64,(o.e+q.e)%2^64,(o.f+q.f)%2^64,(o.g+q.g)%2^64,(o.h+q.h)%2^64].zipIdx.map λx=>(x.2,.int .u64 ((x.1:Nat):Int))) (Us (pV 64 o q).list).toArray rfl rfl rfl rfl rfl (by kernel_rfl) hQ) rfl ?_;refine l_N hK rfl (s_ret ?_);rw [hq]
  exact k_ret TY_ok () rfl (by decide) rfl rfl rfl (λ_ _ _=>trivial) λ_ _=>trivial⟩
theorem size_w8(cs:Array Value)(h:cs.size=8):(Tryz.prog.info? 217).map (·.size)=some cs.size:=by
 rw [h]
 kernel_rfl
end Go.Proofs.YtlhlkofpjhpaoaaGreatDoor
namespace Go.Proofs.YtlhlkofpjhpaoaaGreatDoor
open Go.RowKit Go.IntWalk
theorem bytes_get:∀(k v:Nat) {m:Nat},m<k->((Nums.bytes k v)[m]!).toNat=v/256^m%256
 | k+1,v,0,_=>by
  show(bD v).toNat=v/1%256
  rw [UInt8.toNat_ofNat',Nat.div_one]
 | k+1,v,m+1,h=>by
  have ih:=bytes_get k (v/256) (m:=m) (by omega)
  show((Nums.bytes k (v/256))[m]!).toNat=v/256^(m+1)%256
  rw [ih,jN,cG,c8 256]
end Go.Proofs.YtlhlkofpjhpaoaaGreatDoor
namespace Go.Proofs.YtlhlkofpjhpaoaaGreatDoor
open Go.RowKit Go.IntWalk Nums
def rw4(y:Nat):List UInt8:=(Nums.bytes 4 y).reverse
theorem rw4_len(y:Nat):(rw4 y).length=4:=by
 unfold rw4
 rw [fI,b9]
def outq(h:List Nat)(i:Nat):List UInt8:=((h.take i).map rw4).flatten
theorem outq_next{h:List Nat}{i:Nat}(hi:i<h.length):outq h (i+1)=outq h i++rw4 h[i]!:=by
 unfold outq
 rw [qQ,aP hi,getElem!_pos h i hi,List.map_append,nH];simp only [Option.toList_some,bP,jO,l7,List.flatten_nil,bJ]
theorem outq_len{h:List Nat}:∀{i:Nat},i<=h.length->(outq h i).length=4*i
 | 0,_=>by simp [outq]
 | i+1,hi=>by
  rw [outq_next (by omega),aC,rw4_len,outq_len (by omega)]
  omega
theorem outq_digest(m:List UInt8):outq (vT cO m).list 8=cM cO m:=by
 unfold outq cM
 rw [List.take_of_length_le (aH 8)]
 rfl
end Go.Proofs.YtlhlkofpjhpaoaaGreatDoor
namespace Go.Proofs.YtlhlkofpjhpaoaaGreatDoor
open Go.RowKit Go.IntWalk
abbrev PartsF(P:Option Addr)(pc:Nat)(ss:List Seg)(w:World):Prop:=(0<ss.length->Rd 1 eSeg P pc ss w)/\∀s∈ss,s.rd w
instance pst_parts{P:Option Addr}{pc:Nat}{ss:List Seg}:Pst (PartsF P pc ss):=⟨λw w' h hb=>⟨λh0=>Pst.later _ _ (h.1 h0) hb,λs hs=>Pst.later (p:=s.rd) w w' (h.2 s hs) hb⟩⟩
theorem segs_of{w:World}{P:Option Addr}{pc:Nat}{ls:List (List UInt8)}(hn:ls.length<=pc/\pc<=9223372036854775807)(hP:Parts w w.heap.size P ls):∃ss:List Seg,ss.map Seg.l=ls/\PartsF P pc ss w:=by
 by_cases h0:0<ls.length
 ·obtain⟨ad,rfl,hb,h⟩:=hP h0
  have key:∀(ls:List (List UInt8)) (k:Nat),(∀(i:Nat) l,ls[i]?=some l->∃A' c,w.cell? (ad.add (k+i))=some (.slice A' l.length c)/\SL w 0 w.heap.size A' l c)->∃ss:List Seg,ss.map Seg.l=ls/\(∀i s,ss[i]?=some s->w.cell? (ad.add (k+i))=some (.slice s.A s.l.length s.c))/\∀s∈ss,s.rd w:=λls=>by
   induction ls with
   | nil=>exact λk _=>⟨[],rfl,λi s hs=>by simp at hs,λ_ h=>by cases h⟩
   | cons l ls ih =>
    intro k h
    obtain⟨ss,e,h1,h2⟩:=ih (k+1) λi l hl=>by rw [show k+1+i=k+(i+1) by omega];exact h (i+1) l hl
    obtain⟨A',c,h3,h4⟩:=h 0 l rfl;refine⟨⟨A',c,l⟩::ss,by rw [bP,e],λi s hs=>?_,λs hs=>?_⟩
    ·cases i with
     | zero=>cases hs;exact h3
     | succ i=>rw [show k+(i+1)=k+1+i by omega];exact h1 i s hs
    ·rcases aJ.1 hs with rfl|hs
     ·exact(Rd.of_sb ⟨A',c,rfl,h4⟩).2
     ·exact h2 s hs
  obtain⟨ss,e,h1,h2⟩:=key ls 0 λi l hl=>by rw [aX];exact h i l hl
  refine⟨ss,e,λh0'=>⟨by rw [<-e,List.length_map] at hn;exact hn.1,hn.2,λh=>(by cases h),okF_seg _,λ_=>?_⟩,h2⟩;obtain⟨b,o,sp⟩:=ad;have h0'':0<ss.length:=h0'
  have hsp:sp=none:=by
   have h8:=h1 0 ss[0] (aP h0'')
   cases sp with
   | none=>rfl
   | some s =>
    unfold World.cell? Addr.add at h8
    simp only [if_true] at h8
    split at h8
    ·simp at h8
    ·cases h8
  subst hsp;refine⟨b,o,rfl,hb,λi x hi j v hj=>?_⟩;have h8:=h1 i x hi;rw [cU,aX] at h8
  cases j with
  | zero =>
   cases hj
   rw [gM];exact h8
  | succ j=>cases hj
 ·obtain rfl:=bV (Nat.eq_zero_of_not_pos h0)
  exact⟨[],rfl,λh=>absurd h (Nat.lt_irrefl 0),λ_ h=>by cases h⟩
theorem take_flatS{ss:List Seg}{i:Nat}{s:Seg}(h:ss[i]?=some s):((ss.take i).map Seg.l).flatten++s.l=((ss.take (i+1)).map Seg.l).flatten:=by
 rw [qQ,h]
 simp
end Go.Proofs.YtlhlkofpjhpaoaaGreatDoor
namespace Go.Proofs.YtlhlkofpjhpaoaaGreatDoor
open Go.RowKit Go.IntWalk Nums
theorem digest256_len(m:List UInt8):(cM cO m).length=32:=by
 rw [<-outq_digest,outq_len (aH 8)]
end Go.Proofs.YtlhlkofpjhpaoaaGreatDoor
namespace Nums
def xsl(s:Sha)(b:List UInt8):Nat->List Nat
  | 0=>[]
  | t+1=>sx s b t::xsl s b t
theorem mK(s:Sha)(b:List UInt8):∀t,(xsl s b t).length=t
 | 0=>rfl
 | t+1=>by rw [xsl,bB,mK]
theorem mY(s:Sha)(b:List UInt8):∀t j,j<t->(xsl s b t)[j]! = sx s b (t-1-j)
 | 0,_,h=>absurd h (by omega)
 | t+1,0,_=>by
  show(sx s b t::xsl s b t)[0]! = _
  rw [Nat.add_sub_cancel,Nat.sub_zero]
  rfl
 | t+1,j+1,h=>by
  show(sx s b t::xsl s b t)[j+1]! = _
  have e:(sx s b t::xsl s b t)[j+1]! = (xsl s b t)[j]!:=by simp
  rw [e,mY s b t j (by omega)]
  congr 1
  omega
def pR(s:Sha)(b:List UInt8):Nat->List Nat
  | 0=>[]
  | t+1=>forced (uM s b t) λv=>v::pR s b t
theorem pG(s:Sha)(b:List UInt8):∀t,t<=16->pR s b t=xsl s b t
 | 0,_=>rfl
 | t+1,h=>by
  have e:sx s b t=uM s b t:=by rw [sx,dif_pos (by omega)]
  rw [pR,fP,xsl,pG s b t (by omega),e]
def grow(s:Sha):Nat->List Nat->List Nat
  | 0,L=>L
  | k+1,L=>forced ((oH s.w s.low1 L[1]! + L[6]! + oH s.w s.low0 L[14]! + L[15]!)%2^s.w) λv=>grow s k (v::L)
theorem r9(s:Sha)(b:List UInt8):∀k t,16<=t->grow s k (xsl s b t)=xsl s b (t+k)
 | 0,_,_=>rfl
 | k+1,t,h=>by
  have e:(oH s.w s.low1 (xsl s b t)[1]! + (xsl s b t)[6]! + oH s.w s.low0 (xsl s b t)[14]! + (xsl s b t)[15]!)%2^s.w=sx s b t:=by
   rw [mY s b t 1 (by omega),mY s b t 6 (by omega),mY s b t 14 (by omega),mY s b t 15 (by omega)]
   conv=>rhs;rw [sx,dif_neg (by omega)]
   rw [show t-1-1=t-2 from by omega,show t-1-6=t-7 from by omega,show t-1-14=t-15 from by omega,show t-1-15=t-16 from by omega]
  rw [grow,fP,e];have h2:=r9 s b k (t+1) (by omega);rw [xsl] at h2;rw [h2]
  congr 1
  omega
def uU(s:Sha):List Nat->Nat->Oct->Oct
  | [],_,o=>o
  | x::r,t,o=>forced (t1w s (s.k t) x o) λT=>forced ((T+t2w s o)%2^s.w) λA=>forced ((o.d+T)%2^s.w) λE=>uU s r (t+1) ⟨A,o.a,o.b,o.c,E,o.e,o.f,o.g⟩
theorem rU(s:Sha)(b:List UInt8)(o:Oct):∀(l:List Nat) (t:Nat),(∀j x,l[j]?=some x->x=sx s b (t+j))->uU s l t (nD s b o t)=nD s b o (t+l.length)
 | [],_,_=>rfl
 | x::r,t,h=>by
  have hx:=h 0 x rfl;rw [Nat.add_zero] at hx;subst hx;rw [uU];simp only [fP];have h2:=rU s b o r (t+1) (λj x hj=>by rw [h (j+1) x (by simpa using hj)];congr 1;omega);rw [show nD s b o (t+1)=rnd s (s.k t) (sx s b t) (nD s b o t) from rfl] at h2;rw [show t+(sx s b t::r).length=t+1+r.length from by rw [bB];omega,<-h2]
  rfl
def uO(w:Nat)(o q:Oct):Oct :=
  forced ((o.a+q.a)%2^w) λa=>forced ((o.b+q.b)%2^w) λb=>forced ((o.c+q.c)%2^w) λc=>forced ((o.d+q.d)%2^w) λd =>
  forced ((o.e+q.e)%2^w) λe=>forced ((o.f+q.f)%2^w) λf=>forced ((o.g+q.g)%2^w) λg=>forced ((o.h+q.h)%2^w) λh=>⟨a,b,c,d,e,f,g,h⟩
theorem uN(w:Nat)(o q:Oct):uO w o q=pV w o q:=by
 unfold uO
 simp only [fP]
 rfl
def tB(s:Sha)(o:Oct)(b:List UInt8):Oct:=uO s.w o (uU s (grow s (s.n-16) (pR s b 16)).reverse 0 o)
theorem tA{s:Sha}(hn:16<=s.n)(o:Oct)(b:List UInt8):tB s o b=fK s o b:=by
 rw [tB,uN,fK,pG s b 16 (aH _),r9 s b _ 16 (aH _),show 16+(s.n-16)=s.n from by omega]
 congr 1
 have h:=rU s b o (xsl s b s.n).reverse 0 (λj x hj=>by
  have hl:j<(xsl s b s.n).reverse.length:=(List.getElem?_eq_some_iff.1 hj).1;rw [fI,mK] at hl;rw [List.getElem?_reverse (by rw [mK];exact hl),mK] at hj;have h1:=mY s b s.n (s.n-1-j) (by omega);rw [List.getElem!_eq_getElem?_getD,hj] at h1;rw [show 0+j=s.n-1-(s.n-1-j) from by omega,<-h1]
  rfl)
 rw [fI,mK,aX] at h;exact h
def tG(s:Sha)(B:Nat):Nat->Oct->List UInt8->Oct
  | 0,o,_=>o
  | k+1,o,l=>tG s B k (tB s o (l.take B)) (l.drop B)
theorem rR{s:Sha}{B:Nat}(hB:0<B)(hn:16<=s.n):∀k o l,l.length=k*B->tG s B k o l=fD s B o l
 | 0,o,l,h=>by
  have h0:l=[]:=bV (by omega);subst h0;rw [tG,gX (by simpa using hB)]
 | k+1,o,l,h=>by
  have hl:(l.take B).length=B:=by rw [List.length_take,h,sZ];omega
  have hd:(l.drop B).length=k*B:=by rw [List.length_drop,h,sZ];omega
  rw [tG,tA hn,rR hB hn k _ _ hd]
  conv=>rhs;rw [<-eF B l,fZ hB hl]
def jT(s:Sha)(n:Nat)(m:List UInt8):List UInt8 :=
  ((tG s (2*s.w) n ⟨s.start[0]!,s.start[1]!,s.start[2]!,s.start[3]!,s.start[4]!,s.start[5]!,s.start[6]!,s.start[7]!⟩ (m++dW (2*s.w) (m.length%(2*s.w)) (8*m.length))).list.map (iD s)).flatten
theorem lU{s:Sha}(n:Nat)(m:List UInt8)(hw:0<2*s.w)(hn:16<=s.n)(h:(m++dW (2*s.w) (m.length%(2*s.w)) (8*m.length)).length=n*(2*s.w)):cM s m=jT s n m:=by
 rw [cM,vT,jT,rR hw hn n _ _ h]
end Nums
namespace Go.Proofs.YtlhlkofpjhpaoaaGreatDoor
open Go.RowKit
def row(k v:Nat):Array Value:=(By (aA (8-k) 0++(be8 v).drop (8-k))).toArray
theorem row_zero(v:Nat):row 0 v = #[cC dY 0,cC dY 0,cC dY 0,cC dY 0,cC dY 0,cC dY 0,cC dY 0,cC dY 0]:=rfl
theorem wrow_at(k v:Nat)(h:k<8):∃u,(row k v)[7-k]?=some (cC dY u):=by
 have:k=0\/k=1\/k=2\/k=3\/k=4\/k=5\/k=6\/k=7:=by omega
 rcases this with rfl|rfl|rfl|rfl|rfl|rfl|rfl|rfl<;>exact⟨_,rfl⟩
theorem byte_of(q:Nat):cC dY ((q:Int)%256)=cC dY ((bD q).toNat:Int):=by
 simp
theorem row_next(k v:Nat)(h:k<8):(row k v).setIfInBounds (7-k) (cC dY (((v/256^k:Nat):Int)%256))=row (k+1) v:=by
 have:k=0\/k=1\/k=2\/k=3\/k=4\/k=5\/k=6\/k=7:=by omega
 rw [byte_of]
 rcases this with rfl|rfl|rfl|rfl|rfl|rfl|rfl|rfl<;>simp [row,By,be8,aA]
theorem pow_next(k v:Nat):v/256^k/256=v/256^(k+1):=by rw [jN,cG]
theorem size57(cs:Array Value)(h:cs.size=8):(Tryz.prog.info? 179).map (·.size)=some cs.size:=by
 rw [h]
 kernel_rfl
theorem row_one(v:Nat):∀u∈(row 8 v).toList,u.oneCell'=true:=By_one _
theorem lay_any(v:Nat)(w:World)(hv:v<18446744073709551616) :
  Calls Tryz.prog 90 #[.int .u64 v] w λe w'=>e = .returned (.agg (By (be8 v)).toArray)/\Below w.heap.size w w':=by
 go_enter Tryz.func90,Tryz.ntmps90
 go_wp2
 go_loopw [0,4,5] (λq _ i wr=>∃k:Nat,k<=8/\i = .int .i64 k/\q = .int .u64 ((v/256^k:Nat):Int)/\Blk wr (w.heap.size+1) 179 (row k v)/\Blk wr w.heap.size 179 (row 0 v)/\Below w.heap.size w wr) (λ_ _ i _=>8-(intOf i).toNat)
 case atStart =>
  refine⟨0,by omega,rfl,by simp,?_,?_,?_⟩
  ·rw [row_zero]
   exact heap_alloc2_new w _ _
  ·rw [row_zero]
   exact heap_alloc2_old w _ _
  ·exact((Below.refl _ _).alloc (aH _) _).alloc (by simp) _
 case round =>
  obtain⟨k,hk,rfl,rfl,hb1,hb0,hbel⟩:=hrel
  by_cases hlt:k<8
  ·obtain⟨u,hu⟩:=wrow_at k v hlt
   have hc:=(hb1.cell (7-k)).trans hu;have hf:=hb1.free (7-k);have hq:v/256^k<18446744073709551616:=iN (k7 _ _) hv;clear hu
   go_wp2
   go_roundw
   case rel =>
    refine⟨k+1,by omega,by go_num,?_,?_,?_,?_⟩
    ·rw [<-pow_next]
     simp
    ·rw [<-row_next k v hlt]
     simpa using hb1.set (7-k) _
    ·exact hb0.far (by simp) _
    ·exact hbel.setCell (by simp) _
   case measure=>simp [intOf];omega
  ·obtain rfl:k=8:=by omega
   go_wp2_with (first
    | (refine wpList_load_row rfl 179 _ rfl (w.heap.size+1) rfl 179 (row 8 v) (0,0) _ hb1 Tryz.underlying179 rfl (size57 _ rfl) ?_)
    | (refine wpList_store_row rfl 179 _ _ rfl w.heap.size rfl (row 8 v) rfl 179 (row 0 v) hb0 (size57 _ rfl) rfl (row_one v) ?_))
   refine bodyPost_ret (results_cell_row rfl _ _ w.heap.size 179 (row 8 v) (0,0) _ rfl (hb0.row _) Tryz.underlying179 rfl (size57 _ rfl)) rfl ⟨rfl,?_⟩;exact below_setRow hbel (aH _) _
def wtot(ls:List (List UInt8)):Nat:=ls.flatten.length
theorem wtot_take(ls:List (List UInt8))(k:Nat)(h:k<ls.length):(ls.take (k+1)).flatten=(ls.take k).flatten++ls[k]:=by
 rw [List.take_succ_eq_append_getElem h,nH,l7,List.flatten_nil,bJ]
theorem wtot_succ(ls:List (List UInt8))(k:Nat)(h:k<ls.length):wtot (ls.take (k+1))=wtot (ls.take k)+ls[k].length:=by
 unfold wtot
 rw [wtot_take ls k h,aC]
theorem wtot_le(ls:List (List UInt8))(k:Nat)(h:k<ls.length):wtot (ls.take k)+ls[k].length<=wtot ls:=by
 rw [<-wtot_succ ls k h]
 unfold wtot
 conv=>rhs;rw [<-eF (k+1) ls,nH,aC]
 omega
theorem info5:(Tryz.prog.info? 5).map (λi=>(i.zero,i.size,i.bytes))=some (some (.int .u8 0),1,1):=by kernel_rfl
theorem join_any(PA:Option Addr)(ls:List (List UInt8))(pc hi:Nat)(w:World)(h:Parts w hi PA ls)(hhi:hi<=w.heap.size)(hpc:ls.length<=pc)(hm:pc<=9223372036854775807)(ht:wtot ls<=281474976710656) :
  Calls Tryz.prog 70 #[.slice PA ls.length pc] w λe w'=>e = .returned (.slice (some ⟨w.heap.size,0,none⟩) (wtot ls) (wtot ls)) /\
   w'.ownsRow w.heap.size 5 1 (.slice (some ⟨w.heap.size,0,none⟩) (wtot ls) (wtot ls)) (wtot ls) (By ls.flatten)/\Below w.heap.size w w':=by
 obtain⟨i0,hi0,hz0,hz1,hz2⟩:=info_parts info5
 go_enter Tryz.func70,Tryz.ntmps70
 go_wp2
 go_loop [3,5,11] (λs _ i=>∃k:Nat,k<=ls.length/\i = .int .i64 k/\s = .int .i64 (wtot (ls.take k))) (λ_ _ i=>ls.length-(intOf i).toNat)
 case atStart=>exact⟨0,aQ _,rfl,rfl⟩
 case round =>
  obtain⟨k,hk,rfl,rfl⟩:=hrel
  by_cases hlt:k<ls.length
  ·obtain⟨ad,rfl,_,hcell⟩:=h (by omega)
   obtain⟨A',c',hx,hsl⟩:=hcell k ls[k] (aP hlt);have hle:=wtot_le ls k hlt;have hl1:=hsl.1;have hl2:=hsl.2.1;clear hcell hsl
   go_wp2
   go_round
   case rel=>exact⟨k+1,by omega,by go_num,by rw [wtot_succ ls k hlt];go_num⟩
   case measure=>simp [intOf];omega
  ·obtain rfl:k=ls.length:=by omega
   have H:=dL ht;rw [gN]
   go_wp2_with (at_make;refine wpList_make_own _ rfl _ _ 51 rfl w.heap.size 5 i0 _ 1 Tryz.underlying51 hi0 hz0 hz1 .i64 .i64 _ (wtot ls) rfl rfl rfl (by rw [hz2];have:=H.out;omega) (by have:=H.out;unfold maxLen;omega) (aH _) ?_;intro w1 hown1 hg1)
   have hb1:Below w.heap.size w w1:=(Below.refl _ _).grown hg1 (aH _) (by simp);clear hg1
   go_loopw [6,8,24] (λv _ i wr=>∃k:Nat,k<=ls.length/\i = .int .i64 k/\v = .slice (some ⟨w.heap.size,0,none⟩) (wtot (ls.take k)) (wtot ls) /\
    wr.ownsRow w.heap.size 5 1 (.slice (some ⟨w.heap.size,0,none⟩) (wtot (ls.take k)) (wtot ls)) (wtot (ls.take k)) (By (ls.take k).flatten)/\Below w.heap.size w wr) (λ_ _ i _=>ls.length-(intOf i).toNat)
   case atStart=>exact⟨0,aQ _,rfl,rfl,hown1,hb1⟩
   case round =>
    obtain⟨k,hk,rfl,rfl,hown,hb⟩:=hrel
    by_cases hlt:k<ls.length
    ·obtain⟨ad,rfl,_,hcell⟩:=h.below hb hhi (by omega)
     obtain⟨A',c',hx,hsl⟩:=hcell k ls[k] (aP hlt);have hle:=wtot_le ls k hlt;have hn:=hsl.none_;have hcs:=hsl.cells;have HN:=dL hn;have HC:=dL hcs;have HL:=dL hown;clear hcell hsl hn hcs hown
     go_wp2_with (at_builtin;refine wpList_append_fits_any _ rfl (.tmp 28) (.tmp 29) 51 rfl w.heap.size 5 i0 1 Tryz.underlying51 hi0 hz1 w.heap.size (wtot (ls.take k)) (wtot ls) _ rfl HL.out A' ls[k].length c' (By ls[k]) rfl (by rw [By_len,Nat.mul_one]) HN.out HC.out (By_one _) hle ?_;intro w2 hown2 hg2)
     go_roundw
     case rel =>
      rw [<-By_app,<-wtot_take ls k hlt,<-wtot_succ ls k hlt] at hown2;exact⟨k+1,by omega,by go_num,by rw [wtot_succ ls k hlt],hown2,hb.grown hg2 hb.size (by intro x hx;injection hx with hx;omega)⟩
     case measure=>simp [intOf];omega
    ·obtain rfl:k=ls.length:=by omega
     rw [gN] at hown ⊢
     go_wp2
     go_ret
     exact⟨rfl,hown,hb⟩
theorem own_base{w:World}{base base' size n:Nat}{e:TypeId}{v:Value}{xs:List Value}(h:w.ownsRow base e size v n xs)(hb:base'<=base):w.ownsRow base' e size v n xs:=by
 obtain⟨h1,h2⟩:=h;refine⟨h1,?_⟩
 rcases h2 with h2|⟨g,cap,cur,hv,hg,r⟩
 ·exact .inl h2
 ·exact .inr ⟨g,cap,cur,hv,by omega,r⟩
def Made(w:World)(l:List UInt8)(e:Ending)(w':World):Prop :=
  ∃g,e = .returned (.slice (some ⟨g,0,none⟩) l.length l.length)/\w'.ownsRow w.heap.size 5 1 (.slice (some ⟨g,0,none⟩) l.length l.length) l.length (By l)/\Below w.heap.size w w'
theorem SL.blk{w:World}{g t lo hi:Nat}{l:List UInt8}(h:Blk w g t (By l).toArray)(h1:lo<=g)(h2:g<hi)(hm:l.length<=9223372036854775807):SL w lo hi (some ⟨g,0,none⟩) l l.length :=
 ⟨aH _,hm,λh=>(by cases h),λ_=>⟨_,rfl,h1,h2,λj x hx=>by
  have hadd:(⟨g,0,none⟩:Addr).add j=⟨g,j,none⟩:=by unfold Addr.add;split<;>simp_all
  rw [hadd,h.cell]
  simp [By,hx]⟩⟩
theorem parts_new7{w:World}{hi:Nat}{ls:List (List UInt8)}{vs:List Value}(hhi:hi<=w.heap.size)
 (h:∀(i:Nat) l,ls[i]?=some l->∃A c,vs[i]?=some (.slice A l.length c)/\SL w 0 hi A l c) :
  Parts (w.alloc (.cells vs.toArray 51)) (w.heap.size+1) (some ⟨w.heap.size,0,none⟩) ls:=λ_=>by
 refine⟨_,rfl,by simp,λi l hi'=>?_⟩;obtain⟨A,c,h1,h2⟩:=h i l hi';refine⟨A,c,?_,(h2.alloc _ hhi).more (aH _) (by omega)⟩
 have hadd:(⟨w.heap.size,0,none⟩:Addr).add i=⟨w.heap.size,i,none⟩:=by unfold Addr.add;split<;>simp_all
 rw [hadd,(Blk.new w 51 vs.toArray).cell]
 simpa using h1
theorem join_made(w wz:World)(PA:Option Addr)(n hi:Nat)(ls:List (List UInt8))(hn:ls.length=n)(h:Parts wz hi PA ls)(hhi:hi<=wz.heap.size)(hm:n<=9223372036854775807)(ht:wtot ls<=281474976710656)(hb:Below w.heap.size w wz) :
  Calls Tryz.prog 70 #[.slice PA n n] wz (Made w ls.flatten):=by
 subst hn;refine(join_any PA ls ls.length hi wz h hhi (aH _) hm ht).mono λe w' ⟨he,ho,hb'⟩=>?_;exact⟨wz.heap.size,he,own_base ho hb.size,hb.trans (hb'.mono hb.size)⟩
theorem bytes_any(A X:Option Addr)(l x:List UInt8)(c d hi:Nat)(w:World)(h:SL w 0 hi A l c)(hx:SL w 0 hi X x d)(hhi:hi<=w.heap.size)(hl:l.length+8+x.length<=281474976710656) :
  Calls Tryz.prog 100 #[.slice A l.length c,.slice X x.length d] w (Made w (l++be8 x.length++x)):=by
 have hxl:x.length<18446744073709551616:=by omega
 go_enter Tryz.func100,Tryz.ntmps100
 go_wp2_with (fail)
 refine(lay_any x.length w hxl).mono ?_
 rintro e w1 ⟨rfl,hb1⟩
 have h1:Blk (w1.alloc (gZ (row 0 0) 179)) w1.heap.size 179 (row 0 0):=Blk.new w1 179 (row 0 0);have hbz:=below_setRow (hb1.alloc hb1.size (gZ (row 0 0) 179)) hb1.size (By (be8 x.length)).toArray;have hs1:SL ((w1.alloc (gZ (row 0 0) 179)).setRow w1.heap.size (By (be8 x.length)).toArray) 0 (w1.heap.size+1) (some ⟨w1.heap.size,0,none⟩) (be8 x.length) 8:=SL.blk (h1.row _) (aQ _) (by omega) (by rw [be8_len];omega);have hs2:=(h.below hbz hhi).more (aH 0) (show hi<=w1.heap.size+1 by have:=hb1.size;omega);have hs3:=(hx.below hbz hhi).more (aH 0) (show hi<=w1.heap.size+1 by have:=hb1.size;omega)
 have hp:=parts_new7 (w:=(w1.alloc (gZ (row 0 0) 179)).setRow w1.heap.size (By (be8 x.length)).toArray) (hi:=w1.heap.size+1) (ls:=[l,be8 x.length,x]) (vs:=[.slice A l.length c,.slice (some ⟨w1.heap.size,0,none⟩) 8 8,.slice X x.length d]) (by simp) (by
  intro i y hy
  match i,hy with
  | 0,hy=>injection hy with hy;subst hy;exact⟨_,_,rfl,hs2⟩
  | 1,hy=>injection hy with hy;subst hy;exact⟨_,_,rfl,hs1⟩
  | 2,hy=>injection hy with hy;subst hy;exact⟨_,_,rfl,hs3⟩)
 have hbq:=hbz.alloc hbz.size (gZ #[.slice A l.length c,.slice (some ⟨w1.heap.size,0,none⟩) 8 8,.slice X x.length d] 51);simp only [cY,size_setRow] at hp;rw [row_zero] at h1 hp hbq;have hJ:=join_made w _ _ 3 _ [l,be8 x.length,x] rfl hp (by simp) (by omega) (by unfold wtot;simp [be8_len];omega) hbq;have HJ:=dL hJ;clear hJ hp hbq hs1 hs2 hs3 hbz
 go_wp2_with (refine wpList_store_row rfl 179 _ _ rfl w1.heap.size rfl (By (be8 x.length)).toArray rfl 179 _ h1 (size57 _ rfl) rfl (By_one _) ?_)
 refine HJ.out.mono ?_
 rintro e w2 ⟨g,rfl,ho,hb2⟩
 go_wp2
 go_ret
 exact⟨g,by simp [be8_len],by simpa [be8_len,List.append_assoc] using ho,hb2⟩
end Go.Proofs.YtlhlkofpjhpaoaaGreatDoor
namespace Go.Proofs.YtlhlkofpjhpaoaaGreatDoor
open Go.RowKit Go.IntWalk
def msg(t:UInt8)(b:List UInt8):List UInt8:=[119,105,116,97,110,t]++be8 b.length++b
theorem msg_app(t:UInt8)(b:List UInt8):[119,105,116,97,110]++[t]++be8 b.length++b=msg t b:=by simp [msg]
theorem run_sliceB(vs:List Value)(n:Nat)(parts:Array (Nat×Value))(hp:parts.toList=(vs.zipIdx 0).map λx=>(x.2,x.1))(hn:vs.length=n)(h0:0<n)(h24:n<=16777216)(h1:∀v∈vs,v.cells = #[v])(w:World) :
  (Instr.buildSlice 51 n parts).run Tryz.prog w = .ok (.slice (some ⟨w.heap.size,0,none⟩) n n) (w.alloc (.cells vs.toArray 5)):=by
 obtain⟨ie,h2,h3,h4,_⟩:=info_parts info_byte;refine run_buildSlice w 51 5 n parts vs.toArray ie _ Tryz.underlying51 h2 h3 (by rw [h4];omega) (by rw [h4];omega) ?_;rw [hp,h4];exact Great.fill_flat _ _ h1 (by simp [hn])
section
variable{ops:Array Oper}{Q:Exit->Act->World->Prop}{N:Nat}{E:List (Nat×Value)}{w:World}{o o2:Oper}{rest:List Oper}{k k2:Nat}
theorem l_sliceB{n:Nat}{parts:Array (Nat×Operand)}(l:List UInt8)(hw:WG ops N E o)(hd:o.dst=some k)(hk:aO k N=true)(ho:o.op = .buildSlice 51 n parts)
 (hv:parts.toList.map (λp=>(p.1,ev E p.2))=((By l).zipIdx 0).map λx=>(x.2,some x.1))(hn:l.length=n)(h0:0<n)(h24:n<=16777216)
 (hk2:lF Tryz.prog ops Q rest N ((k,.slice (some ⟨w.heap.size,0,none⟩) n n)::E) (w.alloc (.cells (By l).toArray 5))):lF Tryz.prog ops Q (o::rest) N E w:=by
 refine l_valW (.slice (some ⟨w.heap.size,0,none⟩) n n) (w.alloc (.cells (By l).toArray 5)) hw hd hk (λa ha=>?_) hk2
 have hm:∀(l:List (Nat×Operand)) (m:List (Value×Nat)),l.map (λp=>(p.1,ev E p.2))=m.map (λx=>(x.2,some x.1))->l.map (λ(i,x)=>(i,a.eval x))=m.map λx=>(x.2,x.1):=by
  intro l
  induction l with
  | nil=>intro m h;cases m with
   | nil=>rfl
   | cons=>cases h
  | cons p l ih=>intro m h;cases m with
   | nil=>cases h
   | cons u m =>
    simp only [bP,List.cons.injEq,cP] at h ⊢;exact⟨⟨h.1.1,ha.eval h.1.2⟩,ih m h.2⟩
 have hr:=run_sliceB (By l) n (parts.map λ(i,x)=>(i,a.eval x)) (by rw [Array.toList_map];exact hm _ _ hv) (by rw [By_len];exact hn) h0 h24 (λv hv=>by
  obtain⟨x,_,rfl⟩:=bO.1 hv
  rfl) w
 unfold execOp
 simp only [ho,aF,hr,aB,aG]
theorem l_litB{n:Nat}{parts:Array (Nat×Operand)}(l:List UInt8)(hw:WG ops N E o)(hd:o.dst=some k)(hk:aO k N=true)(ho:o.op = .buildSlice 51 n parts)
 (hv:parts.toList.map (λp=>(p.1,ev E p.2))=((By l).zipIdx 0).map λx=>(x.2,some x.1))(hn:l.length=n)(h0:0<n)(h24:n<=16777216)
 (hw2:∀v,WG ops N ((k,v)::E) o2)(hd2:o2.dst=some k2)(hk2:aO k2 N=true)(ho2:o2.op = .convert 51 51 (.tmp k))
 (hn2:∀W g,Up w W->SB W (.slice (some ⟨g,0,none⟩) n n) l->lF Tryz.prog ops Q rest N ((k2,.slice (some ⟨g,0,none⟩) n n)::(k,.slice (some ⟨g,0,none⟩) n n)::E) W):lF Tryz.prog ops Q (o::o2::rest) N E w:=by
 refine l_sliceB l hw hd hk ho hv hn h0 h24 ?_
 have hsz:(By l).toArray.size=n:=by rw [aV,By_len,hn]
 refine l_valW (.slice (some ⟨w.heap.size,0,none⟩) n n) (w.alloc (.cells (By l).toArray 5 (n,n+1))) (hw2 _) hd2 hk2 (λa ha=>?_) (hn2 _ w.heap.size ((Up.refl w).alloc _) ?_)
 ·have h1:a.eval (.tmp k) = .slice (some ⟨w.heap.size,0,none⟩) n n:=ha.get k _ (by rw [look_cons,if_pos rfl])
  have hr:=Lib.run_convert_bytes_const (P:=Tryz.prog) w 51 5 (By l).toArray n n Tryz.underlying51 Tryz.underlying5;rw [hsz] at hr
  unfold execOp
  simp only [ho2,h1,aF,hr,aB,aG]
 ·have hc:(w.alloc (.cells (By l).toArray 5 (n,n+1))).heap[w.heap.size]?=some (.cells (By l).toArray 5 (n,n+1)):=heap_alloc_new w _
  have hs2:(w.alloc (.cells (By l).toArray 5 (n,n+1))).heap.size=w.heap.size+1:=cY _ _;refine⟨some ⟨w.heap.size,0,none⟩,n,by rw [hn],by omega,by omega,λh=>(by cases h),λ_=>⟨_,rfl,aQ _,by rw [hs2];exact Nat.lt_succ_self _,λj u hu=>?_⟩⟩;rw [cU,cell_of_row _ _ _ _ _ _ hc,aX]
  simp [By,hu]
theorem l_appG{s x:Operand}{c d:Nat}{A X:Option Addr}{xs l:List UInt8}(hg:o.guard=none)(hd:o.dst=some k)(hk:aO k N=true)(ho:o.op = .call { callee:=.builtin .append,args:=#[s,x],argTypes:=#[51,51] })
 (hs:ev E s=some (.slice A xs.length c))(hx:ev E x=some (.slice X l.length d))(hS:SL w 0 w.heap.size A xs c)(hX:SL w 0 w.heap.size X l d)(h0:0<xs.length)(hl:0<l.length)(hc:c<xs.length+l.length)(hb:xs.length+l.length<=140737488355328)
 (hn:∀W v,Up w W->SB W v (xs++l)->lF Tryz.prog ops Q rest N ((k,v)::E) W):lF Tryz.prog ops Q (o::rest) N E w:=by
 obtain⟨i,hi0,hz0,hs0,hby⟩:=info_parts info_byte;obtain⟨ad,rfl,_,_,_⟩:=hS.2.2.2 h0;obtain⟨bd,rfl,_,_,_⟩:=hX.2.2.2 hl;obtain⟨v',w',hr,ho',hgr⟩:=run_append_arg_grows (P:=Tryz.prog) w 51 o.type 5 i _ 1 1 Tryz.underlying51 hi0 hz0 hs0 hby rfl (by omega) ad xs.length c (By xs) (by rw [By_len,Nat.mul_one]) (hS.cells ad rfl) bd l.length d (By l) (by rw [By_len,Nat.mul_one]) (hX.cells bd rfl) hc (by unfold maxLen;omega) (by omega);rw [<-By_app,<-aC] at ho';have hU:Up w w':=(Below.refl _ _).grown hgr (aH _) (by simp);refine l_val v' hg hd hk (λa ha=>?_) (hn w' v' hU ?_)
 ·have h2:=ha.eval hs
  have h3:=ha.eval hx
  unfold execOp
  simp only [ho,resolve,invoke,builtin,aF,aG,aB,List.map_toArray,bP,jO,h2,h3,hr]
 ·obtain⟨A',c',rfl⟩:∃A' c',v' = .slice A' (xs++l).length c':=by
   rcases ho'.2 with⟨h0,hn⟩|⟨g,cap,cur,hv,_⟩
   ·exact⟨none,0,by rw [h0,hn]⟩
   ·exact⟨_,_,hv⟩
  exact(show GS w' w.heap.size 5 A' c' (By (xs++l)) from by unfold GS;rw [By_len];exact ho').sb
end
theorem SB.sl{w:World}{v:Value}{l:List UInt8}(h:SB w v l):∃A c,v = .slice A l.length c/\SL w 0 w.heap.size A l c:=h
theorem own_r7signed:Own 69:=λ_ _=>by go_simp
theorem own_w1bytes:Own 100:=λ_ _=>by go_simp
theorem signed_M(t:UInt8){v:Value}{b:List UInt8}(w:World)(hv:SB w v b)(hb:b.length<=140737488355312):Calls Tryz.prog 69 #[.int .u8 (t.toNat:Int),v] w (Made w (msg t b)):=by
 refine calls_F (vs:=[.int .u8 (t.toNat:Int),v]) 12 Tryz.func69 rfl (by rw [Tryz.ntmps69];rfl) ?_;refine c_seq λK hK=>?_;refine c_qF ?_;refine f_assign (.slice none 0 0) rfl rfl rfl rfl rfl ?_;refine f_end λw1 hw1=>hK _ _ ?_;clear hK K;replace hv:=hv.later hw1;have hU:Up w w1:=hw1;clear hw1;refine c_seq λK hK=>?_;refine c_lit ?_;refine l_litB [119,105,116,97,110] (.inl rfl) rfl rfl rfl rfl rfl (by decide) (by decide) (λ_=>.inl rfl) rfl rfl rfl λw2 g2 hw2 h2=>?_;replace hv:=hv.later hw2;replace hU:=hU.step hw2;clear hw2;refine l_move (.int .u8 (t.toNat:Int)) rfl rfl rfl rfl rfl ?_;refine l_sliceB [t] (.inl rfl) rfl rfl rfl rfl rfl (by decide) (by decide) ?_;have hal:=(Up.refl w2).alloc (.cells (By [t]).toArray 5);have h3:SB (w2.alloc (.cells (By [t]).toArray 5)) (.slice (some ⟨w2.heap.size,0,none⟩) 1 1) [t]:=SB.all (Blk.new w2 5 _) rfl (by decide);replace h2:=h2.later hal;replace hv:=hv.later hal;replace hU:=hU.step hal;clear hal;generalize w2.alloc (.cells (By [t]).toArray 5)=w3 at *;generalize w2.heap.size=g3 at *;obtain⟨A2,c2,e2,s2⟩:=h2.sl;obtain⟨A3,c3,e3,s3⟩:=h3.sl
 injection e2 with x1 x2 x3
 injection e3 with y1 y2 y3
 subst x1 x3 y1 y3;refine l_appG (xs:=[119,105,116,97,110]) (l:=[t]) rfl rfl rfl rfl rfl rfl s2 s3 (by decide) (Nat.zero_lt_one) (show 5<5+1 by omega) (show 5+1<=140737488355328 by omega) λw4 v4 hw4 h4=>?_;replace hv:=hv.later hw4;replace hU:=hU.step hw4;refine l_move v rfl rfl rfl rfl rfl ?_;obtain⟨L,hL⟩:∃L,L=[119,105,116,97,110]++[t]:=⟨_,rfl⟩
 have hm:L++be8 b.length++b=msg t b:=by rw [hL,msg_app]
 have hlen:L.length=6:=by rw [hL];rfl
 rw [<-hL] at h4;clear hL;obtain⟨A4,c4,rfl,s4⟩:=h4.sl;obtain⟨A5,c5,rfl,s5⟩:=hv.sl;refine l_call #[.slice A4 L.length c4,.slice A5 b.length c5] rfl rfl rfl own_w1bytes (bytes_any A4 A5 L b c4 c5 w4.heap.size w4 s4 s5 (aH _) (by omega)) rfl rfl ?_
 rintro e w5 ⟨g,rfl,ho,hb5⟩
 rw [hm] at ho ⊢;have h6:w5.ownsRow w.heap.size 5 1 (.slice (some ⟨g,0,none⟩) (msg t b).length (msg t b).length) (msg t b).length (By (msg t b)):=⟨ho.1,ho.2.elim Or.inl λ⟨g,cap,cur,hv,hg,r⟩=>Or.inr ⟨g,cap,cur,hv,Nat.le_trans hU.size hg,r⟩⟩;refine⟨_,rfl,?_⟩;refine l_assign (.slice (some ⟨g,0,none⟩) (msg t b).length (msg t b).length) rfl rfl rfl rfl rfl ?_;refine l_nil ?_;refine hK _ _ ?_;clear hK K;refine c_ret λa ha=>?_;exact bodyPost_ret (results_tmp rfl _ _ _) ha.defers ⟨g,congrArg Ending.returned (ha.get 4 _ rfl),h6,hU.step hb5⟩
theorem mul64_any(x y:Nat)(hx:x<18446744073709551616)(hy:y<18446744073709551616)(w:World) :
  Calls Tryz.prog 163 #[.int .u64 x,.int .u64 y] w λe w'=>e = .returned (.tuple #[.int .u64 ((x*y/18446744073709551616:Nat):Int),.int .u64 ((x*y%18446744073709551616:Nat):Int)])/\w'=w:=by
 obtain⟨bd,bt,bw,hhi⟩:=Lib.mul64_hi x y hx hy;have ba:=p9 (a:=x/4294967296) (b:=y/4294967296) (by omega) (by omega);have bb:=p9 (a:=x/4294967296) (b:=y%4294967296) (by omega) (by omega);have bc:=p9 (a:=x%4294967296) (b:=y/4294967296) (by omega) (by omega)
 have ba':x/4294967296*(y/4294967296)<18446744073709551616:=by omega
 have bb':x/4294967296*(y%4294967296)<18446744073709551616:=by omega
 have bc':x%4294967296*(y/4294967296)<18446744073709551616:=by omega
 have bh1:x/4294967296*(y/4294967296)+(x/4294967296*(y%4294967296)+x%4294967296*(y%4294967296)/4294967296)/4294967296<18446744073709551616:=by omega
 have bh:x/4294967296*(y/4294967296)+(x/4294967296*(y%4294967296)+x%4294967296*(y%4294967296)/4294967296)/4294967296+((x/4294967296*(y%4294967296)+x%4294967296*(y%4294967296)/4294967296)%4294967296+x%4294967296*(y/4294967296))/4294967296<18446744073709551616:=by omega
 go_enter Tryz.func163,Tryz.ntmps163
 go_wp2
 simp only [mask32 x hx,mask32 y hy,div32,mulN,addN,wrapN _ bd,wrapN _ bb',wrapN _ bt,mask32 _ bt,wrapN _ bc',wrapN _ bw,wrapN _ ba',wrapN _ bh1,wrapN _ bh,wrapM (x*y)];rw [hhi]
 go_ret2
 exact⟨rfl,rfl⟩
theorem add64_run(x y c:Nat)(hc:c<=1)(w:World):(callFunc 162 #[.int .u64 x,.int .u64 y,.int .u64 c]).run Tryz.prog w =
  .ok (.value (.tuple #[.int .u64 (((x+y+c)%18446744073709551616:Nat):Int),.int .u64 (((x+y+c)/18446744073709551616:Nat):Int)])) w:=by
 rw [run_callFunc_extern Tryz.func162 (by kernel_rfl) (by kernel_rfl) (by kernel_rfl) (e:=add64Entry) (by kernel_rfl),run_add64 x y c (by omega) (by omega) (by omega) (by omega)];simp only [Result.andThen]
 congr 5<;>omega
theorem add64_int(x y c:Int)(hx:0<=x)(hy:0<=y)(hc0:0<=c)(hc:c<=1)(w:World):(callFunc 162 #[.int .u64 x,.int .u64 y,.int .u64 c]).run Tryz.prog w =
  .ok (.value (.tuple #[.int .u64 ((x+y+c)%18446744073709551616),.int .u64 ((x+y+c)/18446744073709551616)])) w:=by
 obtain⟨x,rfl⟩:=lV hx;obtain⟨y,rfl⟩:=lV hy;obtain⟨c,rfl⟩:=lV hc0;refine(add64_run x y c (by omega) w).trans ?_
 congr 5<;>omega
theorem add64_int0(x y:Int)(hx:0<=x)(hy:0<=y)(w:World):(callFunc 162 #[.int .u64 x,.int .u64 y,.int .u64 0]).run Tryz.prog w =
  .ok (.value (.tuple #[.int .u64 ((x+y)%18446744073709551616),.int .u64 ((x+y)/18446744073709551616)])) w:=by
 simpa using add64_int x y 0 hx hy (Int.le_refl 0) (by decide) w
theorem sub64_run(x y b:Nat)(hb:b<=1)(w:World):(callFunc 164 #[.int .u64 x,.int .u64 y,.int .u64 b]).run Tryz.prog w =
  .ok (.value (.tuple #[.int .u64 (((x+18446744073709551616-y-b)%18446744073709551616:Nat):Int),.int .u64 ((if x<y+b then 1 else 0:Nat):Int)])) w:=by
 rw [run_callFunc_extern Tryz.func164 (by kernel_rfl) (by kernel_rfl) (by kernel_rfl) (e:=subEntry) (by kernel_rfl),run_sub x y b hb]
 rfl
end Go.Proofs.YtlhlkofpjhpaoaaGreatDoor
namespace Go.Proofs.YtlhlkofpjhpaoaaGreatDoor
open Go.RowKit Go.IntWalk Nums
theorem size_w4(cs:Array Value)(h:cs.size=4):(Tryz.prog.info? 143).map (·.size)=some cs.size:=by
 rw [h]
 kernel_rfl
theorem size_sc(cs:Array Value)(h:cs.size=4):(Tryz.prog.info? 145).map (·.size)=some cs.size:=by
 rw [h]
 kernel_rfl
def z4:Array Value:=(Us [0,0,0,0]).toArray
theorem len_u4{l:List Nat}(h:l.length=4):(Us l).toArray.size=4:=by rw [aV,Us_len,h]
theorem wsum_f{A B:Nat}(hA:A<115792089237316195423570985008687907853269984665640564039457584007913129639936)(hB:B<115792089237316195423570985008687907853269984665640564039457584007913129639936)(w:World) :
  Calls Tryz.prog 130 #[.agg (Us (ws A)).toArray,.agg (Us (ws B)).toArray] w λe w'=>e = .returned (.agg (Us (ws ((A+B)%115792089237316195423570985008687907853269984665640564039457584007913129639936))).toArray)/\Below w.heap.size w w':=by
 rw [<-vU hA hB];have ha:=λk=>j3 A (k:=k);have hb:=λk=>j3 B (k:=k);have la:=jX A;have lb:=jX B;have hc:=sup_le ha hb;clear hA hB;generalize ws A=a at *;generalize ws B=b at *
 go_enter Tryz.func130,Tryz.ntmps130
 go_wp2
 go_loopw [7,5] (λi u wr=>∃k:Nat,k<=4/\i = .int .i64 k/\u = .int .u64 (sup a b k:Nat)/\Blk wr w.heap.size 143 (Us (mxl (swd a b) a k)).toArray/\Blk wr (w.heap.size+1) 143 (Us b).toArray/\Blk wr (w.heap.size+1+1) 143 z4/\Below w.heap.size w wr) (λi _ _=>4-(intOf i).toNat)
 case atStart =>
  refine⟨0,by omega,rfl,rfl,?_,blk3_1 w _ _ _ _,blk3_2 w _ _ _ _,(((Below.refl _ _).alloc (aH _) _).alloc (by simp) _).alloc (by simp;omega) _⟩;rw [mN];exact blk3_0 w _ _ _ _
 case round =>
  obtain⟨k,hk,rfl,rfl,h0,h1,h2,hbel⟩:=hrel
  by_cases hlt:k<4
  ·have hN:=kM (swd a b) a (k:=k)
   have hU:sup a b (k+1)=(a[k]! + b[k]! + sup a b k)/18446744073709551616:=rfl;have hS:swd a b k=(a[k]! + b[k]! + sup a b k)%18446744073709551616:=rfl;have hg:=rY (swd a b) a (k:=k) (by omega);have c0:=(h0.drew.cell k).trans (Us_at (by rw [gJ];omega));rw [hg] at c0;have c1:=(h1.drew.cell k).trans (Us_at (by omega));have b0:=ha k hlt;have b1:=hb k hlt;have b2:=hc k (by omega);have hf:=h0.drew.free k;rw [hS] at hN;generalize a[k]! = u at *;generalize b[k]! = v at *;generalize sup a b k=c at *;have hA:=add64_run u v c b2
   have q2:(0:Int)<=(k:Int):=by omega
   have HK:=dL (eN h0 (eN h1 (eN h2 (eN hbel (eN hN hU)))));clear h0 h1 h2 hbel hN hg hU hS ha hb hc;generalize (u+v+c)%18446744073709551616=s at *;generalize (u+v+c)/18446744073709551616=t at *
   go_wp2
   go_region_with (simp only [hA])
   all_goals (
    go_wp2
    go_roundw
    case rel =>
     obtain⟨h0,h1,h2,hbel,hN,hU⟩:=HK.out;have h4:=h0.set k (.int .u64 ((s:Nat):Int));rw [Us_set,hN] at h4;exact⟨k+1,by omega,by go_num,by rw [hU],h4,h1.far (by simp) _,h2.far (by simp;omega) _,(hbel.setCell (by simp) _).drew⟩
    case measure=>simp [intOf];omega)
  ·obtain rfl:k=4:=by omega
   have hz:(Us (mxl (swd a b) a 4)).toArray.size=4:=len_u4 (by rw [gJ,la])
   go_wp2_with (first
    | (refine wpList_load_row rfl 143 _ rfl w.heap.size rfl 143 (Us (mxl (swd a b) a 4)).toArray (0,0) _ h0 Tryz.underlying143 rfl (size_w4 _ hz) ?_)
    | (refine wpList_store_row rfl 143 _ _ rfl (w.heap.size+1+1) rfl (Us (mxl (swd a b) a 4)).toArray rfl 143 _ h2 (size_w4 _ hz) (by rw [hz];rfl) (Us_one _) ?_))
   refine bodyPost_ret (results_cell_row rfl _ _ (w.heap.size+1+1) 143 (Us (mxl (swd a b) a 4)).toArray (0,0) _ rfl (h2.row _) Tryz.underlying143 rfl (size_w4 _ hz)) rfl ⟨rfl,?_⟩;exact below_setRow hbel (by omega) _
theorem own_wsum:Own 130:=λ_ _=>by go_simp
theorem ws_LL:ws LL=[6346243789798364141,1503914060200516822,0,1152921504606846976]:=by decide
theorem cell4(a b c d:Nat):(Us [a,b,c,d]).toArray = #[.int .u64 (a:Int),.int .u64 (b:Int),.int .u64 (c:Int),.int .u64 (d:Int)]:=rfl
theorem mask60(a:Nat)(ha:a<18446744073709551616):bits .and .u64 (a:Int) 1152921504606846975=((a%1152921504606846976:Nat):Int):=by
 have h:=u64_and_nat a 1152921504606846975 ha (by omega);have e:a &&& 1152921504606846975=a%1152921504606846976:=kC a 60;rw [e] at h;exact h
theorem red_f{v0 v1 v2 v3 u:Nat}(h0:v0<18446744073709551616)(h1:v1<18446744073709551616)(h2:v2<18446744073709551616)(h3:v3<18446744073709551616)(hu:u<1073741824)(w:World) :
  Calls Tryz.prog 131 #[.agg (Us [v0,v1,v2,v3,u]).toArray] w λe w'=>e = .returned (.agg (Us (ws ((v4 v0 v1 v2 v3+115792089237316195423570985008687907853269984665640564039457584007913129639936*u)%LL))).toArray)/\Below w.heap.size w w':=by
 obtain⟨t,ht⟩:∃t,t=u*16+v3/1152921504606846976:=⟨_,rfl⟩
 have htb:t<34359738368:=by omega
 have qt:bits .or .u64 ((u:Int)*16) ((v3:Int)/1152921504606846976)=(t:Int):=by
  have e:=orW 4 (u*16) (v3/1152921504606846976) (by omega) (by omega) (by omega) (by omega);rw [ht,<-e]
  rfl
 have HM0:=λw1=>dL (mul64_any t 6346243789798364141 (by omega) (by omega) w1);have HM1:=λw1=>dL (mul64_any t 1503914060200516822 (by omega) (by omega) w1);obtain⟨V,hV⟩:∃V,V=v4 v0 v1 v2 v3+115792089237316195423570985008687907853269984665640564039457584007913129639936*u:=⟨_,rfl⟩;rw [<-hV]
 have hV2:V=v4 v0 v1 v2 (v3%1152921504606846976)+7237005577332262213973186563042994240829374041602535252466099000494570602496*t:=by
  rw [hV,ht]
  unfold v4
  omega
 have q3:=mask60 v3 h3
 have hv3:v3%1152921504606846976<1152921504606846976:=by omega
 obtain⟨m0,hm0⟩:∃m,m=t*6346243789798364141:=⟨_,rfl⟩;obtain⟨m1,hm1⟩:∃m,m=t*1503914060200516822:=⟨_,rfl⟩;rw [<-hm0] at HM0;rw [<-hm1] at HM1;obtain⟨p1,hp1⟩:∃p,p=m1%18446744073709551616+m0/18446744073709551616:=⟨_,rfl⟩
 have hA:∀w1,(callFunc 162 #[.int .u64 ((m1%18446744073709551616:Nat):Int),.int .u64 ((m0/18446744073709551616:Nat):Int),.int .u64 0]).run Tryz.prog w1 = .ok (.value (.tuple #[.int .u64 ((p1%18446744073709551616:Nat):Int),.int .u64 ((p1/18446744073709551616:Nat):Int)])) w1:=by
  rw [hp1];exact λw1=>add64_run (m1%18446744073709551616) (m0/18446744073709551616) 0 (by omega) w1
 have qd:IntKind.u64.wrap (((m1/18446744073709551616:Nat):Int)+((p1/18446744073709551616:Nat):Int))=((m1/18446744073709551616+p1/18446744073709551616:Nat):Int):=by
  rw [a8]
  omega
 obtain⟨r0,l0,hr0,hl0,H0⟩:∃r0 l0:Nat,r0=(v0+18446744073709551616-m0%18446744073709551616-0)%18446744073709551616/\l0=(if v0<m0%18446744073709551616+0 then 1 else 0) /\
   ∀w1,(callFunc 164 #[.int .u64 (v0:Int),.int .u64 ((m0%18446744073709551616:Nat):Int),.int .u64 0]).run Tryz.prog w1 = .ok (.value (.tuple #[.int .u64 (r0:Int),.int .u64 (l0:Int)])) w1 :=
  ⟨_,_,rfl,rfl,λw1=>sub64_run v0 (m0%18446744073709551616) 0 (by omega) w1⟩
 have b0:l0<=1:=by rw [hl0];split<;>omega
 obtain⟨r1,l1,hr1,hl1,H1⟩:∃r1 l1:Nat,r1=(v1+18446744073709551616-p1%18446744073709551616-l0)%18446744073709551616/\l1=(if v1<p1%18446744073709551616+l0 then 1 else 0) /\
   ∀w1,(callFunc 164 #[.int .u64 (v1:Int),.int .u64 ((p1%18446744073709551616:Nat):Int),.int .u64 (l0:Int)]).run Tryz.prog w1 = .ok (.value (.tuple #[.int .u64 (r1:Int),.int .u64 (l1:Int)])) w1 :=
  ⟨_,_,rfl,rfl,λw1=>sub64_run v1 (p1%18446744073709551616) l0 b0 w1⟩
 have b1:l1<=1:=by rw [hl1];split<;>omega
 obtain⟨r2,l2,hr2,hl2,H2⟩:∃r2 l2:Nat,r2=(v2+18446744073709551616-(m1/18446744073709551616+p1/18446744073709551616)-l1)%18446744073709551616/\l2=(if v2<m1/18446744073709551616+p1/18446744073709551616+l1 then 1 else 0) /\
   ∀w1,(callFunc 164 #[.int .u64 (v2:Int),.int .u64 ((m1/18446744073709551616+p1/18446744073709551616:Nat):Int),.int .u64 (l1:Int)]).run Tryz.prog w1 = .ok (.value (.tuple #[.int .u64 (r2:Int),.int .u64 (l2:Int)])) w1 :=
  ⟨_,_,rfl,rfl,λw1=>sub64_run v2 (m1/18446744073709551616+p1/18446744073709551616) l1 b1 w1⟩
 have b2:l2<=1:=by rw [hl2];split<;>omega
 obtain⟨r3,l3,hr3,hl3,H3⟩:∃r3 l3:Nat,r3=(v3%1152921504606846976+18446744073709551616-0-l2)%18446744073709551616/\l3=(if v3%1152921504606846976<0+l2 then 1 else 0) /\
   ∀w1,(callFunc 164 #[.int .u64 ((v3%1152921504606846976:Nat):Int),.int .u64 0,.int .u64 (l2:Int)]).run Tryz.prog w1 = .ok (.value (.tuple #[.int .u64 (r3:Int),.int .u64 (l3:Int)])) w1 :=
  ⟨_,_,rfl,rfl,λw1=>sub64_run (v3%1152921504606846976) 0 l2 b2 w1⟩
 obtain⟨e0,e1,b3,_,_,_,c0,c1,c2,c3⟩:=vW (V:=V) h0 h1 h2 hv3 htb hm0 hm1 hp1 hl0 hr0 hl1 hr1 hl2 hr2 hl3 hr3 hV2
 have hR:v4 r0 r1 r2 r3<115792089237316195423570985008687907853269984665640564039457584007913129639936:=by unfold v4;omega
 have HW:=λw1=>wsum_f hR (B:=LL) (by rw [nP];omega) w1;rw [s8 c0 c1 c2 c3,ws_LL,cell4,cell4] at HW;have hwR:=s8 c0 c1 c2 c3;clear hm0 hm1 hp1 hl0 hr0 hl1 hr1 hl2 hr2 hl3 hr3 hV2 hV ht htb;generalize hmh0:m0/18446744073709551616=mh0 at *;generalize hml0:m0%18446744073709551616=ml0 at *;generalize hmh1:m1/18446744073709551616=mh1 at *;generalize hml1:m1%18446744073709551616=ml1 at *;generalize hph1:p1/18446744073709551616=ph1 at *;generalize hpl1:p1%18446744073709551616=pl1 at *;generalize mh1+ph1=d at *;generalize v3%1152921504606846976=v3' at *;clear hmh0 hml0 hmh1 hml1 hph1 hpl1;have e0':(Us [v0,v1,v2,v3,u]).toArray = #[.int .u64 (v0:Int),.int .u64 (v1:Int),.int .u64 (v2:Int),.int .u64 (v3:Int),.int .u64 (u:Int)]:=rfl;rw [e0'];clear e0'
 rcases(show l3=0\/l3=1 by omega) with rfl|rfl
 ·have hF:=e0 rfl
  rw [<-hF,hwR,cell4];have HK:=dL (eN hF hR);clear e0 e1 HW hF hR hwR
  go_enter Tryz.func131,Tryz.ntmps131
  go_wp2_with (fail)
  refine(HM0 _).out.mono ?_
  rintro e w1 ⟨rfl,rfl⟩
  go_wp2_with (fail)
  refine(HM1 _).out.mono ?_
  rintro e w1 ⟨rfl,rfl⟩
  go_wp2_with (fail)
  refine bodyPost_ret (results_cell_row rfl _ _ (w.heap.size+1) 145 _ (0,0) _ rfl (blk3_1 w _ _ _ _) Tryz.underlying145 rfl (size_sc _ rfl)) rfl ⟨rfl,?_⟩;exact(((Below.refl _ _).alloc (aH _) _).alloc (by simp) _).alloc (by simp;omega) _
 ·have hF:=e1 rfl
  rw [hF] at HW;rw [<-hF];have hn:V%LL<115792089237316195423570985008687907853269984665640564039457584007913129639936:=Nat.lt_trans (cI _ (by decide)) (by decide);rw [hF];obtain⟨x0,x1,x2,x3,_,hx,_⟩:=mZ hn;rw [hx,cell4] at HW ⊢;have HW:=λw1=>dL (HW w1);clear e0 e1 hF hR hwR hx hn
  go_enter Tryz.func131,Tryz.ntmps131
  go_wp2_with (fail)
  refine(HM0 _).out.mono ?_
  rintro e w1 ⟨rfl,rfl⟩
  go_wp2_with (fail)
  refine(HM1 _).out.mono ?_
  rintro e w1 ⟨rfl,rfl⟩
  go_wp2_with (fail)
  refine(HW _).out.mono ?_
  rintro e w1 ⟨rfl,hw1⟩
  have k1:=(blk3_1 w 145 (Us [0,0,0,0]).toArray (.cells (Us [v0,v1,v2,v3,u]).toArray 191) (.cells (Us [r0,r1,r2,r3]).toArray 143)).later hw1;have k2:=(blk3_2 w 143 (Us [r0,r1,r2,r3]).toArray (.cells (Us [v0,v1,v2,v3,u]).toArray 191) (.cells (Us [0,0,0,0]).toArray 145)).later hw1;have hbe:=below_up ((((Below.refl w.heap.size w).alloc (aH _) _).alloc (by simp) _).alloc (by simp;omega) _) hw1;have k1':=k1.rowFar (g':=w.heap.size+1+1) (by omega) (Us [x0,x1,x2,x3]).toArray;have k2':=k2.row (Us [x0,x1,x2,x3]).toArray;have hbe':=below_setRow hbe (g:=w.heap.size+1+1) (cs:=(Us [x0,x1,x2,x3]).toArray) (by omega);clear hw1
  go_wp2_with (first
   | (refine wpList_store_row rfl 143 _ _ rfl (w.heap.size+1+1) rfl (Us [x0,x1,x2,x3]).toArray rfl 143 _ k2 (size_w4 _ rfl) rfl (Us_one _) ?_)
   | (refine wpList_load_row rfl 143 _ rfl (w.heap.size+1+1) rfl 143 #[.int .u64 (x0:Int),.int .u64 (x1:Int),.int .u64 (x2:Int),.int .u64 (x3:Int)] (0,0) _ k2' Tryz.underlying143 rfl (size_w4 _ rfl) ?_)
   | (refine wpList_store_row rfl 145 _ _ rfl (w.heap.size+1) rfl (Us [x0,x1,x2,x3]).toArray rfl 145 _ k1' (size_sc _ rfl) rfl (Us_one _) ?_))
  refine bodyPost_ret (results_cell_row rfl _ _ (w.heap.size+1) 145 (Us [x0,x1,x2,x3]).toArray (0,0) _ rfl (k1'.row _) Tryz.underlying145 rfl (size_sc _ rfl)) rfl ⟨rfl,?_⟩;exact below_setRow hbe' (by omega) _
end Go.Proofs.YtlhlkofpjhpaoaaGreatDoor
