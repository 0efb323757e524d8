import Derived.Test.YtdinohbahfdphaaGreatDoorMb
import Derived.Test.YtdinohbahfdphaaGreatDoorMa
import Derived.Laws.CopyOwn
import Derived.Maps.AppendAt
import Derived.ArgAppend
import Derived.Lib.Mul64
import Derived.StillTailTactics
import Derived.Deep.AppendLies
import Derived.Deep.OwnRows
import Derived.OwnWalk
open Go renaming TypeId->yn
open Go renaming Operand->yo
open Go renaming World->yp
set_option linter.defProp false
open Go.Proofs.Tryz
set_option maxRecDepth 100000
set_option maxHeartbeats 4000000
open And renaming intro->fF
open Bool renaming and_eq_true->aN
open Fin renaming ext->kI
open Go.Addr renaming add_mid->cQ
open Go.Builtin renaming zeroCells->j1,clear_->rI
open Go.IntKind renaming wrap_u64->bH,u8->fY,signed->oQ,wrap_u8'->pT,bits->qI,wrap_u32->qW,wrap->uR
open Go.Lib renaming hid->dW,half_mul_le->rX
open Go.Next renaming value->mB
open Go.Obj renaming cells->jQ
open Go.Result renaming andThen_ok->aC,andThen->gL,ok->mQ
open Go.Sem renaming run_bind->aG,run_pure->aI
open Go.Value renaming int->cG
open Go.World renaming size_alloc->dM
open Int renaming eq_ofNat_of_zero_le->nI,fdiv->qX
open List renaming length_append->aA,replicate->aB,mem_singleton->aD,mem_cons->aH,getElem?_eq_getElem->aJ,getElem?_eq_some_iff->aP,append_assoc->aT,length_take->aV,size_toArray->aW,length_map->aX,mem_map->aZ,length_cons->a6,map_cons->bA,append_nil->bC,eq_nil_of_length_eq_zero->bE,take_of_length_le->bJ,length_replicate->bL,length_set->bV,take_append_drop->b6,length_drop->cU,ext_getElem->c8,take_length->dA,take_add_one->dO,map_set->dR,getElem?_take->dT,range->dV,drop_eq_getElem_cons->dZ,flatten_cons->eG,length_reverse->fJ,take_succ_eq_append_getElem->gA,not_mem_nil->gB,getElem_mem->iF,map_nil->iK,drop_eq_nil_of_le->iU,drop_zero->jC,flatten_append->jT,length_nil->mF,getElem_set_self->n7,getElem_set->oP,take_left->qG,cons_append->qH
open Nat renaming le_of_ble_eq_true->aE,le_refl->aF,zero_le->aL,eq_of_beq_eq_true->aO,blt->aU,zero_add->aY,mod_eq_of_lt->a7,le_trans->bM,add_assoc->bZ,lt_of_lt_of_le->b9,min_eq_left->cA,pow_succ->cB,add_zero->cD,mod_lt->cI,mul_comm->cX,lt_of_le_of_lt->dC,one_mul->fH,sub_self->fL,lt_irrefl->gG,div_le_self->gM,add_mod->gP,div_div_eq_div_mul->gQ,and_two_pow_sub_one_eq_mod->iB,add_comm->iD,mul_zero->iI,mul_le_mul->iS,two_pow_pos->jI,pow_zero->jR,lt_succ_self->jS,add_mul_mod_self_left->jV,lt_trans->j3,le_of_eq->kA,pow_add->kC,mul_mod->kR,add_mul->kT,mod_add_mod->lH,pow_le_pow_right->mC,mul_add->mD,div_one->oT,beq_refl->pN,div_lt_of_lt_mul->qT,mul_mod_mod->rV,le_of_lt->tG,mul_one->uV
open Option renaming map_some->bS
open Option.some renaming injEq->a8,inj->bQ
open Prod.mk renaming injEq->cK
open UInt8 renaming ofNat->bP,toNat_lt->cV,toNat_ofNat'->gK
namespace Nums
namespace Ed
variable{n:Nat}[NeZero n]{d:Fin n}
def kk(d:Fin n)(P Q:Pt n):Fin n:=d*P.x*Q.x*P.y*Q.y
def lC(g:Good n d){P Q:Pt n}(hP:On d P)(hQ:On d Q):1+kk d P Q≠0:=λh =>
 complete g hP hQ (e := -1) (by grind only) (by unfold kk at h;grind only)
def iX(g:Good n d){P Q:Pt n}(hP:On d P)(hQ:On d Q):1-kk d P Q≠0:=λh =>
 complete g hP hQ (e:=1) (by grind only) (by unfold kk at h;grind only)
def add(d:Fin n)(P Q:Pt n):Pt n :=
  ⟨(P.x*Q.y+P.y*Q.x)*gV (1+kk d P Q),(P.y*Q.y+P.x*Q.x)*gV (1-kk d P Q)⟩
def zero:Pt n:=⟨0,1⟩
def neg(P:Pt n):Pt n:=⟨-P.x,P.y⟩
def lD:On d (zero:Pt n):=by show(1:Fin n)*1-0*0=1+d*0*0*1*1;grind only
def l7{P:Pt n}(h:On d P):On d (neg P):=by unfold On neg at *;show P.y*P.y - -P.x * -P.x=1+d * -P.x * -P.x*P.y*P.y;grind only
def qE(g:Good n d){P Q:Pt n}(hP:On d P)(hQ:On d Q):(add d P Q).x*(1+kk d P Q)=P.x*Q.y+P.y*Q.x:=by
 have:=iW g.pr (lC g hP hQ);show(P.x*Q.y+P.y*Q.x)*gV (1+kk d P Q)*(1+kk d P Q)=_;generalize gV (1+kk d P Q)=u at *;generalize 1+kk d P Q=v at *;have a:(P.x*Q.y+P.y*Q.x)*u*v=(P.x*Q.y+P.y*Q.x)*(v*u):=by grind only
 rw [a,this];grind only
def qD(g:Good n d){P Q:Pt n}(hP:On d P)(hQ:On d Q):(add d P Q).y*(1-kk d P Q)=P.y*Q.y+P.x*Q.x:=by
 have:=iW g.pr (iX g hP hQ);show(P.y*Q.y+P.x*Q.x)*gV (1-kk d P Q)*(1-kk d P Q)=_;generalize gV (1-kk d P Q)=u at *;generalize 1-kk d P Q=v at *;have a:(P.y*Q.y+P.x*Q.x)*u*v=(P.y*Q.y+P.x*Q.x)*(v*u):=by grind only
 rw [a,this];grind only
def kW(g:Good n d){P Q:Pt n}(hP:On d P)(hQ:On d Q):On d (add d P Q):=by have hx:=qE g hP hQ;have hy:=qD g hP hQ;have h1:=lC g hP hQ;have h2:=iX g hP hQ;have c:=closed P.x P.y Q.x Q.y d hP hQ;have k1:(1:Fin n)+d*P.x*Q.x*P.y*Q.y=1+kk d P Q:=rfl;have k2:(1:Fin n)-d*P.x*Q.x*P.y*Q.y=1-kk d P Q:=rfl;rw [k1,k2] at c;show(add d P Q).y*(add d P Q).y-(add d P Q).x*(add d P Q).x=1+d*(add d P Q).x*(add d P Q).x*(add d P Q).y*(add d P Q).y;rw [<-hx,<-hy] at c;generalize (add d P Q).x=x at *;generalize (add d P Q).y=y at *;generalize 1+kk d P Q=u at *;generalize 1-kk d P Q=v at *;apply cancel g.pr (dI g.pr (dI g.pr h1 h1) (dI g.pr h2 h2));clear hP hQ hx hy;grind only
def add_comm(P Q:Pt n):add d P Q=add d Q P:=by
 unfold add kk;have a:d*P.x*Q.x*P.y*Q.y=d*Q.x*P.x*Q.y*P.y:=by grind only
 have b:P.x*Q.y+P.y*Q.x=Q.x*P.y+Q.y*P.x:=by grind only
 have c:P.y*Q.y+P.x*Q.x=Q.y*P.y+Q.x*P.x:=by grind only
 rw [a,b,c]
def zero_add(g:Good n d)(P:Pt n):add d zero P=P:=by
 unfold add kk zero;have a:d*0*P.x*1*P.y=0:=by grind only
 have f1:gV (1+0:Fin n)=1:=rN g.pr (by grind only);have f2:gV (1-0:Fin n)=1:=rN g.pr (by grind only);show Pt.mk ((0*P.y+1*P.x)*gV (1+d*0*P.x*1*P.y)) ((1*P.y+0*P.x)*gV (1-d*0*P.x*1*P.y))=P;rw [a,f1,f2];have b:(0*P.y+1*P.x)*1=P.x:=by grind only
 have c:(1*P.y+0*P.x)*1=P.y:=by grind only
 rw [b,c]
def add_zero(g:Good n d)(P:Pt n):add d P zero=P:=by rw [add_comm,zero_add g]
def add_neg(g:Good n d){P:Pt n}(hP:On d P):add d P (neg P)=zero:=by
 have hm:=iX g hP (l7 hP);have:=iW g.pr hm;unfold add zero;have a:(P.x*(neg P).y+P.y*(neg P).x)=0:=by show P.x*P.y+P.y * -P.x=0;grind only
 have b:P.y*(neg P).y+P.x*(neg P).x=1-kk d P (neg P):=by show P.y*P.y+P.x * -P.x=1-d*P.x * -P.x*P.y*P.y;unfold On at hP;grind only
 rw [a,b,this];have c:0*gV (1+kk d P (neg P))=0:=by grind only
 rw [c]
def yH(sx sy rx ry px py tx ty a b e f d:Fin n):(sx*a*b*ry+sy*b*a*rx)*(e*f+d*px*py*(tx*e)*(ty*f))
   = (a*b*e*f)*((sx*ry+sy*rx)*(1+d*px*tx*py*ty)):=by grind only
def yG(sx sy rx ry px py tx ty a b e f d:Fin n):(px*(ty*f)*e+py*(tx*e)*f)*(a*b+d*(sx*a)*(sy*b)*rx*ry)
   = (a*b*e*f)*((px*ty+py*tx)*(1+d*sx*rx*sy*ry)):=by grind only
def yF(sx sy rx ry px py tx ty a b e f d:Fin n):(sy*b*a*ry+sx*a*b*rx)*(e*f-d*px*py*(tx*e)*(ty*f))
   = (a*b*e*f)*((sy*ry+sx*rx)*(1-d*px*tx*py*ty)):=by grind only
def yE(sx sy rx ry px py tx ty a b e f d:Fin n):(py*(ty*f)*e+px*(tx*e)*f)*(a*b-d*(sx*a)*(sy*b)*rx*ry)
   = (a*b*e*f)*((py*ty+px*tx)*(1-d*sx*rx*sy*ry)):=by grind only
def yJ(u z w v:Fin n):u*(z*(w*v))=z*(u*w*v):=by grind only
def yI(t z w v:Fin n):t*(z*(w*v))=z*(t*v*w):=by grind only
def add_assoc(g:Good n d){P Q R:Pt n}(hP:On d P)(hQ:On d Q)(hR:On d R):add d (add d P Q) R=add d P (add d Q R):=by
 have hPQ:=kW g hP hQ;have hQR:=kW g hQ hR;have x1:=qE g hP hQ;have y1:=qD g hP hQ;have p1:=lC g hP hQ;have m1:=iX g hP hQ;have x2:=qE g hQ hR;have y2:=qD g hQ hR;have p2:=lC g hQ hR;have m2:=iX g hQ hR;have x3:=qE g hPQ hR;have y3:=qD g hPQ hR;have p3:=lC g hPQ hR;have m3:=iX g hPQ hR;have x4:=qE g hP hQR;have y4:=qD g hP hQR;have p4:=lC g hP hQR;have m4:=iX g hP hQR;have ax:=xJ P.x P.y Q.x Q.y R.x R.y d hP hQ hR;have ay:=xI P.x P.y Q.x Q.y R.x R.y d hP hQ hR;clear hP hQ hR hPQ hQR;have c1:(1:Fin n)+d*P.x*Q.x*P.y*Q.y=1+kk d P Q:=rfl;have c2:(1:Fin n)-d*P.x*Q.x*P.y*Q.y=1-kk d P Q:=rfl;have c3:(1:Fin n)+d*Q.x*R.x*Q.y*R.y=1+kk d Q R:=rfl;have c4:(1:Fin n)-d*Q.x*R.x*Q.y*R.y=1-kk d Q R:=rfl;rw [c1,c2,c3,c4,<-x1,<-y1,<-x2,<-y2] at ax ay;have ex:(add d (add d P Q) R).x=(add d P (add d Q R)).x:=by generalize add d (add d P Q) R=U at *;generalize add d P (add d Q R)=V at *;unfold kk at x3 p3 x4 p4;generalize add d P Q=S at *;generalize add d Q R=T at *;generalize 1+kk d P Q=a at *;generalize 1-kk d P Q=b at *;generalize 1+kk d Q R=e at *;generalize 1-kk d Q R=f at *;rw [yH,yG,<-x3,<-x4] at ax;have hne:=dI g.pr (dI g.pr (dI g.pr p1 m1) p2) m2;apply cancel g.pr (dI g.pr hne (dI g.pr p3 p4));clear x1 y1 x2 y2 x3 y3 x4 y4 ay c1 c2 c3 c4 hne p1 p2 m1 m2 m3 m4;generalize a*b*e*f=z at *;generalize 1+d*S.x*R.x*S.y*R.y=w at *;generalize 1+d*P.x*T.x*P.y*T.y=v at *;generalize U.x=u at *;generalize V.x=t at *;clear g p3 p4;rw [yJ,yI,ax]
 have ey:(add d (add d P Q) R).y=(add d P (add d Q R)).y:=by generalize add d (add d P Q) R=U at *;generalize add d P (add d Q R)=V at *;unfold kk at y3 m3 y4 m4;generalize add d P Q=S at *;generalize add d Q R=T at *;generalize 1+kk d P Q=a at *;generalize 1-kk d P Q=b at *;generalize 1+kk d Q R=e at *;generalize 1-kk d Q R=f at *;rw [yF,yE,<-y3,<-y4] at ay;have hne:=dI g.pr (dI g.pr (dI g.pr p1 m1) p2) m2;apply cancel g.pr (dI g.pr hne (dI g.pr m3 m4));clear x1 y1 x2 y2 x3 y3 x4 y4 ax c1 c2 c3 c4 hne p1 p2 m1 m2 p3 p4;generalize a*b*e*f=z at *;generalize 1-d*S.x*R.x*S.y*R.y=w at *;generalize 1-d*P.x*T.x*P.y*T.y=v at *;generalize U.y=u at *;generalize V.y=t at *;clear g m3 m4;rw [yJ,yI,ay]
 have eta:∀A B:Pt n,A.x=B.x->A.y=B.y->A=B:=by rintro⟨_,_⟩ ⟨_,_⟩ h1 h2;simp only at h1 h2;rw [h1,h2]
 exact eta _ _ ex ey
end Ed
end Nums
namespace Nums
namespace Ed
variable{n:Nat}[NeZero n]{d:Fin n}
def mul(d:Fin n):Nat->Pt n->Pt n
  | 0,_=>zero
  | k+1,P=>add d (mul d k P) P
def oH(P:Pt n):mul d 0 P=zero:=rfl
def mul_succ(k:Nat)(P:Pt n):mul d (k+1) P=add d (mul d k P) P:=rfl
theorem gD(g:Good n d){P:Pt n}(hP:On d P)(k:Nat):On d (mul d k P):=by
 induction k with
 | zero=>exact lD
 | succ k ih=>exact kW g ih hP
def sI(g:Good n d)(P:Pt n):mul d 1 P=P:=by rw [mul_succ,oH,zero_add g]
def yN(g:Good n d)(P:Pt n):mul d 2 P=add d P P:=by rw [mul_succ,sI g]
theorem mul_add(g:Good n d){P:Pt n}(hP:On d P)(j k:Nat):mul d (j+k) P=add d (mul d j P) (mul d k P):=by
 induction k with
 | zero=>rw [cD,oH,add_zero g]
 | succ k ih=>rw [<-bZ,mul_succ,mul_succ,ih,add_assoc g (gD g hP j) (gD g hP k) hP]
theorem mul_zero(g:Good n d)(k:Nat):mul d k (zero:Pt n)=zero:=by
 induction k with
 | zero=>rfl
 | succ k ih=>rw [mul_succ,ih,zero_add g]
theorem nD(g:Good n d){P:Pt n}(hP:On d P)(j k:Nat):mul d (j*k) P=mul d k (mul d j P):=by
 induction k with
 | zero=>rw [iI,oH,oH]
 | succ k ih=>rw [Nat.mul_succ,mul_add g hP,ih,mul_succ]
def sN(g:Good n d){A B C D:Pt n}(hA:On d A)(hB:On d B)(hC:On d C)(hD:On d D) :
  add d (add d A B) (add d C D)=add d (add d A C) (add d B D):=by
 rw [add_assoc g hA hB (kW g hC hD),add_assoc g hA hC (kW g hB hD),<-add_assoc g hB hC hD,<-add_assoc g hC hB hD,add_comm B C]
def xX(g:Good n d){P Q:Pt n}(hP:On d P)(hQ:On d Q)(h:add d P Q=zero):Q=neg P:=by
 have a:add d (neg P) (add d P Q)=Q:=by rw [<-add_assoc g (l7 hP) hP hQ,add_comm (neg P) P,add_neg g hP,zero_add g]
 rw [h,add_zero g] at a;exact a.symm
def neg_zero:neg (zero:Pt n)=zero:=by
 show Pt.mk (-0:Fin n) 1=Pt.mk 0 1;have:(-0:Fin n)=0:=by grind only
 rw [this]
def neg_add(g:Good n d){P Q:Pt n}(hP:On d P)(hQ:On d Q):neg (add d P Q)=add d (neg P) (neg Q):=by symm;apply xX g (kW g hP hQ) (kW g (l7 hP) (l7 hQ));rw [sN g hP hQ (l7 hP) (l7 hQ),add_neg g hP,add_neg g hQ,zero_add g]
theorem mul_neg(g:Good n d){P:Pt n}(hP:On d P)(k:Nat):mul d k (neg P)=neg (mul d k P):=by
 induction k with
 | zero=>rw [oH,oH,neg_zero]
 | succ k ih=>rw [mul_succ,mul_succ,ih,neg_add g (gD g hP k) hP]
def mul_mod(g:Good n d){P:Pt n}(hP:On d P){L:Nat}(hL:mul d L P=zero)(k:Nat):mul d k P=mul d (k%L) P:=by have h:=mul_add g hP (L*(k/L)) (k%L);rw [nD g hP,hL,mul_zero g,zero_add g,Nat.div_add_mod] at h;exact h
def rA(g:Good n d){P:Pt n}(hP:On d P)(a b:Nat):mul d a (mul d b P)=mul d (a*b) P:=by rw [cX,nD g hP]
def wP(g:Good n d){P:Pt n}(hP:On d P){j k a b:Nat}(hj:mul d j P=zero)(hk:mul d k P=zero)(h:j*a=k*b+1):P=zero:=by
 have h1:mul d (j*a) P=zero:=by rw [nD g hP,hj,mul_zero g]
 rw [h,mul_add g hP,nD g hP,hk,mul_zero g,zero_add g,sI g] at h1;exact h1
structure Rep(X Y Z:Fin n)(P:Pt n):Prop where
  z:Z≠0
  x:X=P.x*Z
  y:Y=P.y*Z
def Rep.zero(hn:cP n):Rep (0:Fin n) 1 1 zero where
 z:=λh=>mV hn h.symm
 x:=by show(0:Fin n)=0*1;grind only
 y:=by show(1:Fin n)=1*1;grind only
def Rep.neg{X Y Z:Fin n}{P:Pt n}(r:Rep X Y Z P):Rep (-X) Y Z (neg P) where
 z:=r.z
 x:=by rw [r.x];show -(P.x*Z) = -P.x*Z;grind only
 y:=r.y
def xY{X1 Y1 Z1 X2 Y2 Z2:Fin n}{P Q:Pt n}(r:Rep X1 Y1 Z1 P)(s:Rep X2 Y2 Z2 Q) :
  d*((X1*X2)*(Y1*Y2))=kk d P Q*((Z1*Z2)*(Z1*Z2)):=by
 rw [r.x,r.y,s.x,s.y]
 unfold kk
 grind only
def Rep.add(g:Good n d){X1 Y1 Z1 X2 Y2 Z2:Fin n}{P Q:Pt n}(hP:On d P)(hQ:On d Q)(r:Rep X1 Y1 Z1 P)(s:Rep X2 Y2 Z2 Q)
 {z m:Fin n}(hz:z=Z1*Z2)(hm:m=d*((X1*X2)*(Y1*Y2))) :
  Rep (((X1*Y2+Y1*X2)*z)*(z*z-m)) (((Y1*Y2+X1*X2)*z)*(z*z+m)) ((z*z+m)*(z*z-m)) (add d P Q):=by
 have hzn:z≠0:=hz▸dI g.pr r.z s.z
 have hm2:m=kk d P Q*(z*z):=by rw [hm,hz,xY r s]
 have p1:z*z+m=(1+kk d P Q)*(z*z):=by rw [hm2];grind only
 have p2:z*z-m=(1-kk d P Q)*(z*z):=by rw [hm2];grind only
 have nx:X1*Y2+Y1*X2=(P.x*Q.y+P.y*Q.x)*z:=by rw [r.x,r.y,s.x,s.y,hz];grind only
 have ny:Y1*Y2+X1*X2=(P.y*Q.y+P.x*Q.x)*z:=by rw [r.x,r.y,s.x,s.y,hz];grind only
 have hx:=qE g hP hQ;have hy:=qD g hP hQ;have n1:=lC g hP hQ;have n2:=iX g hP hQ
 constructor
 .rw [p1,p2];exact dI g.pr (dI g.pr n1 (dI g.pr hzn hzn)) (dI g.pr n2 (dI g.pr hzn hzn))
 .rw [p1,p2,nx,<-hx];grind only
 .rw [p1,p2,ny,<-hy];grind only
def Rep.same(hn:cP n){X Y Z:Fin n}{P Q:Pt n}(r:Rep X Y Z P)(s:Rep X Y Z Q):P=Q:=by have hx:P.x=Q.x:=cancel hn r.z (r.x.symm.trans s.x);have hy:P.y=Q.y:=cancel hn r.z (r.y.symm.trans s.y);cases P;cases Q;simp only at hx hy;rw [hx,hy]
def Rep.aff(hn:cP n){X Y Z:Fin n}{P:Pt n}(r:Rep X Y Z P):X*gV Z=P.x/\Y*gV Z=P.y:=by
 have h:=iW hn r.z;have a:∀u:Fin n,u*Z*gV Z=u*(Z*gV Z):=λu=>by grind only
 have b:∀u:Fin n,u*1=u:=λu=>by grind only
 rw [r.x,r.y,a,a,h,b,b];exact⟨rfl,rfl⟩
end Ed
end Nums
namespace Nums
instance:NeZero p:=⟨by decide⟩
abbrev F:=Fin p
def fof(k:Nat):F:=⟨k%p,cI _ (by decide)⟩
def lE(k:Nat):(fof k).val=k%p:=rfl
def kL(a b:Nat):fof (a+b)=fof a+fof b:=by apply kI;show(a+b)%p=(a%p+b%p)%p;rw [<-gP]
def fA(a b:Nat):fof (a*b)=fof a*fof b:=by apply kI;show(a*b)%p=(a%p*(b%p))%p;rw [<-kR]
def oL(a:Nat):fof (a%p)=fof a:=by apply kI;show a%p%p=a%p;rw [Nat.mod_mod]
def j8{a b:Nat}(h:a%p=b%p):fof a=fof b:=kI h
def lU:fof 0=0:=by apply kI;show 0%p=0%p;rfl
def g8:fof 1=1:=by apply kI;show 1%p=1%p;rfl
def xZ(a:F):fof a.val=a:=by apply kI;exact a7 a.isLt
def pR{a b:Nat}(h:b<=a):fof (a-b)=fof a-fof b:=by
 have:fof a=fof (a-b)+fof b:=by rw [<-kL,Nat.sub_add_cancel h]
 rw [this];generalize fof (a-b)=u;generalize fof b=v;grind only
theorem xD(a k:Nat):fof (a^k)=fK (fof a) k:=by
 induction k with
 | zero=>exact g8
 | succ k ih=>rw [cB,fA,ih,fE]
def wE{a e:Nat}(k:Nat)(h:e<2^k):fK (fof a) e=fof (pm p a k e):=by rw [vP p a k e h,oL,xD]
def ph:Nat:=28948022309329048855892746252171976963317496166410141009864396001978282409974
def pq:Nat:=14474011154664524427946373126085988481658748083205070504932198000989141204987
def pe:Nat:=7237005577332262213973186563042994240829374041602535252466099000494570602494
def xU:pq*2=ph:=by decide
def im:F:=fK (fof 2) pq
def xO:im*im = -1:=by unfold im;rw [<-mZ,show pq+pq=ph from by decide,wE 255 (by decide)];have:fof (pm p 2 255 ph)=fof (p-1):=j8 (by decide +kernel);rw [this,pR (by decide),g8,show fof p=0 from j8 (a:=p) (b:=0) (by decide)];generalize (1:F)=u;grind only
def xP:(2:F)≠0:=by
 intro h;have h1:(2:F).val=(0:F).val:=by rw [h]
 revert h1;decide
def sK{a:F}(ha:a≠0):fK (a*a) ph=1:=by rw [vX,<-mZ,show ph+ph=p-1 from by decide];exact pF dU ha
def w7{w:F}(h0:w≠0)(h:fK w ph≠1)(x:F):x*x≠w:=by rintro rfl;apply h;apply sK;rintro rfl;exact h0 (by grind only)
def w9{a:F}(h:a≠0):(-a).val=p-a.val:=by
 have h1:a.val≠0:=λh2=>h (kI h2);have h2:=a.isLt;have h3:fof (p-a.val) = -a:=by rw [pR (by omega),xZ,show fof p=0 from j8 (a:=p) (b:=0) (by decide)];grind only
 rw [<-h3,lE];exact a7 (by omega)
def yK:p%2=1:=by decide
def pQ{a:F}(h:a≠0):(-a).val%2=1-a.val%2:=by rw [w9 h];have h2:=a.isLt;have h3:=yK;omega
def dn:Nat:=37095705934669439343138083508754565189542113879843219016388785533085940283555
def dd:F:=fof dn
def yR:dd≠0:=λh=>by have:=congrArg Fin.val h;revert this;decide
def x8:fK dd ph≠1:=by unfold dd;rw [wE 255 (by decide)];intro h;have:=congrArg Fin.val h;revert this;rw [lE];decide +kernel
def good:Ed.Good p dd where
 pr:=dU
 two:=xP
 i:=⟨im,xO⟩
 d:=w7 yR x8
def bx:Nat:=15112221349535400772501151409588531511454012693041857206046113283949847762202
def bY:Nat:=46316835694926478169428394003475163141307993866256225615783033603165251855960
def base:Ed.Pt p:=⟨fof bx,fof bY⟩
def gY:Ed.On dd base:=by show fof bY*fof bY-fof bx*fof bx=1+dd*fof bx*fof bx*fof bY*fof bY;unfold dd;have h:fof (bY*bY)=fof (bx*bx+(1+dn*bx*bx*bY*bY)):=j8 (by decide +kernel);rw [fA,kL,kL,fA,fA,fA,fA,fA,g8] at h;rw [h];generalize fof bx=u;generalize fof bY=v;generalize fof dn=w;grind only
end Nums
namespace Nums
def forced{α:Type}(x:Nat)(f:Nat->α):α :=
  match x with
  | 0=>f 0
  | k+1=>f (k+1)
def gZ{α:Type}(x:Nat)(f:Nat->α):forced x f=f x:=by cases x<;>rfl
structure Tri where
  x:Nat
  y:Nat
  z:Nat
def l6(a b:Tri):Tri :=
  forced (a.z*b.z%p) λz=>forced (z*z%p) λzz=>forced (dn*(a.x*b.x%p*(a.y*b.y%p)%p)%p) λm =>
  forced ((zz+m)%p) λpl=>forced ((zz+p-m)%p) λmi =>
  forced ((a.x*b.y+a.y*b.x)%p*z%p*mi%p) λx=>forced ((a.y*b.y+a.x*b.x)%p*z%p*pl%p) λy =>
  forced (pl*mi%p) λw=>⟨x,y,w⟩
def mT:Nat->Nat->Tri->Tri->Tri
  | 0,_,acc,_=>acc
  | n+1,k,acc,q=>mT n (k/2) (if k%2=1 then l6 acc q else acc) (l6 q q)
def gW(t:Tri)(P:Ed.Pt p):Prop:=Ed.Rep (fof t.x) (fof t.y) (fof t.z) P
def pU{a b:Tri}{P Q:Ed.Pt p}(hP:Ed.On dd P)(hQ:Ed.On dd Q)(ha:gW a P)(hb:gW b Q):gW (l6 a b) (Ed.add dd P Q):=by
 unfold l6;simp only [gZ];have h:=Ed.Rep.add good hP hQ ha hb rfl rfl;unfold gW;simp only;generalize hz:a.z*b.z%p=z;generalize hm:dn*(a.x*b.x%p*(a.y*b.y%p)%p)%p=m;have ez:fof z=fof a.z*fof b.z:=by rw [<-hz,oL,fA]
 have em:fof m=dd*((fof a.x*fof b.x)*(fof a.y*fof b.y)):=by rw [<-hm];simp only [oL,fA];rfl
 have hmp:m<p:=by rw [<-hm];exact cI _ (by decide)
 have es:fof (z*z%p+p-m)=fof z*fof z-fof m:=by rw [pR (by omega),kL,oL,fA,show fof p=0 from j8 (a:=p) (b:=0) (by decide)];grind only
 rw [<-ez,<-em] at h;simp only [oL,fA,kL,es];exact h
theorem l5:∀(n k:Nat) (acc q:Tri) (A Q:Ed.Pt p),k<2^n->Ed.On dd A->Ed.On dd Q->gW acc A->gW q Q->gW (mT n k acc q) (Ed.add dd A (Ed.mul dd k Q))
 | 0,k,acc,q,A,Q,hk,hA,hQ,ha,hq=>by
  have:k=0:=by simp at hk;omega
  subst this;rw [Ed.oH,Ed.add_zero good];exact ha
 | n+1,k,acc,q,A,Q,hk,hA,hQ,ha,hq=>by
  have hk2:k/2<2^n:=by rw [cB] at hk;omega
  have h2:=pU hQ hQ hq hq;have o2:=Ed.kW good hQ hQ;have e2:Ed.mul dd (k/2) (Ed.add dd Q Q)=Ed.mul dd (2*(k/2)) Q:=by rw [Ed.nD good hQ,Ed.yN good]
  show gW (mT n (k/2) (if k%2=1 then l6 acc q else acc) (l6 q q)) _;by_cases h:k%2=1
  .rw [if_pos h];have ih:=l5 n (k/2) (l6 acc q) (l6 q q) (Ed.add dd A Q) (Ed.add dd Q Q) hk2 (Ed.kW good hA hQ) o2 (pU hA hQ ha hq) h2;rw [e2,Ed.add_assoc good hA hQ (Ed.gD good hQ _),Ed.add_comm Q,<-Ed.mul_succ,show 2*(k/2)+1=k by omega] at ih;exact ih
  .rw [if_neg h];have ih:=l5 n (k/2) acc (l6 q q) A (Ed.add dd Q Q) hk2 hA o2 ha h2;rw [e2,show 2*(k/2)=k by omega] at ih;exact ih
def LL:Nat:=7237005577332262213973186563042994240857116359379907606001950938285454250989
def ending:Bool :=
  let t:=mT 253 LL ⟨0,1,1⟩ ⟨bx,bY,1⟩
  forced t.x λx=>forced t.y λy=>forced t.z λz=>Nat.beq (x%p) 0&&Nat.beq (y%p) (z%p)
def sL:ending=true:=by decide +kernel
def order:Ed.mul dd LL base=Ed.zero:=by
 have ha:gW ⟨0,1,1⟩ Ed.zero:=by have:=Ed.Rep.zero dU;unfold gW;rw [lU,g8];exact this
 have hq:gW ⟨bx,bY,1⟩ base:=by
  refine⟨?_,?_,?_⟩
  .show fof 1≠0;rw [g8];exact λh=>mV dU h.symm
  .show fof bx=fof bx*fof 1;rw [g8];grind only
  .show fof bY=fof bY*fof 1;rw [g8];grind only
 have h:=l5 253 LL _ _ Ed.zero base (by decide) Ed.lD gY ha hq;rw [Ed.zero_add good] at h;have e:=sL;unfold ending at e;simp only [gZ] at e;generalize mT 253 LL ⟨0,1,1⟩ ⟨bx,bY,1⟩=t at h e;rw [aN] at e;obtain⟨e1,e2⟩:=e;have e1:=aO e1;have e2:=aO e2;have x0:fof t.x=0:=kI e1;have yz:fof t.y=fof t.z:=kI e2;have hz:Ed.Rep (fof t.x) (fof t.y) (fof t.z) Ed.zero:=by
  refine⟨h.z,?_,?_⟩
  .rw [x0];show(0:F)=0*fof t.z;grind only
  .rw [yz];show fof t.z=1*fof t.z;grind only
 exact Ed.Rep.same dU h hz
end Nums
namespace Nums
def Small(l:List Int):Prop:=∀x∈l,0<=x/\x<65536
end Nums
namespace Nums
end Nums
namespace Nums
def le:zu->Nat
  | []=>0
  | b::bs=>b.toNat+256*le bs
def split:List Int->zu
  | []=>[]
  | d::ds=>bP (d%256).toNat::bP (d/256).toNat::split ds
theorem nT:∀{a b:zu},a.length=b.length->le a=le b->a=b
 | [],[],_,_=>rfl
 | x::a,y::b,hl,h=>by have h1:=x.toNat_lt;have h2:=y.toNat_lt;have h3:x.toNat+256*le a=y.toNat+256*le b:=h;have h4:x=y:=UInt8.toNat.inj (by omega);have h5:=nT (a:=a) (b:=b) (by simpa using hl) (by omega);rw [h4,h5]
def bytes:Nat->Nat->zu
  | 0,_=>[]
  | k+1,v=>bP v::bytes k (v/256)
theorem cZ:∀k v,(bytes k v).length=k
 | 0,_=>rfl
 | k+1,v=>by show(bytes k (v/256)).length+1=k+1;rw [cZ]
theorem jY:∀k v,le (bytes k v)=v%256^k
 | 0,v=>by show 0=v%1;omega
 | k+1,v=>by show(bP v).toNat+256*le (bytes k (v/256))=v%256^(k+1);rw [jY,gK,show 256^(k+1)=256*256^k by rw [cB,cX],Nat.mod_mul]
def enc(x:F):zu:=bytes 32 x.val
def iL(x:F):(enc x).length=32:=cZ _ _
def nU(x:F):le (enc x)=x.val:=by unfold enc;rw [jY];exact a7 (j3 x.isLt (by decide))
def xF{x y:F}(h:enc x=enc y):x=y:=by apply kI;rw [<-nU,<-nU,h]
def x7{b:zu}(hb:b.length=32){x:F}(h:le b=x.val):b=enc x :=
 nT (by rw [hb,iL]) (by rw [h,nU])
end Nums
namespace Nums
def lB(w n x:Nat):Nat:=x/2^n+x%2^n*2^(w-n)
def chw(w e f g:Nat):Nat:=(e &&& f) ^^^ ((2^w-1-e) &&& g)
def maw(a b c:Nat):Nat:=(a &&& b) ^^^ (a &&& c) ^^^ (b &&& c)
structure Sha where
  w:Nat
  n:Nat
  big1:Nat×Nat×Nat
  big0:Nat×Nat×Nat
  low1:Nat×Nat×Nat
  low0:Nat×Nat×Nat
  k:zk
  start:zj
def xG(w:Nat)(t:Nat×Nat×Nat)(x:Nat):Nat:=lB w t.1 x ^^^ lB w t.2.1 x ^^^ lB w t.2.2 x
def p9(w:Nat)(t:Nat×Nat×Nat)(x:Nat):Nat:=lB w t.1 x ^^^ lB w t.2.1 x ^^^ x/2^t.2.2
def sqs:zj:=[7640891576956012808,13503953896175478587,4354685564936845355,11912009170470909681,5840696475078001361,11170449401992604703,2270897969802886507,6620516959819538809]
def cbs:zj:=[4794697086780616226,8158064640168781261,13096744586834688815,16840607885511220156,4131703408338449720,6480981068601479193,10538285296894168987,12329834152419229976,15566598209576043074,1334009975649890238,2608012711638119052,6128411473006802146,8268148722764581231,9286055187155687089,11230858885718282805,13951009754708518548,16472876342353939154,17275323862435702243,1135362057144423861,2597628984639134821,3308224258029322869,5365058923640841347,6679025012923562964,8573033837759648693,10970295158949994411,12119686244451234320,12683024718118986047,13788192230050041572,14330467153632333762,15395433587784984357,489312712824947311,1452737877330783856,2861767655752347644,3322285676063803686,5560940570517711597,5996557281743188959,7280758554555802590,8532644243296465576,9350256976987008742,10552545826968843579,11727347734174303076,12113106623233404929,14000437183269869457,14369950271660146224,15101387698204529176,15463397548674623760,17586052441742319658,1182934255886127544,1847814050463011016,2177327727835720531,2830643537854262169,3796741975233480872,4115178125766777443,5681478168544905931,6601373596472566643,7507060721942968483,8399075790359081724,8693463985226723168,9568029438360202098,10144078919501101548,10430055236837252648,11840083180663258601,13761210420658862357,14299343276471374635,14566680578165727644,15097957966210449927,16922976911328602910,17689382322260857208,500013540394364858,748580250866718886,1242879168328830382,1977374033974150939,2944078676154940804,3659926193048069267,4368137639120453308,4836135668995329356,5532061633213252278,6448918945643986474,6902733635092675308,7801388544844847127]
def eK:Sha where
  w:=64
  n:=80
  big1:=(14,18,41)
  big0:=(28,34,39)
  low1:=(19,61,6)
  low0:=(1,8,7)
  k:=λt=>cbs[t]!
  start:=sqs
def dK:Sha where
  w:=32
  n:=64
  big1:=(6,11,25)
  big0:=(2,13,22)
  low1:=(17,19,10)
  low0:=(7,18,3)
  k:=λt=>cbs[t]! / 4294967296
  start:=sqs.map (· / 4294967296)
def ben(f:zk):zk
  | 0=>0
  | j+1=>ben f j*256+f j
theorem tE{f:zk}(h:∀j,f j<256):∀j,ben f j<256^j
 | 0=>Nat.one_pos
 | j+1=>by have h1:=tE h j;have h2:=h j;show ben f j*256+f j<256^(j+1);rw [cB];omega
def wL(s:Sha)(b:zu)(t:Nat):Nat:=ben (λk=>(b[t*(s.w/8)+k]!).toNat) (s.w/8)
def sx(s:Sha)(b:zu)(t:Nat):Nat :=
  if _h:t<16 then wL s b t else(p9 s.w s.low1 (sx s b (t-2))+sx s b (t-7)+p9 s.w s.low0 (sx s b (t-15))+sx s b (t-16))%2^s.w
termination_by t
decreasing_by all_goals omega
structure Oct where
  a:Nat
  b:Nat
  c:Nat
  d:Nat
  e:Nat
  f:Nat
  g:Nat
  h:Nat
def Oct.list(o:Oct):zj:=[o.a,o.b,o.c,o.d,o.e,o.f,o.g,o.h]
def t1w(s:Sha)(k x:Nat)(o:Oct):Nat:=o.h+xG s.w s.big1 o.e+chw s.w o.e o.f o.g+k+x
def t2w(s:Sha)(o:Oct):Nat:=xG s.w s.big0 o.a+maw o.a o.b o.c
def rnd(s:Sha)(k x:Nat)(o:Oct):Oct:=⟨(t1w s k x o+t2w s o)%2^s.w,o.a,o.b,o.c,(o.d+t1w s k x o)%2^s.w,o.e,o.f,o.g⟩
def o6(s:Sha)(b:zu)(o:Oct):Nat->Oct
  | 0=>o
  | t+1=>rnd s (s.k t) (sx s b t) (o6 s b o t)
def rP(w:Nat)(o p:Oct):Oct:=⟨(o.a+p.a)%2^w,(o.b+p.b)%2^w,(o.c+p.c)%2^w,(o.d+p.d)%2^w,(o.e+p.e)%2^w,(o.f+p.f)%2^w,(o.g+p.g)%2^w,(o.h+p.h)%2^w⟩
def gR(s:Sha)(o:Oct)(b:zu):Oct:=rP s.w o (o6 s b o s.n)
def sZ{a b w:Nat}(ha:a<2^w)(hb:b<2^w):a ^^^ b<2^w:=Nat.xor_lt_two_pow ha hb
def n5{a b w:Nat}(ha:a<2^w):a &&& b<2^w:=dC Nat.and_le_left ha
def kK{w n x:Nat}(hn:n<=w)(hx:x<2^w):lB w n x<2^w:=by
 have e:(2:Nat)^w=2^n*2^(w-n):=by rw [<-kC,Nat.add_sub_cancel' hn]
 have h1:x/2^n<2^(w-n):=qT (by rw [<-e];exact hx);have h2:x%2^n+1<=2^n:=cI _ (jI n);have h3:=Nat.mul_le_mul_right (2^(w-n)) h2;rw [<-e,kT,fH] at h3;unfold lB;omega
def xK(s:Sha)(b:zu)(hw:s.w/8*8=s.w)(t:Nat):sx s b t<2^s.w:=by
 rw [sx];split
 .have h:=tE (f:=λk=>(b[t*(s.w/8)+k]!).toNat) (λj=>cV _) (s.w/8);rw [show(256:Nat)=2^8 from rfl,<-Nat.pow_mul,cX 8,hw] at h;exact h
 .exact cI _ (jI _)
structure OB(w:Nat)(o:Oct):Prop where
  a:o.a<2^w
  b:o.b<2^w
  c:o.c<2^w
  d:o.d<2^w
  e:o.e<2^w
  f:o.f<2^w
  g:o.g<2^w
  h:o.h<2^w
def OB.rnd{s:Sha}{o:Oct}(h:OB s.w o)(k x:Nat):OB s.w (rnd s k x o) :=
 ⟨cI _ (jI _),h.a,h.b,h.c,cI _ (jI _),h.e,h.f,h.g⟩
theorem OB.o6{s:Sha}{b:zu}{o:Oct}(h:OB s.w o):∀t,OB s.w (o6 s b o t)
 | 0=>h
 | t+1=>(OB.o6 h t).rnd _ _
def OB.rP(w:Nat)(o p:Oct):OB w (rP w o p):=by constructor<;>exact cI _ (jI _)
def OB.gR(s:Sha)(o:Oct)(b:zu):OB s.w (gR s o b):=OB.rP _ _ _
def gJ(s:Sha)(B:Nat)(o:Oct)(l:zu):Oct :=
  if _h:B=0\/l.length<B then o else gJ s B (gR s o (l.take B)) (l.drop B)
termination_by l.length
decreasing_by
  rw [cU]
  omega
def jM{s:Sha}{B:Nat}{o:Oct}{l:zu}(h:l.length<B):gJ s B o l=o:=by rw [gJ,dif_pos (.inr h)]
def iO{s:Sha}{B:Nat}{o:Oct}{b l:zu}(hB:0<B)(h:b.length=B):gJ s B o (b++l)=gJ s B (gR s o b) l:=by rw [gJ,dif_neg (by rw [aA];omega),<-h,qG,List.drop_left]
theorem mU{s:Sha}{B:Nat}(hB:0<B):∀(n:Nat) {o:Oct} {a l:zu},a.length=n*B->gJ s B o (a++l)=gJ s B (gJ s B o a) l
 | 0,o,a,l,h=>by have h0:a=[]:=bE (by omega);subst h0;rw [List.nil_append,jM (l:=[]) (by simpa using hB)]
 | n+1,o,a,l,h=>by
  have hl:(a.take B).length=B:=by rw [aV,h,kT];omega
  have hd:(a.drop B).length=n*B:=by rw [cU,h,kT];omega
  have e:a=a.take B++a.drop B:=(b6 B a).symm;rw [e,aT,iO hB hl,iO hB hl,mU hB n hd]
def j9(v:Nat):zu:=(bytes 8 v).reverse
def fQ(B r v:Nat):zu:=128::(aB ((if r+1<=B-B/8 then B else 2*B)-9-r) 0++j9 v)
def xQ(s:Sha)(m:zu):Oct:=gJ s (2*s.w) (⟨s.start[0]!,s.start[1]!,s.start[2]!,s.start[3]!,s.start[4]!,s.start[5]!,s.start[6]!,s.start[7]!⟩) (m++fQ (2*s.w) (m.length%(2*s.w)) (8*m.length))
def jZ(s:Sha)(x:Nat):zu:=(bytes (s.w/8) x).reverse
def dJ(s:Sha)(m:zu):zu:=((xQ s m).list.map (jZ s)).flatten
end Nums
namespace Go.Proofs.Q
open Go.RowKit Go.IntWalk Nums
def rot_or(w n x:Nat)(hn:n<=w)(hx:x<2^w):x*2^(w-n)%2^w=x%2^n*2^(w-n)/\x/2^n<2^(w-n):=by
 have e:(2:Nat)^w=2^n*2^(w-n):=by rw [<-kC,Nat.add_sub_cancel' hn]
 refine⟨?_,qT (by rw [<-e];exact hx)⟩;rw [e,Nat.mul_mod_mul_right]
def rot64_f(x n:Nat)(hx:x<18446744073709551616)(h0:0<n)(hn:n<64)(w:yp) :
  Calls prog 217 #[.int .u64 (x:Int),.int .i64 (-(n:Int))] w λe w'=>e = .returned (.int .u64 ((lB 64 n x:Nat):Int))/\w'=w:=by
 have q1:IntKind.u64.wrap (-(n:Int))=((18446744073709551616-n:Nat):Int):=by rw [bH];omega
 have q2:bits .and .u64 ((18446744073709551616-n:Nat):Int) 63=((64-n:Nat):Int):=by
  have h:=u64_and_nat (18446744073709551616-n) 63 (by omega) (by omega);have e:(18446744073709551616-n) &&& 63=(18446744073709551616-n)%64:=iB _ 6;rw [e] at h;have e2:(18446744073709551616-n)%64=64-n:=by omega
  rw [e2] at h;exact h
 obtain⟨e1,e2⟩:=rot_or 64 n x (by omega) hx
 have q3:IntKind.u64.wrap ((x:Int)*2^(64-n))=((x%2^n*2^(64-n):Nat):Int):=by rw [<-e1,bH];simp
 have q4:IntKind.u64.wrap (64-((64-n:Nat):Int))=(n:Int):=by rw [bH];omega
 have f1:((x:Int)/2^n)=((x/2^n:Nat):Int):=by simp
 have hm:x%2^n*2^(64-n)<18446744073709551616:=by rw [<-e1];exact cI _ (by decide)
 have hd:x/2^n<18446744073709551616:=dC (gM _ _) hx
 have q5:bits .or .u64 ((x%2^n*2^(64-n):Nat):Int) ((x/2^n:Nat):Int)=((lB 64 n x:Nat):Int):=by rw [u64_or_nat _ _ hm hd,nat_join (64-n) _ _ (Nat.mul_mod_left _ _) e2];unfold lB;rw [iD]
 have g1:((64-n:Nat):Int)<=64:=by omega
 have g2:(n:Int)<=64:=by omega
 clear e1 e2 hm hd;generalize lB 64 n x=r at *;generalize x%2^n*2^(64-n)=m at *;generalize x/2^n=d at *;generalize hs:64-n=s at *;generalize 18446744073709551616-n=u at *;clear hs
 go_enter func217,ntmps217
 go_wp2
 go_ret
 exact⟨rfl,rfl⟩
def u32_or(a b:Nat)(ha:a<4294967296)(hb:b<4294967296):bits .or .u32 (a:Int) (b:Int)=((a ||| b:Nat):Int):=u32_or_nat a b ha hb
def rot32_f(x n:Nat)(hx:x<4294967296)(h0:0<n)(hn:n<32)(w:yp) :
  Calls prog 205 #[.int .u32 (x:Int),.int .i64 (-(n:Int))] w λe w'=>e = .returned (.int .u32 ((lB 32 n x:Nat):Int))/\w'=w:=by
 have q1:IntKind.u64.wrap (-(n:Int))=((18446744073709551616-n:Nat):Int):=by rw [bH];omega
 have q2:bits .and .u64 ((18446744073709551616-n:Nat):Int) 31=((32-n:Nat):Int):=by
  have h:=u64_and_nat (18446744073709551616-n) 31 (by omega) (by omega);have e:(18446744073709551616-n) &&& 31=(18446744073709551616-n)%32:=iB _ 5;rw [e] at h;have e2:(18446744073709551616-n)%32=32-n:=by omega
  rw [e2] at h;exact h
 obtain⟨e1,e2⟩:=rot_or 32 n x (by omega) hx
 have q3:IntKind.u32.wrap ((x:Int)*2^(32-n))=((x%2^n*2^(32-n):Nat):Int):=by rw [<-e1,qW];simp
 have q4:IntKind.u64.wrap (32-((32-n:Nat):Int))=(n:Int):=by rw [bH];omega
 have f1:((x:Int)/2^n)=((x/2^n:Nat):Int):=by simp
 have hm:x%2^n*2^(32-n)<4294967296:=by rw [<-e1];exact cI _ (by decide)
 have hd:x/2^n<4294967296:=dC (gM _ _) hx
 have q5:bits .or .u32 ((x%2^n*2^(32-n):Nat):Int) ((x/2^n:Nat):Int)=((lB 32 n x:Nat):Int):=by rw [u32_or _ _ hm hd,nat_join (32-n) _ _ (Nat.mul_mod_left _ _) e2];unfold lB;rw [iD]
 have g1:((32-n:Nat):Int)<=32:=by omega
 have g2:(n:Int)<=32:=by omega
 clear e1 e2 hm hd;generalize lB 32 n x=r at *;generalize x%2^n*2^(32-n)=m at *;generalize x/2^n=d at *;generalize hs:32-n=s at *;generalize 18446744073709551616-n=u at *;clear hs
 go_enter func205,ntmps205
 go_wp2
 go_ret
 exact⟨rfl,rfl⟩
def Uw(l:zj):zq:=l.map λx:Nat=>.int .u32 (x:Int)
def Uw_len(l:zj):(Uw l).length=l.length:=by simp [Uw]
def Uw_one(l:zj):∀u∈Uw l,u.oneCell'=true:=by intro u hu;obtain⟨x,_,rfl⟩:=aZ.1 hu;rfl
def Uw_at{l:zj}{j:Nat}(h:j<l.length):(Uw l).toArray[j]?=some (.int .u32 (l[j]! : Nat)):=by simp [Uw,h]
def Uw_set(l:zj)(k x:Nat):(Uw l).toArray.setIfInBounds k (.int .u32 (x:Int))=(Uw (l.set k x)).toArray:=by simp [Uw,dR]
def orV(i x y:Nat)(hx:x%2^i=0)(hy:y<2^i)(h1:x<4294967296)(h2:y<4294967296):bits .or .u32 (x:Int) (y:Int)=((x+y:Nat):Int):=by rw [u32_or_nat x y h1 h2,nat_join i x y hx hy]
end Go.Proofs.Q
namespace Nums
def ws(n:Nat):zj:=[n%18446744073709551616,n/18446744073709551616%18446744073709551616,n/340282366920938463463374607431768211456%18446744073709551616,n/6277101735386680763835789423207666416102355444464034512896%18446744073709551616]
def v4(a b c d:Nat):Nat:=a+18446744073709551616*b+340282366920938463463374607431768211456*c+6277101735386680763835789423207666416102355444464034512896*d
def lK(n:Nat):(ws n).length=4:=rfl
def u6{a b c d:Nat}(h0:a<18446744073709551616)(h1:b<18446744073709551616)(h2:c<18446744073709551616)(h3:d<18446744073709551616):ws (v4 a b c d)=[a,b,c,d]:=by
 unfold ws v4;have e0:(a+18446744073709551616*b+340282366920938463463374607431768211456*c+6277101735386680763835789423207666416102355444464034512896*d)%18446744073709551616=a:=by omega
 have e1:(a+18446744073709551616*b+340282366920938463463374607431768211456*c+6277101735386680763835789423207666416102355444464034512896*d)/18446744073709551616%18446744073709551616=b:=by omega
 have e2:(a+18446744073709551616*b+340282366920938463463374607431768211456*c+6277101735386680763835789423207666416102355444464034512896*d)/340282366920938463463374607431768211456%18446744073709551616=c:=by omega
 have e3:(a+18446744073709551616*b+340282366920938463463374607431768211456*c+6277101735386680763835789423207666416102355444464034512896*d)/6277101735386680763835789423207666416102355444464034512896%18446744073709551616=d:=by omega
 rw [e0,e1,e2,e3]
def oW{n:Nat}(h:n<115792089237316195423570985008687907853269984665640564039457584007913129639936) :
  ∃a b c d,n=v4 a b c d/\ws n=[a,b,c,d]/\a<18446744073709551616/\b<18446744073709551616/\c<18446744073709551616/\d<18446744073709551616:=by
 refine⟨_,_,_,_,?_,rfl,cI _ (by decide),cI _ (by decide),cI _ (by decide),cI _ (by decide)⟩
 unfold v4
 omega
def yC(n:Nat):∀y∈ws n,y<18446744073709551616:=by intro y hy;simp only [ws,aH,gB,or_false] at hy;rcases hy with rfl|rfl|rfl|rfl<;>exact cI _ (by decide)
def lO(n:Nat){k:Nat}(hk:k<4):(ws n)[k]! < 18446744073709551616 :=
 yC n _ (by rw [getElem!_pos (ws n) k hk];exact iF _)
def mxl(f:zk)(l:zj)(k:Nat):zj:=(dV l.length).map λj=>if j<k then f j else l[j]!
def iV(f:zk)(l:zj)(k:Nat):(mxl f l k).length=l.length:=by simp [mxl]
def oG(f:zk)(l:zj):mxl f l 0=l:=by apply c8 (by simp [mxl]);intro i h1 h2;simp [mxl,h2]
def tU(f:zk)(l:zj){k:Nat}(h:k<l.length):(mxl f l k)[k]! = l[k]!:=by rw [getElem!_pos _ k (by rw [iV];exact h)];simp [mxl]
def l8(f:zk)(l:zj){k:Nat}:(mxl f l k).set k (f k)=mxl f l (k+1):=by
 apply c8 (by simp [mxl]);intro j h1 h2;rw [oP];simp only [mxl,List.getElem_map,List.getElem_range];by_cases hjk:k=j
 .subst hjk;simp
 .rw [if_neg hjk]
  by_cases hlt:j<k
  .rw [if_pos hlt,if_pos (by omega)]
  .rw [if_neg hlt,if_neg (by omega)]
def sup(a b:zj):zk
  | 0=>0
  | k+1=>(a[k]! + b[k]! + sup a b k)/18446744073709551616
def swd(a b:zj)(k:Nat):Nat:=(a[k]! + b[k]! + sup a b k)%18446744073709551616
theorem sup_le{a b:zj}(ha:∀k,k<4->a[k]! < 18446744073709551616)(hb:∀k,k<4->b[k]! < 18446744073709551616):∀k,k<=4->sup a b k<=1
 | 0,_=>aL _
 | k+1,hk=>by have:=sup_le ha hb k (by omega);have:=ha k (by omega);have:=hb k (by omega);show(a[k]! + b[k]! + sup a b k)/18446744073709551616<=1;omega
def xR{A B:Nat}(hA:A<115792089237316195423570985008687907853269984665640564039457584007913129639936)(hB:B<115792089237316195423570985008687907853269984665640564039457584007913129639936) :
  mxl (swd (ws A) (ws B)) (ws A) 4=ws ((A+B)%115792089237316195423570985008687907853269984665640564039457584007913129639936):=by
 obtain⟨a0,a1,a2,a3,eA,wA,p0,p1,p2,p3⟩:=oW hA;obtain⟨b0,b1,b2,b3,eB,wB,q0,q1,q2,q3⟩:=oW hB;rw [wA,wB];have e:mxl (swd [a0,a1,a2,a3] [b0,b1,b2,b3]) [a0,a1,a2,a3] 4=[swd [a0,a1,a2,a3] [b0,b1,b2,b3] 0,swd [a0,a1,a2,a3] [b0,b1,b2,b3] 1,swd [a0,a1,a2,a3] [b0,b1,b2,b3] 2,swd [a0,a1,a2,a3] [b0,b1,b2,b3] 3]:=rfl;have g0:sup [a0,a1,a2,a3] [b0,b1,b2,b3] 0=0:=rfl;have g1:sup [a0,a1,a2,a3] [b0,b1,b2,b3] 1=(a0+b0+sup [a0,a1,a2,a3] [b0,b1,b2,b3] 0)/18446744073709551616:=rfl;have g2:sup [a0,a1,a2,a3] [b0,b1,b2,b3] 2=(a1+b1+sup [a0,a1,a2,a3] [b0,b1,b2,b3] 1)/18446744073709551616:=rfl;have g3:sup [a0,a1,a2,a3] [b0,b1,b2,b3] 3=(a2+b2+sup [a0,a1,a2,a3] [b0,b1,b2,b3] 2)/18446744073709551616:=rfl;have s0:swd [a0,a1,a2,a3] [b0,b1,b2,b3] 0=(a0+b0+sup [a0,a1,a2,a3] [b0,b1,b2,b3] 0)%18446744073709551616:=rfl;have s1:swd [a0,a1,a2,a3] [b0,b1,b2,b3] 1=(a1+b1+sup [a0,a1,a2,a3] [b0,b1,b2,b3] 1)%18446744073709551616:=rfl;have s2:swd [a0,a1,a2,a3] [b0,b1,b2,b3] 2=(a2+b2+sup [a0,a1,a2,a3] [b0,b1,b2,b3] 2)%18446744073709551616:=rfl;have s3:swd [a0,a1,a2,a3] [b0,b1,b2,b3] 3=(a3+b3+sup [a0,a1,a2,a3] [b0,b1,b2,b3] 3)%18446744073709551616:=rfl;rw [e];generalize swd [a0,a1,a2,a3] [b0,b1,b2,b3] 0=x0 at *;generalize swd [a0,a1,a2,a3] [b0,b1,b2,b3] 1=x1 at *;generalize swd [a0,a1,a2,a3] [b0,b1,b2,b3] 2=x2 at *;generalize swd [a0,a1,a2,a3] [b0,b1,b2,b3] 3=x3 at *;generalize sup [a0,a1,a2,a3] [b0,b1,b2,b3] 0=c0 at *;generalize sup [a0,a1,a2,a3] [b0,b1,b2,b3] 1=c1 at *;generalize sup [a0,a1,a2,a3] [b0,b1,b2,b3] 2=c2 at *;generalize sup [a0,a1,a2,a3] [b0,b1,b2,b3] 3=c3 at *
 have hx:(A+B)%115792089237316195423570985008687907853269984665640564039457584007913129639936=v4 x0 x1 x2 x3:=by rw [eA,eB];unfold v4;clear e wA wB hA hB eA eB;omega
 rw [hx,u6 (by omega) (by omega) (by omega) (by omega)]
def pH:LL=7237005577332262213973186563042994240857116359379907606001950938285454250989:=rfl
def xT{v0 v1 v2 v3 t m0 m1 p1 r0 r1 r2 r3 l0 l1 l2 l3 V:Nat}(h0:v0<18446744073709551616)(h1:v1<18446744073709551616)(h2:v2<18446744073709551616)(h3:v3<1152921504606846976)(ht:t<34359738368)
 (hm0:m0=t*6346243789798364141)(hm1:m1=t*1503914060200516822)(hp1:p1=m1%18446744073709551616+m0/18446744073709551616)
 (hl0:l0=if v0<m0%18446744073709551616+0 then 1 else 0)(hr0:r0=(v0+18446744073709551616-m0%18446744073709551616-0)%18446744073709551616)
 (hl1:l1=if v1<p1%18446744073709551616+l0 then 1 else 0)(hr1:r1=(v1+18446744073709551616-p1%18446744073709551616-l0)%18446744073709551616)
 (hl2:l2=if v2<m1/18446744073709551616+p1/18446744073709551616+l1 then 1 else 0)(hr2:r2=(v2+18446744073709551616-(m1/18446744073709551616+p1/18446744073709551616)-l1)%18446744073709551616)
 (hl3:l3=if v3<0+l2 then 1 else 0)(hr3:r3=(v3+18446744073709551616-0-l2)%18446744073709551616)
 (hV:V=v4 v0 v1 v2 v3+7237005577332262213973186563042994240829374041602535252466099000494570602496*t) :
  (l3=0->v4 r0 r1 r2 r3=V%LL)/\(l3=1->(v4 r0 r1 r2 r3+LL)%115792089237316195423570985008687907853269984665640564039457584007913129639936=V%LL)/\l3<=1/\l0<=1/\l1<=1/\l2<=1 /\
   r0<18446744073709551616/\r1<18446744073709551616/\r2<18446744073709551616/\r3<18446744073709551616:=by
 have b0:l0<=1:=by rw [hl0];split<;>omega
 have b1:l1<=1:=by rw [hl1];split<;>omega
 have b2:l2<=1:=by rw [hl2];split<;>omega
 have b3:l3<=1:=by rw [hl3];split<;>omega
 have d0:r0+m0%18446744073709551616=v0+18446744073709551616*l0:=by rw [hr0,hl0];split<;>omega
 have d1:r1+p1%18446744073709551616+l0=v1+18446744073709551616*l1:=by rw [hr1,hl1];split<;>omega
 have hm:m1/18446744073709551616<17179869184:=by omega
 have hp:p1/18446744073709551616<2:=by omega
 have d2:r2+(m1/18446744073709551616+p1/18446744073709551616)+l1=v2+18446744073709551616*l2:=by rw [hr2,hl2];split<;>omega
 have d3:r3+l2=v3+18446744073709551616*l3:=by rw [hr3,hl3];split<;>omega
 have c0:r0<18446744073709551616:=by omega
 have c1:r1<18446744073709551616:=by omega
 have c2:r2<18446744073709551616:=by omega
 have c3:r3<18446744073709551616:=by omega
 clear hr0 hr1 hr2 hr3 hl0 hl1 hl2 hl3
 have key:v4 r0 r1 r2 r3+m0+18446744073709551616*m1=v4 v0 v1 v2 v3+115792089237316195423570985008687907853269984665640564039457584007913129639936*l3:=by unfold v4;omega
 have hlow:v4 v0 v1 v2 v3<7237005577332262213973186563042994240829374041602535252466099000494570602496:=by unfold v4;omega
 have hR:v4 r0 r1 r2 r3<115792089237316195423570985008687907853269984665640564039457584007913129639936:=by unfold v4;omega
 clear d0 d1 d2 d3 hp1 hm hp;refine⟨λh=>?_,λh=>?_,b3,b0,b1,b2,c0,c1,c2,c3⟩
 .have e:V=v4 r0 r1 r2 r3+LL*t:=by
   rw [hV,pH];omega
  rw [e,jV,a7];rw [pH];omega
 .have hg:115792089237316195423570985008687907853269984665640564039457584007913129639936<=v4 r0 r1 r2 r3+LL:=by
   rw [pH];omega
  have e:V+LL=(v4 r0 r1 r2 r3+LL-115792089237316195423570985008687907853269984665640564039457584007913129639936)+LL*t:=by rw [hV,pH] at *;omega
  have e2:V%LL=(V+LL)%LL:=by rw [Nat.add_mod_right]
  rw [e2,e,jV,Nat.mod_eq_sub_mod hg,a7,a7]
  .rw [pH] at *;omega
  .rw [pH] at *;omega
end Nums
namespace Go.Proofs.Q
open Go.RowKit Go.IntWalk Nums
def Ct.row{f:FuncId}{qs:yq}{F:zv}[Pst F]{r:RV}(h:Ct F f qs (one r)){w:yp}(hF:F w):Calls prog f (qs.map SQ.den).toArray w λe w'=>e = .returned r.den/\Below w.heap.size w w' :=
 (h.spec w (λ_=>False) (λ_=>False) (λ_ h=>h) (λ_ h=>h.elim) (Stb.of_pst hF λ_ _ h=>h.elim id id)).mono λ_ _ ⟨_,_,h1,_,h2,_⟩=>⟨h1,h2.up λ_ _ h=>h⟩
abbrev eW(n:Nat)(l:zj):SQ:=.p [.agg n (Us l).toArray]
abbrev eZ(n:Nat)(l:zj):SQ:=.p [.agg n (Uw l).toArray]
def eW_ok{l:zj}{n:Nat}(h:l.length=n):OkP [.agg n (Us l).toArray]:=λq hq=>by rw [aD.1 hq];exact⟨by rw [aW,Us_len,h],λv hv=>Us_one l v (by simpa using hv)⟩
def eZ_ok{l:zj}{n:Nat}(h:l.length=n):OkP [.agg n (Uw l).toArray]:=λq hq=>by rw [aD.1 hq];exact⟨by rw [aW,Uw_len,h],λv hv=>Uw_one l v (by simpa using hv)⟩
def Us_in{n j:Nat}{l:zj}(h:j<l.length):(catP [.agg n (Us l).toArray])[0+j]?=some (.int .u64 (l[j]! : Nat)):=by rw [aY];exact Us_at h
def Uw_in{n j:Nat}{l:zj}(h:j<l.length):(catP [.agg n (Uw l).toArray])[0+j]?=some (.int .u32 (l[j]! : Nat)):=by rw [aY];exact Uw_at h
section
variable{F:zv}
def rot64_C{x:Nat}(n:Nat)(hx:x<2^64)(hn:0<n/\n<64):Ct F 217 [.c (.v (.int .u64 (x:Int))),.c (.v (.int .i64 (-(n:Int))))] (one (.v (.int .u64 ((lB 64 n x:Nat):Int)))):=⟨λ_ _=>by go_simp,Spec.pure trivial λw _=>(rot64_f x n hx hn.1 hn.2 w).mono λ_ _ h=>⟨h.1,h.2▸Below.refl _ _⟩⟩
def rot32_C{x:Nat}(n:Nat)(hx:x<2^32)(hn:0<n/\n<32):Ct F 205 [.c (.v (.int .u32 (x:Int))),.c (.v (.int .i64 (-(n:Int))))] (one (.v (.int .u32 ((lB 32 n x:Nat):Int)))):=⟨λ_ _=>by go_simp,Spec.pure trivial λw _=>(rot32_f x n hx hn.1 hn.2 w).mono λ_ _ h=>⟨h.1,h.2▸Below.refl _ _⟩⟩
end
def KW(K:IntKind)(w:Nat):Prop:=K = .u64/\w=64\/K = .u32/\w=32
section
variable{K:IntKind}{w:Nat}{a b c:Nat}
def KW.wrap(hK:KW K w)(x:Nat):K.wrap (x:Int)=((x%2^w:Nat):Int):=by
 rcases hK with⟨rfl,rfl⟩|⟨rfl,rfl⟩
 .rw [bH];omega
 .rw [qW];omega
def KW.add(hK:KW K w):K.wrap ((a:Int)+(b:Int))=(((a+b)%2^w:Nat):Int):=by rw [<-hK.wrap];rfl
def KW.xor(hK:KW K w)(ha:a<2^w)(hb:b<2^w):bits .xor K (a:Int) (b:Int)=((a ^^^ b:Nat):Int):=by
 rcases hK with⟨rfl,rfl⟩|⟨rfl,rfl⟩
 .exact u64_xor_nat _ _ ha hb
 .exact u32_xor_nat _ _ ha hb
def KW.and(hK:KW K w)(ha:a<2^w)(hb:b<2^w):bits .and K (a:Int) (b:Int)=((a &&& b:Nat):Int):=by
 rcases hK with⟨rfl,rfl⟩|⟨rfl,rfl⟩
 .exact u64_and_nat _ _ ha hb
 .exact u32_and_nat _ _ ha hb
def KW.not(hK:KW K w)(ha:a<2^w):bits .xor K (if K.signed then -1 else K.max) (a:Int)=((2^w-1-a:Nat):Int):=by
 have h2:(2^w-1) ^^^ a=2^w-1-a:=by
  apply Nat.eq_of_testBit_eq;intro i;rw [show 2^w-1-a=2^w-(a+1) by omega,Nat.testBit_two_pow_sub_succ ha,Nat.testBit_xor,Nat.testBit_two_pow_sub_one];by_cases hi:i<w
  .simp [hi]
  .have h3:a.testBit i=false:=Nat.testBit_lt_two_pow (b9 ha (mC (n:=2) (by decide) (show w<=i by omega)));simp [hi,h3]
 have h:=hK.xor (a:=2^w-1) (b:=a) (Nat.sub_lt (jI _) (by decide)) ha;rw [h2] at h;rw [<-h];rcases hK with⟨rfl,rfl⟩|⟨rfl,rfl⟩<;>rfl
def KW.big(hK:KW K w)(t:Nat×Nat×Nat)(ht:t.1<=w/\t.2.1<=w/\t.2.2<=w)(ha:a<2^w):bits .xor K (bits .xor K ((lB w t.1 a:Nat):Int) ((lB w t.2.1 a:Nat):Int)) ((lB w t.2.2 a:Nat):Int)=((xG w t a:Nat):Int):=by rw [hK.xor (kK ht.1 ha) (kK ht.2.1 ha),hK.xor (sZ (kK ht.1 ha) (kK ht.2.1 ha)) (kK ht.2.2 ha)];rfl
def KW.ch{f g:Nat}(hK:KW K w)(ha:a<2^w)(hf:f<2^w)(hg:g<2^w):bits .xor K (bits .and K (a:Int) (f:Int)) (bits .and K (bits .xor K (if K.signed then -1 else K.max) (a:Int)) (g:Int))=((chw w a f g:Nat):Int):=by
 have hn:2^w-1-a<2^w:=by omega
 rw [hK.not ha,hK.and ha hf,hK.and hn hg,hK.xor (n5 ha) (n5 hn)];rfl
def KW.ma(hK:KW K w)(ha:a<2^w)(hb:b<2^w)(hc:c<2^w):bits .xor K (bits .xor K (bits .and K (a:Int) (b:Int)) (bits .and K (a:Int) (c:Int))) (bits .and K (b:Int) (c:Int))=((maw a b c:Nat):Int):=by rw [hK.and ha hb,hK.and ha hc,hK.and hb hc,hK.xor (n5 ha) (n5 ha),hK.xor (sZ (n5 ha) (n5 ha)) (n5 hb)];rfl
def KW.shr(hK:KW K w)(c:Nat)(hc:c<=w):qX (a:Int) (2^min c K.bits)=((a/2^c:Nat):Int):=by
 have e:min c K.bits=c:=by rcases hK with⟨rfl,rfl⟩|⟨rfl,rfl⟩<;>exact cA hc
 rw [e,Int.fdiv_eq_ediv_of_nonneg _ (Int.pow_nonneg (by decide))];simp
def KW.low(hK:KW K w)(t:Nat×Nat×Nat)(ht:t.1<=w/\t.2.1<=w/\t.2.2<=w)(ha:a<2^w):bits .xor K (bits .xor K ((lB w t.1 a:Nat):Int) ((lB w t.2.1 a:Nat):Int)) (qX (a:Int) (2^min t.2.2 K.bits))=((p9 w t a:Nat):Int):=by rw [hK.shr _ ht.2.2,hK.xor (kK ht.1 ha) (kK ht.2.1 ha),hK.xor (sZ (kK ht.1 ha) (kK ht.2.1 ha)) (dC (gM _ _) ha)];rfl
def KW.sum4{d:Nat}(hK:KW K w):K.wrap (K.wrap (K.wrap ((a:Int)+(b:Int))+(c:Int))+(d:Int))=(((a+b+c+d)%2^w:Nat):Int):=by rw [hK.add,hK.add,hK.add,lH,bZ ((a+b)%2^w) c d,lH,<-bZ]
def KW.t1{h s ch k x:Nat}(hK:KW K w):K.wrap (K.wrap (K.wrap (K.wrap ((h:Int)+(s:Int))+(ch:Int))+(k:Int))+(x:Int))=(((h+s+ch+k+x)%2^w:Nat):Int):=by rw [hK.add,hK.add,hK.add,hK.add,lH,lH,bZ ((h+s+ch)%2^w) k x,lH,<-bZ]
def KW.t1c{h s e f g k x:Nat}(hK:KW K w)(he:e<2^w)(hf:f<2^w)(hg:g<2^w):K.wrap (K.wrap (K.wrap (K.wrap ((h:Int)+(s:Int))+bits .xor K (bits .and K (e:Int) (f:Int)) (bits .and K (bits .xor K (if K.signed then -1 else K.max) (e:Int)) (g:Int)))+(k:Int))+(x:Int))=(((h+s+chw w e f g+k+x)%2^w:Nat):Int):=by rw [hK.ch he hf hg];exact hK.t1
def KW.t2{s:Nat}(hK:KW K w)(ha:a<2^w)(hb:b<2^w)(hc:c<2^w):K.wrap ((s:Int)+bits .xor K (bits .xor K (bits .and K (a:Int) (b:Int)) (bits .and K (a:Int) (c:Int))) (bits .and K (b:Int) (c:Int)))=(((s+maw a b c)%2^w:Nat):Int):=by rw [hK.ma ha hb hc];exact hK.add
def KW.sum{x y:Nat}(hK:KW K w):K.wrap (((x%2^w:Nat):Int)+((y%2^w:Nat):Int))=(((x+y)%2^w:Nat):Int):=by rw [hK.add,<-gP]
def KW.sum1{x y:Nat}(hK:KW K w):K.wrap ((x:Int)+((y%2^w:Nat):Int))=(((x+y)%2^w:Nat):Int):=by rw [hK.add,Nat.add_mod_mod]
end
section
variable{b:Base}{ops:zp}{N n i k1 k2 g:Nat}{G:zk}{S:zm}{E:SE}{L:ze}{R:zd}{F M:zv}{w0:yp}{Z:Act->Prop}{rest:zo}{o1 o2:Oper}{t e:yn}{y:yo}{K:IntKind}{d:TypeDesc}{v:Value}
def n_tab(hst:StW b G S L R F M w0)(h1:(o1.guard,o1.dst,o1.op)=(none,some k1,.indexAddr t (.global g) y))(h2:(o2.guard,o2.dst,o2.op)=(none,some k2,.load e (.tmp k1)))(hk:(aU k1 N&&aU k2 N)=true)(hy:evS E y=some (.v (.int K (i:Int))))(ha:Arr t n)(hi:i<n)(hu:prog.underlying e=some d)(hr:d.isRow=false)(hc:∀w,F w->w.cell? ⟨g,i,none⟩=some v)
 (hn:nS prog ops N w0 Z G rest ((k2,.v v)::(k1,.v (.pointer (some ⟨g,0+1*i,none⟩)))::E)):nS prog ops N w0 Z G (o1::o2::rest) E:=by
 obtain⟨te,ht,he⟩:=ha;simp only [cK,aN] at h1 h2 hk;refine n_op hst (.v (.pointer (some ⟨g,0+1*i,none⟩))) trivial h1.1 h1.2.1 hk.1 (runO_ixP i h1.2.2 ht he rfl hy hi) ?_;refine n_opV hst (.v v) trivial h2.1 h2.2.1 hk.2 (run_ldM h2.2.2 (by show lookS ((k1,_)::E) k1=_;unfold lookS;rw [pN]) hu hr λG S w hv=>?_) hn;rw [aY,fH];exact hc w hv.fact
end
section
variable{b:Base}{ops:zp}{Q:zx}{N n m i l h k k1 k2 j off c:Nat}{E:SE}{L:ze}{R:zd}{F M:zv}{rest:zo}{o o1 o2:Oper}{t e:yn}{x y lo hi:yo}{K K2:IntKind}{d:TypeDesc}{v:Value}{ps:zb}
def l_cutV(l h:Nat)(ho:(o.guard,o.dst,o.op)=(none,some k,.slice t x (some lo) (some hi) none))(hk:aU k N=true)(ha:Arr t n)(hx:evS E x=some (.a j off))(hl:evS E lo=some (.v (.int K (l:Int))))(hh:evS E hi=some (.v (.int K2 (h:Int))))(h1:l<=h)(h2:h<=n)(h3:l<n)
 (hn:lS prog b ops Q N rest ⟨(k,.s j (off+l) (h-l) (n-l))::E,L,R,F,M⟩):lS prog b ops Q N (o::rest) ⟨E,L,R,F,M⟩:=by
 obtain⟨te,ht,he⟩:=ha;simp only [cK] at ho;refine l_op (.s j (off+l) (h-l) (n-l)) trivial ho.1 ho.2.1 hk (λG a w ha=>?_) hn;have e1:a.eval x = .pointer (some ⟨G j,off,none⟩):=ha.eval (evS_ok hx);have e2:=ha.eval (evS_ok (G:=G) hl);have e3:=ha.eval (evS_ok (G:=G) hh);have hr:=run_cutA (P:=prog) (g:=G j) (off:=off) (l:=l) (h:=h) (n:=n) ht he (.inr ⟨K,rfl⟩) (.inr ⟨K2,rfl⟩) h1 h2 h3 w
 unfold execOp
 simp only [ho.2.2,bS,Option.map_none,e1,e2,e3,SV.den,SQ.den,SC.den,hr,aG,aI,aC]
def runO_ixW{P:Program}(i:Nat)(ho:o.op = .indexAddr t x y)(hx:evS E x=some (.s j off n c))(hy:evS E y=some (.v (.int K (i:Int))))(hi:i<n)(ht:P.underlying t=some (.slice e))(he:(P.info? e).map (·.size)=some 1):∀(G:zk) (a:Act) (w:yp),Fr N (denE G E) a->(execOp a.eval o).run P w = .ok (.value ((SV.a j (off+i)).den G)) w:=λG a w ha=>by
 have e1:a.eval x = .slice (some ⟨G j,off,none⟩) n c:=ha.eval (evS_ok hx);have e2:=ha.eval (evS_ok (G:=G) hy);have hz:=run_sizeOf he w;have h0:(0:Int)<=i/\(i:Int)<n:=by omega
 unfold execOp;simp only [ho,e1,e2,SV.den,SQ.den,SC.den,Instr.indexAt,asIntOf,run_underlying ht,aG,aI,aC];simp [h0,cQ,hz]
def l_cellS(i:Nat)(h1:(o1.guard,o1.dst,o1.op)=(none,some k1,.indexAddr t x y))(h2:(o2.guard,o2.dst,o2.op)=(none,some k2,.load e (.tmp k1)))(hk:(aU k1 N&&aU k2 N)=true)(hx:evS E x=some (.s j off n c))(hy:evS E y=some (.v (.int K (i:Int))))(hi:i<n)(ht:prog.underlying t=some (.slice e))(he:(prog.info? e).map (·.size)=some 1)(hl:lookL L j=some ps)(hv:(catP ps)[off+i]?=some v)(hu:prog.underlying e=some d)(hr:d.isRow=false)
 (hn:lS prog b ops Q N rest ⟨(k2,.v v)::(k1,.a j (off+i))::E,L,R,F,M⟩):lS prog b ops Q N (o1::o2::rest) ⟨E,L,R,F,M⟩:=by
 simp only [cK,aN] at h1 h2 hk;exact l_op (.a j (off+i)) trivial h1.1 h1.2.1 hk.1 (runO_ixW i h1.2.2 hx hy hi ht he) (l_opV (.v v) trivial h2.1 h2.2.1 hk.2 (runO_ldA v h2.2.2 (by show lookS ((k1,_)::E) k1=_;unfold lookS;rw [pN]) hl hv hu hr) hn)
def n_cellS{G:zk}{S:zm}{w0:yp}{Z:Act->Prop}(hst:StW b G S L R F M w0)(i:Nat)(h1:(o1.guard,o1.dst,o1.op)=(none,some k1,.indexAddr t x y))(h2:(o2.guard,o2.dst,o2.op)=(none,some k2,.load e (.tmp k1)))(hk:(aU k1 N&&aU k2 N)=true)(hx:evS E x=some (.s j off n c))(hy:evS E y=some (.v (.int K (i:Int))))(hi:i<n)(ht:prog.underlying t=some (.slice e))(he:(prog.info? e).map (·.size)=some 1)(hl:lookL L j=some ps)(hv:(catP ps)[off+i]?=some v)(hu:prog.underlying e=some d)(hr:d.isRow=false)
 (hn:nS prog ops N w0 Z G rest ((k2,.v v)::(k1,.a j (off+i))::E)):nS prog ops N w0 Z G (o1::o2::rest) E:=by
 simp only [cK,aN] at h1 h2 hk;exact n_op hst (.a j (off+i)) trivial h1.1 h1.2.1 hk.1 (runO_ixW i h1.2.2 hx hy hi ht he) (n_opV hst (.v v) trivial h2.1 h2.2.1 hk.2 (runO_ldA v h2.2.2 (by show lookS ((k1,_)::E) k1=_;unfold lookS;rw [pN]) hl hv hu hr) hn)
end
def z80:zj:=aB 80 0
def z80_len:z80.length=80:=by decide
def z80_get(k:Nat):z80[k]! = 0:=by
 unfold z80;by_cases h:k<80
 .rw [getElem!_pos _ k (by rw [bL];exact h),List.getElem_replicate]
 .rw [getElem!_neg _ k (by rw [bL];exact h)];rfl
def mxl_in{f:zk}{l:zj}{k j:Nat}(h:j<k)(hj:j<l.length):(mxl f l k)[j]! = f j:=by rw [getElem!_pos _ j (by rw [iV];exact hj)];simp [mxl,h]
def set_zero{F:zk}{k:Nat}:(mxl F z80 k).set k 0=mxl F z80 k:=by
 apply c8 (by simp);intro i h1 h2;rw [oP];by_cases h:k=i
 .subst h
  have h3:k<80:=by simpa [iV,z80_len] using h2
  rw [if_pos rfl];have:=tU F z80 (k:=k) (by rw [z80_len];exact h3);rw [getElem!_pos _ k h2,z80_get] at this;exact this.symm
 .rw [if_neg h]
def own_long512:Own 216:=λ_ _=>by go_simp
def arr80:Arr 317 80:=⟨_,underlying317,by kernel_rfl⟩
def arr128:Arr 285 128:=⟨_,underlying285,by kernel_rfl⟩
def mulI(a b:Nat)(h:a*b<9223372036854775808):IntKind.i64.wrap ((a:Int)*(b:Int))=((a*b:Nat):Int):=by rw [show(a:Int)*(b:Int)=((a*b:Nat):Int) from rfl,i64_left,wrap64_in _ (by omega)]
def get_set{l:zj}{t x:Nat}(h:t<l.length):(l.set t x)[t]! = x:=by rw [getElem!_pos _ t (by rw [bV];exact h),n7]
def ben_or{f:zk}{k:Nat}(hk:k<8)(hf:∀j,f j<256):bits .or .u64 (IntKind.u64.wrap ((ben f k:Int)*2^min 8 IntKind.u64.bits)) (IntKind.u64.wrap (f k:Int))=((ben f (k+1):Nat):Int):=by
 have h1:=tE hf k;have h2:=mC (n:=256) (by decide) (show k<=7 by omega);have h3:=hf k;have e:(256:Nat)^7=72057594037927936:=by decide
 rw [e] at h2;rw [show((ben f k:Int)*2^min 8 IntKind.u64.bits)=((ben f k*256:Nat):Int) from rfl,wrapN _ (by omega),wrapN _ (by omega)];exact orW 8 _ _ (by omega) h3 (by omega) (by omega)
def kw64:KW .u64 64:=.inl ⟨rfl,rfl⟩
def long512_C{F:zv}[Pst F]{b:zu}(hb:b.length=128):Ct F 216 [eY 128 b] (one (.q (eW 80 (mxl (sx eK b) z80 80)))):=⟨own_long512,by
 have hX:=xK eK b (by decide);have hlen:∀t,(mxl (sx eK b) z80 t).length=80:=λt=>by rw [iV,z80_len]
 have h16:∀t,t<16->sx eK b t=ben (λk=>(b[8*t+k]!).toNat) 8:=λt ht=>by rw [sx,dif_pos ht];show ben (λk=>(b[t*8+k]!).toNat) 8=_;rw [cX]
 have hrec:∀t,16<=t->(p9 64 (19,61,6) (sx eK b (t-2))+sx eK b (t-7)+p9 64 (1,8,7) (sx eK b (t-15))+sx eK b (t-16))%2^64=sx eK b t:=λt ht=>by
  conv=>rhs;rw [sx,dif_neg (by omega)]
  rfl
 generalize sx eK b=X at *;refine zQ [eY 128 b] 81 func216 rfl (by rw [ntmps216];rfl) (one_ok (eY_ok hb).1) λB=>?_;refine zA rfl (zA rfl ?_);let L:zj->ze:=λl=>[⟨3,none,317,[.agg 80 (Us l).toArray]⟩,⟨2,none,317,[.agg 80 (Us (aB 80 0)).toArray]⟩,⟨1,none,285,[.agg 128 (By b).toArray]⟩];let P:Nat×zj->Env:=λs=>⟨[(12,.v (.int .i64 (s.1:Int))),(1,.a 1 0),(2,.a 2 0),(3,.a 3 0)],L s.2,[],F,λ_=>True⟩;refine zM λK1 hK1=>zA rfl (zN ?_);refine c_weak (e':=P (0,aB 80 0)) ⟨zE rfl, zL rfl rfl, .refl _,λ_ h _=>h, zU⟩ (s_loop (λs=>16-s.1) P (λs=>s.1<=16/\s.2=mxl X z80 s.1) ?_ (0,aB 80 0) ⟨aL _,(oG X z80).symm⟩)
 .rintro⟨t,l⟩ ⟨ht,hl⟩
  dsimp only at ht hl;subst hl;refine zA rfl (zM λK2 hK2=>?_);refine zW ((t:Int)<16) rfl (λhlt=>?_) (λhge=>?_)
  .have hlt:t<16:=by omega
   refine zO (hK2 _ (zM λK3 hK3=>zN (zA rfl ?_)));refine s_reg λK hK=>l_auto2 rfl (l_num 16 ((8*t:Nat):Int) rfl (mulI 8 t (by omega)) (l_num 19 ((8*t+8:Nat):Int) rfl (by show IntKind.i64.wrap (IntKind.i64.wrap (((8:Nat):Int)*(t:Int))+((8:Nat):Int))=_;rw [mulI 8 t (by omega)];exact addI _ _ (by omega)) ?_));refine l_cutV (8*t) (8*t+8) rfl rfl arr128 rfl rfl rfl (by omega) (by omega) (by omega) (l_auto2 rfl (l_num 21 8 rfl (by omega) (zJ (hK _ ?_))));let Q:Nat×zj->Env:=λs=>⟨[(22,.v (.int .i64 (s.1:Int))),(21,.v (.int .i64 8)),(20,.s 1 (0+8*t) (8*t+8-8*t) (128-8*t)),(4,.v (.int .i64 (t:Int))),(12,.v (.int .i64 (t:Int))),(1,.a 1 0),(2,.a 2 0),(3,.a 3 0)],L s.2,[],F,λ_=>True⟩;have h0:∀x,((mxl X z80 t).set t x).length=80:=λx=>by rw [bV,hlen]
   refine zN ?_;refine c_weak (e':=Q (0,mxl X z80 t)) ⟨zE rfl, zL rfl rfl, .refl _,λ_ h _=>h,λ_ h=>h⟩ (s_loop (λs=>8-s.1) Q (λs=>s.1<=8/\s.2=(mxl X z80 t).set t (ben (λk=>(b[8*t+k]!).toNat) s.1)) ?_ (0,mxl X z80 t) ⟨aL _,set_zero.symm⟩);rintro⟨k,l⟩ ⟨hk,hl⟩;dsimp only at hk hl;subst hl;refine zA rfl (zM λK4 hK4=>?_);refine zW ((k:Int)<8) rfl (λhlt2=>?_) (λhge=>?_)
   .have hlt2:k<8:=by omega
    refine zO (hK4 _ (zM λK5 hK5=>zN ?_));refine s_reg λK hK=>l_cellS k rfl rfl rfl rfl rfl (by omega) underlying39 size_u8 rfl (by rw [aY];exact By_get (by omega)) underlying5 rfl (l_N hK rfl ?_);refine s_lit (l_auto2 rfl ?_);refine l_cell rfl arr80 (by show t<80;omega) (.int .u64 ((ben (λk=>(b[8*t+k]!).toNat) k:Nat):Int)) ((Us_in (j:=t) (l:=(mxl X z80 t).set t _) (by rw [h0];omega)).trans (by rw [get_set (by rw [hlen];omega)])) ?_;refine l_auto2 rfl (l_num 33 ((ben (λk=>(b[8*t+k]!).toNat) (k+1):Nat):Int) rfl (ben_or hlt2 (λj=>cV _)) ?_);refine l_put rfl arr80 (by show t<80;omega) [.agg 80 (Us ((mxl X z80 t).set t (ben (λk=>(b[8*t+k]!).toNat) (k+1)))).toArray] (eW_ok (h0 _)) ?_ ?_ (zJ (hK5 _ ?_))
    .show 0+t<(Us ((mxl X z80 t).set t _)).toArray.size;rw [aW,Us_len,h0];omega
    .show Us ((mxl X z80 t).set t _)=(Us ((mxl X z80 t).set t _)).set (0+t) _;rw [aY,Us,Us,dR,dR,List.set_set]
    refine zD rfl ?_;exact zX (k+1,_) ⟨hlt2,rfl⟩ (by show 8-(k+1)<8-k;omega) ⟨⟨congrArg (λx=>some (SV.v (.int .i64 x))) (addI k 1 (by omega)),rfl,rfl,rfl,rfl,rfl,rfl,rfl,trivial⟩,zL rfl rfl, .refl _,λ_ h _=>h,λ_ h=>h⟩
   .obtain rfl:k=8:=by omega
    refine s_exit (zS (zS (k_out (hK3 _ (zD rfl ?_)))));rw [<-h16 t hlt,l8];exact zX (t+1,_) ⟨hlt,rfl⟩ (by show 16-(t+1)<16-t;omega) ⟨⟨congrArg (λx=>some (SV.v (.int .i64 x))) (addI t 1 (by omega)),rfl,rfl,rfl,trivial⟩,zL rfl rfl, .refl _,λ_ h _=>h,λ_ h=>h⟩
  .obtain rfl:t=16:=by omega
   refine s_exit (zS (zS (k_out (hK1 _ ?_))));let Q:Nat×zj->Env:=λs=>⟨[(7,.v (.int .i64 (s.1:Int))),(1,.a 1 0),(2,.a 2 0),(3,.a 3 0)],L s.2,[],F,λ_=>True⟩;refine zM λK1 hK1=>zA rfl (zN ?_);refine c_weak (e':=Q (16,mxl X z80 16)) ⟨zE rfl, zL rfl rfl, .refl _,λ_ h _=>h,λ_ h=>h⟩ (s_loop (λs=>80-s.1) Q (λs=>16<=s.1/\s.1<=80/\s.2=mxl X z80 s.1) ?_ (16,mxl X z80 16) ⟨aF _,aE rfl,rfl⟩);rintro⟨t,l⟩ ⟨ht0,ht,hl⟩;dsimp only at ht0 ht hl;subst hl;have rd:∀j,j<t->(catP [.agg 80 (Us (mxl X z80 t)).toArray])[0+j]?=some (.int .u64 ((X j:Nat):Int)):=λj hj=>(Us_in (by rw [hlen];omega)).trans (by rw [mxl_in hj (by rw [z80_len];omega)]);refine zM λK3 hK3=>zA rfl ?_;refine zW ((t:Int)<80) rfl (λhlt=>?_) (λhge=>?_)
   .have hlt:t<80:=by omega
    refine zO (hK3 _ (zM λK4 hK4=>zN ?_));refine s_N 10 [] (by kernel_rfl) λK hK G S w0 hst=>?_;refine n_auto2 hst rfl (n_num 42 ((t-2:Nat):Int) rfl (subI t 2 (by omega) (by omega)) ?_);refine n_cell hst rfl arr80 (by show t-2<80;omega) (.int .u64 ((X (t-2):Nat):Int)) (rd (t-2) (by omega)) ?_;refine n_auto2 hst rfl (n_num 46 ((t-15:Nat):Int) rfl (subI t 15 (by omega) (by omega)) ?_);refine n_cell hst rfl arr80 (by show t-15<80;omega) (.int .u64 ((X (t-15):Nat):Int)) (rd (t-15) (by omega)) ?_;refine n_N hst rfl hK rfl ?_;refine s_reg λK hK=>l_X (rot64_C 19 (hX (t-2)) (by decide)) (λ_=>rfl) rfl λ_=>l_X (rot64_C 61 (hX (t-2)) (by decide)) (λ_=>rfl) rfl λ_=>l_auto2 rfl (l_num 10 _ rfl (kw64.low (19,61,6) (by decide) (hX (t-2))) (zJ (hK _ ?_)));refine s_reg λK hK=>l_X (rot64_C 1 (hX (t-15)) (by decide)) (λ_=>rfl) rfl λ_=>l_X (rot64_C 8 (hX (t-15)) (by decide)) (λ_=>rfl) rfl λ_=>l_auto2 rfl (l_num 11 _ rfl (kw64.low (1,8,7) (by decide) (hX (t-15))) (zJ (hK _ ?_)));refine s_drawnN 15 (by kernel_rfl) λG S w0 hst=>?_;refine n_auto2 hst rfl (n_num 68 ((t-7:Nat):Int) rfl (subI t 7 (by omega) (by omega)) ?_);refine n_cell hst rfl arr80 (by show t-7<80;omega) (.int .u64 ((X (t-7):Nat):Int)) (rd (t-7) (by omega)) ?_;refine n_auto2 hst rfl (n_num 75 ((t-16:Nat):Int) rfl (subI t 16 (by omega) (by omega)) ?_);refine n_cell hst rfl arr80 (by show t-16<80;omega) (.int .u64 ((X (t-16):Nat):Int)) (rd (t-16) (by omega)) ?_;refine n_auto2 hst rfl (n_num 78 _ rfl (kw64.sum4.trans (by rw [hrec t ht0])) (n_ix hst rfl arr80 hlt ?_));refine n_L hst rfl ?_;refine l_st1 rfl [.agg 80 (Us (mxl X z80 (t+1))).toArray] (eW_ok (hlen _)) ?_ ?_ (zJ (hK4 _ ?_))
    .show 0+t<(Us (mxl X z80 t)).toArray.size;rw [aW,Us_len,hlen];omega
    .show Us (mxl X z80 (t+1))=(Us (mxl X z80 t)).set (0+t) _;rw [aY,Us,Us,<-l8,dR]
    refine zD rfl ?_;exact zX (t+1,_) ⟨by show 16<=t+1;omega,hlt,rfl⟩ (by show 80-(t+1)<80-t;omega) ⟨⟨congrArg (λx=>some (SV.v (.int .i64 x))) (addI t 1 (by omega)),rfl,rfl,rfl,trivial⟩,zL rfl rfl, .refl _,λ_ h _=>h,λ_ h=>h⟩
   .obtain rfl:t=80:=by omega
    refine s_exit (zS (zS (k_out (hK1 _ (zA rfl (zP ?_))))));exact zG () rfl (λ_ _ _=>trivial) λ_ _=>trivial⟩
def own_turn512:Own 176:=λ_ _=>by go_simp
structure Ts(w:yp):Prop where
  cell:∀i,i<80->w.cell? ⟨2,i,none⟩=some (.int .u64 (cbs[i]! : Nat))
  lt : 2 < w.heap.size
def Ts.below{w w':yp}(h:Ts w)(hb:Below w.heap.size w w'):Ts w' :=
 ⟨λi hi=>(hb.cell (p:=⟨2,i,none⟩) h.lt).trans (h.cell i hi),b9 h.lt hb.size⟩
instance:Pst Ts:=⟨λ_ _ h hb=>h.below hb⟩
def cbs_lt{t:Nat}(h:t<80):cbs[t]! < 18446744073709551616:=by
 have h1:∀x∈cbs,x<18446744073709551616:=by decide
 have h2:t<cbs.length:=h;rw [getElem!_pos cbs t h2];exact h1 _ (iF _)
def arr8:Arr 284 8:=⟨_,underlying284,by kernel_rfl⟩
def turn512_C{o:Oct}(ho:OB 64 o){b:zu}(hb:b.length=128):Ct Ts 176 [eW 8 o.list,eY 128 b] (one (.q (eW 8 (gR eK o b).list))):=⟨own_turn512,by
 have hxn:(mxl (sx eK b) z80 80).length=80:=by rw [iV,z80_len]
 have hO:=λt=>OB.o6 (s:=eK) (b:=b) ho t;refine zQ [eW 8 o.list,eY 128 b] 135 func176 rfl (by rw [ntmps176];rfl) (two_ok (eW_ok rfl) (eY_ok hb).1) λB=>?_;refine zA rfl (s_reg λK hK=>l_X (long512_C hb) (λ_=>rfl) rfl λ_=>l_N hK rfl ?_);refine s_N 24 [] (by kernel_rfl) λK hK G S w0 hst=>?_;refine n_cell hst rfl arr8 (aE rfl) (.int .u64 (o.a:Int)) rfl (n_cell hst rfl arr8 (aE rfl) (.int .u64 (o.b:Int)) rfl (n_cell hst rfl arr8 (aE rfl) (.int .u64 (o.c:Int)) rfl (n_cell hst rfl arr8 (aE rfl) (.int .u64 (o.d:Int)) rfl (n_cell hst rfl arr8 (aE rfl) (.int .u64 (o.e:Int)) rfl (n_cell hst rfl arr8 (aE rfl) (.int .u64 (o.f:Int)) rfl (n_cell hst rfl arr8 (aE rfl) (.int .u64 (o.g:Int)) rfl (n_cell hst rfl arr8 (aE rfl) (.int .u64 (o.h:Int)) rfl (n_N hst rfl hK rfl (zM λK1 hK1=>zA rfl (zN ?_))))))))));let P:Nat×Oct->Env:=λs=>⟨[(37,.v (.int .i64 (s.1:Int))),(6,.v (.int .u64 (s.2.a:Int))),(7,.v (.int .u64 (s.2.b:Int))),(8,.v (.int .u64 (s.2.c:Int))),(9,.v (.int .u64 (s.2.d:Int))),(10,.v (.int .u64 (s.2.e:Int))),(11,.v (.int .u64 (s.2.f:Int))),(12,.v (.int .u64 (s.2.g:Int))),(13,.v (.int .u64 (s.2.h:Int))),(2,.a 2 0),(4,.a 4 0),(5,.a 5 0)],
  [⟨5,none,317,[.agg 80 (Us (mxl (sx eK b) z80 80)).toArray]⟩,⟨4,none,284,[.agg 8 (Us (aB 8 0)).toArray]⟩,⟨2,none,284,[.agg 8 (Us o.list).toArray]⟩],[],Ts,λ_=>True⟩
 refine c_weak (e':=P (0,o)) ⟨zE rfl, zL rfl rfl, .refl _,λ_ h _=>h, zU⟩ (s_loop (λs=>80-s.1) P (λs=>s.1<=80/\s.2=o6 eK b o s.1) ?_ (0,o) ⟨aL _,rfl⟩);rintro⟨t,q⟩ ⟨ht,hq⟩;dsimp only at ht hq;have hB:=hO t;rw [<-hq] at hB;refine zA rfl (zM λK2 hK2=>?_);refine zW ((t:Int)<80) rfl (λhlt=>?_) (λhge=>?_)
 .have hlt:t<80:=by omega
  refine zO (hK2 _ (zM λK3 hK3=>zN (zA rfl ?_)));refine s_reg λK hK=>l_X (rot64_C 14 hB.e (by decide)) (λ_=>rfl) rfl λ_=>l_X (rot64_C 18 hB.e (by decide)) (λ_=>rfl) rfl λ_=>l_X (rot64_C 41 hB.e (by decide)) (λ_=>rfl) rfl λ_=>l_auto2 rfl (l_num 15 _ rfl (kw64.big (14,18,41) (by decide) hB.e) (zJ (hK _ ?_)));refine s_reg λK hK=>l_X (rot64_C 28 hB.a (by decide)) (λ_=>rfl) rfl λ_=>l_X (rot64_C 34 hB.a (by decide)) (λ_=>rfl) rfl λ_=>l_X (rot64_C 39 hB.a (by decide)) (λ_=>rfl) rfl λ_=>l_auto2 rfl (l_num 16 _ rfl (kw64.big (28,34,39) (by decide) hB.a) (zJ (hK _ ?_)));refine s_N 21 [] (by kernel_rfl) λK hK G S w0 hst=>?_;refine n_auto2 hst rfl (n_tab hst rfl rfl rfl rfl arr80 hlt underlying96 rfl (λw h=>h.cell t hlt) (n_auto2 hst rfl ?_));refine n_cell hst rfl arr80 hlt (.int .u64 ((sx eK b t:Nat):Int)) ((Us_in (by rw [hxn];exact hlt)).trans (by rw [mxl_in hlt (by rw [z80_len];exact hlt)])) ?_;refine n_auto2 hst rfl (n_num 17 _ rfl (kw64.t1c hB.e hB.f hB.g) (n_N hst rfl hK rfl (s_reg λK hK=>l_auto2 rfl (l_num 18 _ rfl (kw64.t2 hB.a hB.b hB.c) (zJ (hK _ (s_lit (l_auto2 rfl (l_num 10 _ rfl kw64.sum1 (l_num 6 _ rfl kw64.sum (zJ (hK3 _ (zD rfl ?_)))))))))))));exact zX (t+1,rnd eK (cbs[t]!) (sx eK b t) q) ⟨hlt,by rw [hq];rfl⟩ (by show 80-(t+1)<80-t;omega) ⟨⟨congrArg (λx=>some (SV.v (.int .i64 x))) (addI t 1 (by omega)),rfl,rfl,rfl,rfl,rfl,rfl,rfl,rfl,rfl,rfl,rfl,trivial⟩,zL rfl rfl, .refl _,λ_ h _=>h,λ_ h=>h⟩
 .obtain rfl:t=80:=by omega
  refine s_exit (zS (zS (k_out (hK1 _ (s_reg λK hK=>l_cell rfl arr8 (aE rfl) (.int .u64 (o.a:Int)) rfl (l_auto2 rfl (l_num 105 _ rfl (kw64.add (b:=q.a)) (l_cell rfl arr8 (aE rfl) (.int .u64 (o.b:Int)) rfl (l_auto2 rfl (l_num 109 _ rfl (kw64.add (b:=q.b)) (l_cell rfl arr8 (aE rfl) (.int .u64 (o.c:Int)) rfl (l_auto2 rfl (l_num 113 _ rfl (kw64.add (b:=q.c)) (l_cell rfl arr8 (aE rfl) (.int .u64 (o.d:Int)) rfl (l_auto2 rfl (l_num 117 _ rfl (kw64.add (b:=q.d)) (l_cell rfl arr8 (aE rfl) (.int .u64 (o.e:Int)) rfl (l_auto2 rfl (l_num 121 _ rfl (kw64.add (b:=q.e)) (l_cell rfl arr8 (aE rfl) (.int .u64 (o.f:Int)) rfl (l_auto2 rfl (l_num 125 _ rfl (kw64.add (b:=q.f)) (l_cell rfl arr8 (aE rfl) (.int .u64 (o.g:Int)) rfl (l_auto2 rfl (l_num 129 _ rfl (kw64.add (b:=q.g)) (l_cell rfl arr8 (aE rfl) (.int .u64 (o.h:Int)) rfl (l_auto2 rfl (l_num 133 _ rfl (kw64.add (b:=q.h)) ?_))))))))))))))))))))))))))));refine l_f (.p [.agg 8 (Us (rP 64 o q).list).toArray]) (eW_ok rfl) (λG S w C0 Q' _ _ hQ=>f_build ([(o.a+q.a)%2^64,(o.b+q.b)%2^64,(o.c+q.c)%2^64,(o.d+q.d)%2^64,(o.e+q.e)%2^64,(o.f+q.f)%2^64,(o.g+q.g)%2^64,(o.h+q.h)%2^64].zipIdx.map λx=>(x.2,.int .u64 ((x.1:Nat):Int))) (Us (rP 64 o q).list).toArray rfl rfl rfl rfl rfl (by kernel_rfl) hQ) rfl ?_;refine l_N hK rfl (zP ?_);rw [hq];exact zG () rfl (λ_ _ _=>trivial) λ_ _=>trivial⟩
def size_w8(cs:zr)(h:cs.size=8):(prog.info? 284).map (·.size)=some cs.size:=by rw [h];kernel_rfl
end Go.Proofs.Q
namespace Go.Proofs.Q
open Go.RowKit Go.IntWalk
theorem bytes_get:∀(k v:Nat) {m:Nat},m<k->((Nums.bytes k v)[m]!).toNat=v/256^m%256
 | k+1,v,0,_=>by show(bP v).toNat=v/1%256;rw [gK,oT]
 | k+1,v,m+1,h=>by have ih:=bytes_get k (v/256) (m:=m) (by omega);show((Nums.bytes k (v/256))[m]!).toNat=v/256^(m+1)%256;rw [ih,gQ,cB,cX 256]
end Go.Proofs.Q
namespace Go.Proofs.Q
open Go.RowKit Go.IntWalk Nums
def rw4(y:Nat):zu:=(Nums.bytes 4 y).reverse
def rw4_len(y:Nat):(rw4 y).length=4:=by unfold rw4;rw [fJ,cZ]
def outq(h:zj)(i:Nat):zu:=((h.take i).map rw4).flatten
def outq_next{h:zj}{i:Nat}(hi:i<h.length):outq h (i+1)=outq h i++rw4 h[i]!:=by unfold outq;rw [dO,aJ hi,getElem!_pos h i hi,List.map_append,jT];simp only [Option.toList_some,bA,iK,eG,List.flatten_nil,bC]
theorem outq_len{h:zj}:∀{i:Nat},i<=h.length->(outq h i).length=4*i
 | 0,_=>by simp [outq]
 | i+1,hi=>by rw [outq_next (by omega),aA,rw4_len,outq_len (by omega)];omega
def outq_digest(m:zu):outq (xQ dK m).list 8=dJ dK m:=by unfold outq dJ;rw [bJ (aF 8)];rfl
end Go.Proofs.Q
namespace Go.Proofs.Q
open Go.RowKit Go.IntWalk
abbrev PartsF(P:zt)(pc:Nat)(ss:yr)(w:yp):Prop:=(0<ss.length->Rd 1 eSeg P pc ss w)/\∀s∈ss,s.rd w
instance pst_parts{P:zt}{pc:Nat}{ss:yr}:Pst (PartsF P pc ss):=⟨λw w' h hb=>⟨λh0=>Pst.later _ _ (h.1 h0) hb,λs hs=>Pst.later (p:=s.rd) w w' (h.2 s hs) hb⟩⟩
def segs_of{w:yp}{P:zt}{pc:Nat}{ls:zy}(hn:ls.length<=pc/\pc<=9223372036854775807)(hP:Parts w w.heap.size P ls):∃ss:yr,ss.map Seg.l=ls/\PartsF P pc ss w:=by
 by_cases h0:0<ls.length
 .obtain⟨ad,rfl,hb,h⟩:=hP h0
  have key:∀(ls:zy) (k:Nat),(∀(i:Nat) l,ls[i]?=some l->∃A' c,w.cell? (ad.add (k+i))=some (.slice A' l.length c)/\SL w 0 w.heap.size A' l c)->∃ss:yr,ss.map Seg.l=ls/\(∀i s,ss[i]?=some s->w.cell? (ad.add (k+i))=some (.slice s.A s.l.length s.c))/\∀s∈ss,s.rd w:=λls=>by
   induction ls with
   | nil=>exact λk _=>⟨[],rfl,λi s hs=>by simp at hs,λ_ h=>by cases h⟩
   | cons l ls ih =>
    intro k h
    obtain⟨ss,e,h1,h2⟩:=ih (k+1) λi l hl=>by rw [show k+1+i=k+(i+1) by omega];exact h (i+1) l hl
    obtain⟨A',c,h3,h4⟩:=h 0 l rfl;refine⟨⟨A',c,l⟩::ss,by rw [bA,e],λi s hs=>?_,λs hs=>?_⟩
    .cases i with
     | zero=>cases hs;exact h3
     | succ i=>rw [show k+(i+1)=k+1+i by omega];exact h1 i s hs
    .rcases aH.1 hs with rfl|hs
     .exact(Rd.of_sb ⟨A',c,rfl,h4⟩).2
     .exact h2 s hs
  obtain⟨ss,e,h1,h2⟩:=key ls 0 λi l hl=>by rw [aY];exact h i l hl
  refine⟨ss,e,λh0'=>⟨by rw [<-e,aX] at hn;exact hn.1,hn.2,λh=>(by cases h),okF_seg _,λ_=>?_⟩,h2⟩;obtain⟨b,o,sp⟩:=ad;have h0'':0<ss.length:=h0';have hsp:sp=none:=by
   have h8:=h1 0 ss[0] (aJ h0'');cases sp with
   | none=>rfl
   | some s =>
    unfold World.cell? Addr.add at h8
    simp only [if_true] at h8
    split at h8
    .simp at h8
    .cases h8
  subst hsp;refine⟨b,o,rfl,hb,λi x hi j v hj=>?_⟩;have h8:=h1 i x hi;rw [cQ,aY] at h8;cases j with
  | zero =>
   cases hj
   rw [fH];exact h8
  | succ j=>cases hj
 .obtain rfl:=bE (Nat.eq_zero_of_not_pos h0);exact⟨[],rfl,λh=>absurd h (gG 0),λ_ h=>by cases h⟩
def take_flatS{ss:yr}{i:Nat}{s:Seg}(h:ss[i]?=some s):((ss.take i).map Seg.l).flatten++s.l=((ss.take (i+1)).map Seg.l).flatten:=by rw [dO,h];simp
end Go.Proofs.Q
namespace Go.Proofs.Q
open Go.RowKit Go.IntWalk Nums
def digest256_len(m:zu):(dJ dK m).length=32:=by rw [<-outq_digest,outq_len (aF 8)]
end Go.Proofs.Q
namespace Nums
def xsl(s:Sha)(b:zu):Nat->zj
  | 0=>[]
  | t+1=>sx s b t::xsl s b t
theorem oD(s:Sha)(b:zu):∀t,(xsl s b t).length=t
 | 0=>rfl
 | t+1=>by rw [xsl,a6,oD]
theorem oV(s:Sha)(b:zu):∀t j,j<t->(xsl s b t)[j]! = sx s b (t-1-j)
 | 0,_,h=>absurd h (by omega)
 | t+1,0,_=>by show(sx s b t::xsl s b t)[0]! = _;rw [Nat.add_sub_cancel,Nat.sub_zero];rfl
 | t+1,j+1,h=>by
  show(sx s b t::xsl s b t)[j+1]! = _;have e:(sx s b t::xsl s b t)[j+1]! = (xsl s b t)[j]!:=by simp
  rw [e,oV s b t j (by omega)];congr 1;omega
def rM(s:Sha)(b:zu):Nat->zj
  | 0=>[]
  | t+1=>forced (wL s b t) λv=>v::rM s b t
theorem rB(s:Sha)(b:zu):∀t,t<=16->rM s b t=xsl s b t
 | 0,_=>rfl
 | t+1,h=>by
  have e:sx s b t=wL s b t:=by rw [sx,dif_pos (by omega)]
  rw [rM,gZ,xsl,rB s b t (by omega),e]
def grow(s:Sha):Nat->zj->zj
  | 0,L=>L
  | k+1,L=>forced ((p9 s.w s.low1 L[1]! + L[6]! + p9 s.w s.low0 L[14]! + L[15]!)%2^s.w) λv=>grow s k (v::L)
theorem tW(s:Sha)(b:zu):∀k t,16<=t->grow s k (xsl s b t)=xsl s b (t+k)
 | 0,_,_=>rfl
 | k+1,t,h=>by
  have e:(p9 s.w s.low1 (xsl s b t)[1]! + (xsl s b t)[6]! + p9 s.w s.low0 (xsl s b t)[14]! + (xsl s b t)[15]!)%2^s.w=sx s b t:=by
   rw [oV s b t 1 (by omega),oV s b t 6 (by omega),oV s b t 14 (by omega),oV s b t 15 (by omega)]
   conv=>rhs;rw [sx,dif_neg (by omega)]
   rw [show t-1-1=t-2 from by omega,show t-1-6=t-7 from by omega,show t-1-14=t-15 from by omega,show t-1-15=t-16 from by omega]
  rw [grow,gZ,e];have h2:=tW s b k (t+1) (by omega);rw [xsl] at h2;rw [h2];congr 1;omega
def wT(s:Sha):zj->Nat->Oct->Oct
  | [],_,o=>o
  | x::r,t,o=>forced (t1w s (s.k t) x o) λT=>forced ((T+t2w s o)%2^s.w) λA=>forced ((o.d+T)%2^s.w) λE=>wT s r (t+1) ⟨A,o.a,o.b,o.c,E,o.e,o.f,o.g⟩
theorem tP(s:Sha)(b:zu)(o:Oct):∀(l:zj) (t:Nat),(∀j x,l[j]?=some x->x=sx s b (t+j))->wT s l t (o6 s b o t)=o6 s b o (t+l.length)
 | [],_,_=>rfl
 | x::r,t,h=>by have hx:=h 0 x rfl;rw [cD] at hx;subst hx;rw [wT];simp only [gZ];have h2:=tP s b o r (t+1) (λj x hj=>by rw [h (j+1) x (by simpa using hj)];congr 1;omega);rw [show o6 s b o (t+1)=rnd s (s.k t) (sx s b t) (o6 s b o t) from rfl] at h2;rw [show t+(sx s b t::r).length=t+1+r.length from by rw [a6];omega,<-h2];rfl
def wN(w:Nat)(o q:Oct):Oct :=
  forced ((o.a+q.a)%2^w) λa=>forced ((o.b+q.b)%2^w) λb=>forced ((o.c+q.c)%2^w) λc=>forced ((o.d+q.d)%2^w) λd =>
  forced ((o.e+q.e)%2^w) λe=>forced ((o.f+q.f)%2^w) λf=>forced ((o.g+q.g)%2^w) λg=>forced ((o.h+q.h)%2^w) λh=>⟨a,b,c,d,e,f,g,h⟩
def wM(w:Nat)(o q:Oct):wN w o q=rP w o q:=by unfold wN;simp only [gZ];rfl
def vB(s:Sha)(o:Oct)(b:zu):Oct:=wN s.w o (wT s (grow s (s.n-16) (rM s b 16)).reverse 0 o)
def vA{s:Sha}(hn:16<=s.n)(o:Oct)(b:zu):vB s o b=gR s o b:=by rw [vB,wM,gR,rB s b 16 (aF _),tW s b _ 16 (aF _),show 16+(s.n-16)=s.n from by omega];congr 1;have h:=tP s b o (xsl s b s.n).reverse 0 (λj x hj=>by have hl:j<(xsl s b s.n).reverse.length:=(aP.1 hj).1;rw [fJ,oD] at hl;rw [List.getElem?_reverse (by rw [oD];exact hl),oD] at hj;have h1:=oV s b s.n (s.n-1-j) (by omega);rw [List.getElem!_eq_getElem?_getD,hj] at h1;rw [show 0+j=s.n-1-(s.n-1-j) from by omega,<-h1];rfl);rw [fJ,oD,aY] at h;exact h
def vG(s:Sha)(B:Nat):Nat->Oct->zu->Oct
  | 0,o,_=>o
  | k+1,o,l=>vG s B k (vB s o (l.take B)) (l.drop B)
theorem tN{s:Sha}{B:Nat}(hB:0<B)(hn:16<=s.n):∀k o l,l.length=k*B->vG s B k o l=gJ s B o l
 | 0,o,l,h=>by have h0:l=[]:=bE (by omega);subst h0;rw [vG,jM (by simpa using hB)]
 | k+1,o,l,h=>by
  have hl:(l.take B).length=B:=by rw [aV,h,kT];omega
  have hd:(l.drop B).length=k*B:=by rw [cU,h,kT];omega
  rw [vG,vA hn,tN hB hn k _ _ hd]
  conv=>rhs;rw [<-b6 B l,iO hB hl]
def lG(s:Sha)(n:Nat)(m:zu):zu :=
  ((vG s (2*s.w) n ⟨s.start[0]!,s.start[1]!,s.start[2]!,s.start[3]!,s.start[4]!,s.start[5]!,s.start[6]!,s.start[7]!⟩ (m++fQ (2*s.w) (m.length%(2*s.w)) (8*m.length))).list.map (jZ s)).flatten
def nH{s:Sha}(n:Nat)(m:zu)(hw:0<2*s.w)(hn:16<=s.n)(h:(m++fQ (2*s.w) (m.length%(2*s.w)) (8*m.length)).length=n*(2*s.w)):dJ s m=lG s n m:=by rw [dJ,xQ,lG,tN hw hn n _ _ h]
end Nums
namespace Go.Proofs.Q
open Go.RowKit
def row(k v:Nat):zr:=(By (aB (8-k) 0++(be8 v).drop (8-k))).toArray
def row_zero(v:Nat):row 0 v = #[cG fY 0,cG fY 0,cG fY 0,cG fY 0,cG fY 0,cG fY 0,cG fY 0,cG fY 0]:=rfl
def wrow_at(k v:Nat)(h:k<8):∃u,(row k v)[7-k]?=some (cG fY u):=by
 have:k=0\/k=1\/k=2\/k=3\/k=4\/k=5\/k=6\/k=7:=by omega
 rcases this with rfl|rfl|rfl|rfl|rfl|rfl|rfl|rfl<;>exact⟨_,rfl⟩
def byte_of(q:Nat):cG fY ((q:Int)%256)=cG fY ((bP q).toNat:Int):=by simp
def row_next(k v:Nat)(h:k<8):(row k v).setIfInBounds (7-k) (cG fY (((v/256^k:Nat):Int)%256))=row (k+1) v:=by
 have:k=0\/k=1\/k=2\/k=3\/k=4\/k=5\/k=6\/k=7:=by omega
 rw [byte_of];rcases this with rfl|rfl|rfl|rfl|rfl|rfl|rfl|rfl<;>simp [row,By,be8,aB]
def pow_next(k v:Nat):v/256^k/256=v/256^(k+1):=by rw [gQ,cB]
def size57(cs:zr)(h:cs.size=8):(prog.info? 196).map (·.size)=some cs.size:=by rw [h];kernel_rfl
def row_one(v:Nat):∀u∈(row 8 v).toList,u.oneCell'=true:=By_one _
def lay_any(v:Nat)(w:yp)(hv:v<18446744073709551616) :
  Calls prog 107 #[.int .u64 v] w λe w'=>e = .returned (.agg (By (be8 v)).toArray)/\Below w.heap.size w w':=by
 go_enter func107,ntmps107
 go_wp2
 go_loopw [0,4,5] (λq _ i wr=>∃k:Nat,k<=8/\i = .int .i64 k/\q = .int .u64 ((v/256^k:Nat):Int)/\Blk wr (w.heap.size+1) 196 (row k v)/\Blk wr w.heap.size 196 (row 0 v)/\Below w.heap.size w wr) (λ_ _ i _=>8-(intOf i).toNat)
 case atStart =>
  refine⟨0,by omega,rfl,by simp,?_,?_,?_⟩
  .rw [row_zero];exact heap_alloc2_new w _ _
  .rw [row_zero];exact heap_alloc2_old w _ _
  .exact((Below.refl _ _).alloc (aF _) _).alloc (by simp) _
 case round =>
  obtain⟨k,hk,rfl,rfl,hb1,hb0,hbel⟩:=hrel
  by_cases hlt:k<8
  .obtain⟨u,hu⟩:=wrow_at k v hlt
   have hc:=(hb1.cell (7-k)).trans hu;have hf:=hb1.free (7-k);have hq:v/256^k<18446744073709551616:=dC (gM _ _) hv;clear hu;go_wp2;go_roundw
   case rel =>
    refine⟨k+1,by omega,by go_num,?_,?_,?_,?_⟩
    .rw [<-pow_next];simp
    .rw [<-row_next k v hlt];simpa using hb1.set (7-k) _
    .exact hb0.far (by simp) _
    .exact hbel.setCell (by simp) _
   case measure=>simp [intOf];omega
  .obtain rfl:k=8:=by omega
   go_wp2_with (first
    | (refine wpList_load_row rfl 196 _ rfl (w.heap.size+1) rfl 196 (row 8 v) (0,0) _ hb1 underlying196 rfl (size57 _ rfl) ?_)
    | (refine wpList_store_row rfl 196 _ _ rfl w.heap.size rfl (row 8 v) rfl 196 (row 0 v) hb0 (size57 _ rfl) rfl (row_one v) ?_))
   refine bodyPost_ret (results_cell_row rfl _ _ w.heap.size 196 (row 8 v) (0,0) _ rfl (hb0.row _) underlying196 rfl (size57 _ rfl)) rfl ⟨rfl,?_⟩;exact below_setRow hbel (aF _) _
def wtot(ls:zy):Nat:=ls.flatten.length
def wtot_take(ls:zy)(k:Nat)(h:k<ls.length):(ls.take (k+1)).flatten=(ls.take k).flatten++ls[k]:=by rw [gA h,jT,eG,List.flatten_nil,bC]
def wtot_succ(ls:zy)(k:Nat)(h:k<ls.length):wtot (ls.take (k+1))=wtot (ls.take k)+ls[k].length:=by unfold wtot;rw [wtot_take ls k h,aA]
def wtot_le(ls:zy)(k:Nat)(h:k<ls.length):wtot (ls.take k)+ls[k].length<=wtot ls:=by
 rw [<-wtot_succ ls k h];unfold wtot
 conv=>rhs;rw [<-b6 (k+1) ls,jT,aA]
 omega
def info5:(prog.info? 5).map (λi=>(i.zero,i.size,i.bytes))=some (some (.int .u8 0),1,1):=by kernel_rfl
def join_any(PA:zt)(ls:zy)(pc hi:Nat)(w:yp)(h:Parts w hi PA ls)(hhi:hi<=w.heap.size)(hpc:ls.length<=pc)(hm:pc<=9223372036854775807)(ht:wtot ls<=281474976710656) :
  Calls prog 68 #[.slice PA ls.length pc] w λe w'=>e = .returned (.slice (some ⟨w.heap.size,0,none⟩) (wtot ls) (wtot ls)) /\
   w'.ownsRow w.heap.size 5 1 (.slice (some ⟨w.heap.size,0,none⟩) (wtot ls) (wtot ls)) (wtot ls) (By ls.flatten)/\Below w.heap.size w w':=by
 obtain⟨i0,hi0,hz0,hz1,hz2⟩:=info_parts info5
 go_enter func68,ntmps68
 go_wp2
 go_loop [3,5,11] (λs _ i=>∃k:Nat,k<=ls.length/\i = .int .i64 k/\s = .int .i64 (wtot (ls.take k))) (λ_ _ i=>ls.length-(intOf i).toNat)
 case atStart=>exact⟨0,aL _,rfl,rfl⟩
 case round =>
  obtain⟨k,hk,rfl,rfl⟩:=hrel
  by_cases hlt:k<ls.length
  .obtain⟨ad,rfl,_,hcell⟩:=h (by omega)
   obtain⟨A',c',hx,hsl⟩:=hcell k ls[k] (aJ hlt);have hle:=wtot_le ls k hlt;have hl1:=hsl.1;have hl2:=hsl.2.1;clear hcell hsl;go_wp2;go_round
   case rel=>exact⟨k+1,by omega,by go_num,by rw [wtot_succ ls k hlt];go_num⟩
   case measure=>simp [intOf];omega
  .obtain rfl:k=ls.length:=by omega
   have H:=dW ht;rw [dA];go_wp2_with (at_make;refine wpList_make_own _ rfl _ _ 39 rfl w.heap.size 5 i0 _ 1 underlying39 hi0 hz0 hz1 .i64 .i64 _ (wtot ls) rfl rfl rfl (by rw [hz2];have:=H.out;omega) (by have:=H.out;unfold maxLen;omega) (aF _) ?_;intro w1 hown1 hg1);have hb1:Below w.heap.size w w1:=(Below.refl _ _).grown hg1 (aF _) (by simp);clear hg1;go_loopw [6,8,24] (λv _ i wr=>∃k:Nat,k<=ls.length/\i = .int .i64 k/\v = .slice (some ⟨w.heap.size,0,none⟩) (wtot (ls.take k)) (wtot ls) /\
    wr.ownsRow w.heap.size 5 1 (.slice (some ⟨w.heap.size,0,none⟩) (wtot (ls.take k)) (wtot ls)) (wtot (ls.take k)) (By (ls.take k).flatten)/\Below w.heap.size w wr) (λ_ _ i _=>ls.length-(intOf i).toNat)
   case atStart=>exact⟨0,aL _,rfl,rfl,hown1,hb1⟩
   case round =>
    obtain⟨k,hk,rfl,rfl,hown,hb⟩:=hrel
    by_cases hlt:k<ls.length
    .obtain⟨ad,rfl,_,hcell⟩:=h.below hb hhi (by omega)
     obtain⟨A',c',hx,hsl⟩:=hcell k ls[k] (aJ hlt);have hle:=wtot_le ls k hlt;have hn:=hsl.none_;have hcs:=hsl.cells;have HN:=dW hn;have HC:=dW hcs;have HL:=dW hown;clear hcell hsl hn hcs hown;go_wp2_with (at_builtin;refine wpList_append_fits_any _ rfl (.tmp 28) (.tmp 29) 39 rfl w.heap.size 5 i0 1 underlying39 hi0 hz1 w.heap.size (wtot (ls.take k)) (wtot ls) _ rfl HL.out A' ls[k].length c' (By ls[k]) rfl (by rw [By_len,uV]) HN.out HC.out (By_one _) hle ?_;intro w2 hown2 hg2);go_roundw
     case rel =>
      rw [<-By_app,<-wtot_take ls k hlt,<-wtot_succ ls k hlt] at hown2;exact⟨k+1,by omega,by go_num,by rw [wtot_succ ls k hlt],hown2,hb.grown hg2 hb.size (by intro x hx;injection hx with hx;omega)⟩
     case measure=>simp [intOf];omega
    .obtain rfl:k=ls.length:=by omega
     rw [dA] at hown ⊢;go_wp2;go_ret;exact⟨rfl,hown,hb⟩
def own_base{w:yp}{base base' size n:Nat}{e:yn}{v:Value}{xs:zq}(h:w.ownsRow base e size v n xs)(hb:base'<=base):w.ownsRow base' e size v n xs:=by
 obtain⟨h1,h2⟩:=h;refine⟨h1,?_⟩;rcases h2 with h2|⟨g,cap,cur,hv,hg,r⟩
 .exact .inl h2
 .exact .inr ⟨g,cap,cur,hv,by omega,r⟩
def Made(w:yp)(l:zu)(e:Ending)(w':yp):Prop :=
  ∃g,e = .returned (.slice (some ⟨g,0,none⟩) l.length l.length)/\w'.ownsRow w.heap.size 5 1 (.slice (some ⟨g,0,none⟩) l.length l.length) l.length (By l)/\Below w.heap.size w w'
def SL.blk{w:yp}{g t lo hi:Nat}{l:zu}(h:Blk w g t (By l).toArray)(h1:lo<=g)(h2:g<hi)(hm:l.length<=9223372036854775807):SL w lo hi (some ⟨g,0,none⟩) l l.length :=
 ⟨aF _,hm,λh=>(by cases h),λ_=>⟨_,rfl,h1,h2,λj x hx=>by
  have hadd:(⟨g,0,none⟩:Addr).add j=⟨g,j,none⟩:=by unfold Addr.add;split<;>simp_all
  rw [hadd,h.cell];simp [By,hx]⟩⟩
def parts_new7{w:yp}{hi:Nat}{ls:zy}{vs:zq}(hhi:hi<=w.heap.size)
 (h:∀(i:Nat) l,ls[i]?=some l->∃A c,vs[i]?=some (.slice A l.length c)/\SL w 0 hi A l c) :
  Parts (w.alloc (.cells vs.toArray 39)) (w.heap.size+1) (some ⟨w.heap.size,0,none⟩) ls:=λ_=>by
 refine⟨_,rfl,by simp,λi l hi'=>?_⟩;obtain⟨A,c,h1,h2⟩:=h i l hi';refine⟨A,c,?_,(h2.alloc _ hhi).more (aF _) (by omega)⟩
 have hadd:(⟨w.heap.size,0,none⟩:Addr).add i=⟨w.heap.size,i,none⟩:=by unfold Addr.add;split<;>simp_all
 rw [hadd,(Blk.new w 39 vs.toArray).cell]
 simpa using h1
def join_made(w wz:yp)(PA:zt)(n hi:Nat)(ls:zy)(hn:ls.length=n)(h:Parts wz hi PA ls)(hhi:hi<=wz.heap.size)(hm:n<=9223372036854775807)(ht:wtot ls<=281474976710656)(hb:Below w.heap.size w wz) :
  Calls prog 68 #[.slice PA n n] wz (Made w ls.flatten):=by
 subst hn;refine(join_any PA ls ls.length hi wz h hhi (aF _) hm ht).mono λe w' ⟨he,ho,hb'⟩=>?_;exact⟨wz.heap.size,he,own_base ho hb.size,hb.trans (hb'.mono hb.size)⟩
def bytes_any(A X:zt)(l x:zu)(c d hi:Nat)(w:yp)(h:SL w 0 hi A l c)(hx:SL w 0 hi X x d)(hhi:hi<=w.heap.size)(hl:l.length+8+x.length<=281474976710656) :
  Calls prog 64 #[.slice A l.length c,.slice X x.length d] w (Made w (l++be8 x.length++x)):=by
 have hxl:x.length<18446744073709551616:=by omega
 go_enter func64,ntmps64
 go_wp2_with (fail)
 refine(lay_any x.length w hxl).mono ?_
 rintro e w1 ⟨rfl,hb1⟩
 have h1:Blk (w1.alloc (jQ (row 0 0) 196)) w1.heap.size 196 (row 0 0):=Blk.new w1 196 (row 0 0);have hbz:=below_setRow (hb1.alloc hb1.size (jQ (row 0 0) 196)) hb1.size (By (be8 x.length)).toArray;have hs1:SL ((w1.alloc (jQ (row 0 0) 196)).setRow w1.heap.size (By (be8 x.length)).toArray) 0 (w1.heap.size+1) (some ⟨w1.heap.size,0,none⟩) (be8 x.length) 8:=SL.blk (h1.row _) (aL _) (by omega) (by rw [be8_len];omega);have hs2:=(h.below hbz hhi).more (aF 0) (show hi<=w1.heap.size+1 by have:=hb1.size;omega);have hs3:=(hx.below hbz hhi).more (aF 0) (show hi<=w1.heap.size+1 by have:=hb1.size;omega)
 have hp:=parts_new7 (w:=(w1.alloc (jQ (row 0 0) 196)).setRow w1.heap.size (By (be8 x.length)).toArray) (hi:=w1.heap.size+1) (ls:=[l,be8 x.length,x]) (vs:=[.slice A l.length c,.slice (some ⟨w1.heap.size,0,none⟩) 8 8,.slice X x.length d]) (by simp) (by
  intro i y hy
  match i,hy with
  | 0,hy=>injection hy with hy;subst hy;exact⟨_,_,rfl,hs2⟩
  | 1,hy=>injection hy with hy;subst hy;exact⟨_,_,rfl,hs1⟩
  | 2,hy=>injection hy with hy;subst hy;exact⟨_,_,rfl,hs3⟩)
 have hbq:=hbz.alloc hbz.size (jQ #[.slice A l.length c,.slice (some ⟨w1.heap.size,0,none⟩) 8 8,.slice X x.length d] 39);simp only [dM,size_setRow] at hp;rw [row_zero] at h1 hp hbq;have hJ:=join_made w _ _ 3 _ [l,be8 x.length,x] rfl hp (by simp) (by omega) (by unfold wtot;simp [be8_len];omega) hbq;have HJ:=dW hJ;clear hJ hp hbq hs1 hs2 hs3 hbz
 go_wp2_with (refine wpList_store_row rfl 196 _ _ rfl w1.heap.size rfl (By (be8 x.length)).toArray rfl 196 _ h1 (size57 _ rfl) rfl (By_one _) ?_)
 refine HJ.out.mono ?_
 rintro e w2 ⟨g,rfl,ho,hb2⟩
 go_wp2
 go_ret
 exact⟨g,by simp [be8_len],by simpa [be8_len,aT] using ho,hb2⟩
end Go.Proofs.Q
namespace Go.Proofs.Q
open Go.RowKit Go.IntWalk
def msg(t:UInt8)(b:zu):zu:=[119,105,116,97,110,t]++be8 b.length++b
def msg_app(t:UInt8)(b:zu):[119,105,116,97,110]++[t]++be8 b.length++b=msg t b:=by simp [msg]
def run_sliceB(vs:zq)(n:Nat)(parts:Array (Nat×Value))(hp:parts.toList=(vs.zipIdx 0).map λx=>(x.2,x.1))(hn:vs.length=n)(h0:0<n)(h24:n<=16777216)(h1:∀v∈vs,v.cells = #[v])(w:yp) :
  (Instr.buildSlice 39 n parts).run prog w = .ok (.slice (some ⟨w.heap.size,0,none⟩) n n) (w.alloc (.cells vs.toArray 5)):=by
 obtain⟨ie,h2,h3,h4,_⟩:=info_parts info_byte;refine run_buildSlice w 39 5 n parts vs.toArray ie _ underlying39 h2 h3 (by rw [h4];omega) (by rw [h4];omega) ?_;rw [hp,h4];exact Great.fill_flat _ _ h1 (by simp [hn])
section
variable{ops:zp}{Q:zx}{N:Nat}{E:List (Nat×Value)}{w:yp}{o o2:Oper}{rest:zo}{k k2:Nat}
def l_sliceB{n:Nat}{parts:Array (Nat×yo)}(l:zu)(hw:WG ops N E o)(hd:o.dst=some k)(hk:aU k N=true)(ho:o.op = .buildSlice 39 n parts)
 (hv:parts.toList.map (λp=>(p.1,ev E p.2))=((By l).zipIdx 0).map λx=>(x.2,some x.1))(hn:l.length=n)(h0:0<n)(h24:n<=16777216)
 (hk2:lF prog ops Q rest N ((k,.slice (some ⟨w.heap.size,0,none⟩) n n)::E) (w.alloc (.cells (By l).toArray 5))):lF prog ops Q (o::rest) N E w:=by
 refine l_valW (.slice (some ⟨w.heap.size,0,none⟩) n n) (w.alloc (.cells (By l).toArray 5)) hw hd hk (λa ha=>?_) hk2
 have hm:∀(l:List (Nat×yo)) (m:List (Value×Nat)),l.map (λp=>(p.1,ev E p.2))=m.map (λx=>(x.2,some x.1))->l.map (λ(i,x)=>(i,a.eval x))=m.map λx=>(x.2,x.1):=by
  intro l;induction l with
  | nil=>intro m h;cases m with
   | nil=>rfl
   | cons=>cases h
  | cons p l ih=>intro m h;cases m with
   | nil=>cases h
   | cons u m =>
    simp only [bA,List.cons.injEq,cK] at h ⊢;exact⟨⟨h.1.1,ha.eval h.1.2⟩,ih m h.2⟩
 have hr:=run_sliceB (By l) n (parts.map λ(i,x)=>(i,a.eval x)) (by rw [Array.toList_map];exact hm _ _ hv) (by rw [By_len];exact hn) h0 h24 (λv hv=>by obtain⟨x,_,rfl⟩:=aZ.1 hv;rfl) w
 unfold execOp
 simp only [ho,aG,hr,aC,aI]
def l_litB{n:Nat}{parts:Array (Nat×yo)}(l:zu)(hw:WG ops N E o)(hd:o.dst=some k)(hk:aU k N=true)(ho:o.op = .buildSlice 39 n parts)
 (hv:parts.toList.map (λp=>(p.1,ev E p.2))=((By l).zipIdx 0).map λx=>(x.2,some x.1))(hn:l.length=n)(h0:0<n)(h24:n<=16777216)
 (hw2:∀v,WG ops N ((k,v)::E) o2)(hd2:o2.dst=some k2)(hk2:aU k2 N=true)(ho2:o2.op = .convert 39 39 (.tmp k))
 (hn2:∀W g,Up w W->SB W (.slice (some ⟨g,0,none⟩) n n) l->lF prog ops Q rest N ((k2,.slice (some ⟨g,0,none⟩) n n)::(k,.slice (some ⟨g,0,none⟩) n n)::E) W):lF prog ops Q (o::o2::rest) N E w:=by
 refine l_sliceB l hw hd hk ho hv hn h0 h24 ?_
 have hsz:(By l).toArray.size=n:=by rw [aW,By_len,hn]
 refine l_valW (.slice (some ⟨w.heap.size,0,none⟩) n n) (w.alloc (.cells (By l).toArray 5 (n,n+1))) (hw2 _) hd2 hk2 (λa ha=>?_) (hn2 _ w.heap.size ((Up.refl w).alloc _) ?_)
 .have h1:a.eval (.tmp k) = .slice (some ⟨w.heap.size,0,none⟩) n n:=ha.get k _ (by rw [look_cons,if_pos rfl]);have hr:=Lib.run_convert_bytes_const (P:=prog) w 39 5 (By l).toArray n n underlying39 underlying5;rw [hsz] at hr;unfold execOp;simp only [ho2,h1,aG,hr,aC,aI]
 .have hc:(w.alloc (.cells (By l).toArray 5 (n,n+1))).heap[w.heap.size]?=some (.cells (By l).toArray 5 (n,n+1)):=heap_alloc_new w _;have hs2:(w.alloc (.cells (By l).toArray 5 (n,n+1))).heap.size=w.heap.size+1:=dM _ _;refine⟨some ⟨w.heap.size,0,none⟩,n,by rw [hn],by omega,by omega,λh=>(by cases h),λ_=>⟨_,rfl,aL _,by rw [hs2];exact jS _,λj u hu=>?_⟩⟩;rw [cQ,cell_of_row _ _ _ _ _ _ hc,aY];simp [By,hu]
def l_appG{s x:yo}{c d:Nat}{A X:zt}{xs l:zu}(hg:o.guard=none)(hd:o.dst=some k)(hk:aU k N=true)(ho:o.op = .call { callee:=.builtin .append,args:=#[s,x],argTypes:=#[39,39] })
 (hs:ev E s=some (.slice A xs.length c))(hx:ev E x=some (.slice X l.length d))(hS:SL w 0 w.heap.size A xs c)(hX:SL w 0 w.heap.size X l d)(h0:0<xs.length)(hl:0<l.length)(hc:c<xs.length+l.length)(hb:xs.length+l.length<=140737488355328)
 (hn:∀W v,Up w W->SB W v (xs++l)->lF prog ops Q rest N ((k,v)::E) W):lF prog ops Q (o::rest) N E w:=by
 obtain⟨i,hi0,hz0,hs0,hby⟩:=info_parts info_byte;obtain⟨ad,rfl,_,_,_⟩:=hS.2.2.2 h0;obtain⟨bd,rfl,_,_,_⟩:=hX.2.2.2 hl;obtain⟨v',w',hr,ho',hgr⟩:=run_append_arg_grows (P:=prog) w 39 o.type 5 i _ 1 1 underlying39 hi0 hz0 hs0 hby rfl (by omega) ad xs.length c (By xs) (by rw [By_len,uV]) (hS.cells ad rfl) bd l.length d (By l) (by rw [By_len,uV]) (hX.cells bd rfl) hc (by unfold maxLen;omega) (by omega);rw [<-By_app,<-aA] at ho';have hU:Up w w':=(Below.refl _ _).grown hgr (aF _) (by simp);refine l_val v' hg hd hk (λa ha=>?_) (hn w' v' hU ?_)
 .have h2:=ha.eval hs;have h3:=ha.eval hx;unfold execOp;simp only [ho,resolve,invoke,builtin,aG,aI,aC,List.map_toArray,bA,iK,h2,h3,hr]
 .obtain⟨A',c',rfl⟩:∃A' c',v' = .slice A' (xs++l).length c':=by
   rcases ho'.2 with⟨h0,hn⟩|⟨g,cap,cur,hv,_⟩
   .exact⟨none,0,by rw [h0,hn]⟩
   .exact⟨_,_,hv⟩
  exact(show GS w' w.heap.size 5 A' c' (By (xs++l)) from by unfold GS;rw [By_len];exact ho').sb
end
def SB.sl{w:yp}{v:Value}{l:zu}(h:SB w v l):∃A c,v = .slice A l.length c/\SL w 0 w.heap.size A l c:=h
def signed_M(t:UInt8){v:Value}{b:zu}(w:yp)(hv:SB w v b)(hb:b.length<=140737488355312):Calls prog 100 #[.int .u8 (t.toNat:Int),v] w (Made w (msg t b)):=by
 refine calls_F (vs:=[.int .u8 (t.toNat:Int),v]) 12 func100 rfl (by rw [ntmps100];rfl) ?_;refine c_seq λK hK=>c_qF (f_assign (.slice none 0 0) rfl rfl rfl rfl rfl (f_end λw1 hw1=>hK _ _ ?_));clear hK K;replace hv:=hv.later hw1;have hU:Up w w1:=hw1;clear hw1;refine c_seq λK hK=>c_lit ?_;refine l_litB [119,105,116,97,110] (.inl rfl) rfl rfl rfl rfl rfl (by decide) (by decide) (λ_=>.inl rfl) rfl rfl rfl λw2 g2 hw2 h2=>?_;replace hv:=hv.later hw2;replace hU:=hU.step hw2;clear hw2;refine l_move (.int .u8 (t.toNat:Int)) rfl rfl rfl rfl rfl ?_;refine l_sliceB [t] (.inl rfl) rfl rfl rfl rfl rfl (by decide) (by decide) ?_;have hal:=(Up.refl w2).alloc (.cells (By [t]).toArray 5);have h3:SB (w2.alloc (.cells (By [t]).toArray 5)) (.slice (some ⟨w2.heap.size,0,none⟩) 1 1) [t]:=SB.all (Blk.new w2 5 _) rfl (by decide);replace h2:=h2.later hal;replace hv:=hv.later hal;replace hU:=hU.step hal;clear hal;generalize w2.alloc (.cells (By [t]).toArray 5)=w3 at *;generalize w2.heap.size=g3 at *;obtain⟨A2,c2,e2,s2⟩:=h2.sl;obtain⟨A3,c3,e3,s3⟩:=h3.sl;injection e2 with x1 x2 x3;injection e3 with y1 y2 y3;subst x1 x3 y1 y3;refine l_appG (xs:=[119,105,116,97,110]) (l:=[t]) rfl rfl rfl rfl rfl rfl s2 s3 (by decide) (Nat.zero_lt_one) (show 5<5+1 by omega) (show 5+1<=140737488355328 by omega) λw4 v4 hw4 h4=>?_;replace hv:=hv.later hw4;replace hU:=hU.step hw4;refine l_move v rfl rfl rfl rfl rfl ?_;obtain⟨L,hL⟩:∃L,L=[119,105,116,97,110]++[t]:=⟨_,rfl⟩;have hm:L++be8 b.length++b=msg t b:=by rw [hL,msg_app]
 have hlen:L.length=6:=by rw [hL];rfl
 rw [<-hL] at h4;clear hL;obtain⟨A4,c4,rfl,s4⟩:=h4.sl;obtain⟨A5,c5,rfl,s5⟩:=hv.sl;refine l_call #[.slice A4 L.length c4,.slice A5 b.length c5] rfl rfl rfl (λ_ _=>by go_simp) (bytes_any A4 A5 L b c4 c5 w4.heap.size w4 s4 s5 (aF _) (by omega)) rfl rfl ?_;rintro e w5 ⟨g,rfl,ho,hb5⟩;rw [hm] at ho ⊢;have h6:w5.ownsRow w.heap.size 5 1 (.slice (some ⟨g,0,none⟩) (msg t b).length (msg t b).length) (msg t b).length (By (msg t b)):=⟨ho.1,ho.2.elim Or.inl λ⟨g,cap,cur,hv,hg,r⟩=>Or.inr ⟨g,cap,cur,hv,bM hU.size hg,r⟩⟩;refine⟨_,rfl,?_⟩;refine l_assign (.slice (some ⟨g,0,none⟩) (msg t b).length (msg t b).length) rfl rfl rfl rfl rfl (l_nil (hK _ _ ?_));clear hK K;refine c_ret λa ha=>?_;exact bodyPost_ret (results_tmp rfl _ _ _) ha.defers ⟨g,congrArg Ending.returned (ha.get 4 _ rfl),h6,hU.step hb5⟩
def mul64_any(x y:Nat)(hx:x<18446744073709551616)(hy:y<18446744073709551616)(w:yp) :
  Calls prog 214 #[.int .u64 x,.int .u64 y] w λe w'=>e = .returned (.tuple #[.int .u64 ((x*y/18446744073709551616:Nat):Int),.int .u64 ((x*y%18446744073709551616:Nat):Int)])/\w'=w:=by
 obtain⟨bd,bt,bw,hhi⟩:=Lib.mul64_hi x y hx hy;have ba:=rX (a:=x/4294967296) (b:=y/4294967296) (by omega) (by omega);have bb:=rX (a:=x/4294967296) (b:=y%4294967296) (by omega) (by omega);have bc:=rX (a:=x%4294967296) (b:=y/4294967296) (by omega) (by omega)
 have ba':x/4294967296*(y/4294967296)<18446744073709551616:=by omega
 have bb':x/4294967296*(y%4294967296)<18446744073709551616:=by omega
 have bc':x%4294967296*(y/4294967296)<18446744073709551616:=by omega
 have bh1:x/4294967296*(y/4294967296)+(x/4294967296*(y%4294967296)+x%4294967296*(y%4294967296)/4294967296)/4294967296<18446744073709551616:=by omega
 have bh:x/4294967296*(y/4294967296)+(x/4294967296*(y%4294967296)+x%4294967296*(y%4294967296)/4294967296)/4294967296+((x/4294967296*(y%4294967296)+x%4294967296*(y%4294967296)/4294967296)%4294967296+x%4294967296*(y/4294967296))/4294967296<18446744073709551616:=by omega
 go_enter func214,ntmps214
 go_wp2
 simp only [mask32 x hx,mask32 y hy,div32,mulN,addN,wrapN _ bd,wrapN _ bb',wrapN _ bt,mask32 _ bt,wrapN _ bc',wrapN _ bw,wrapN _ ba',wrapN _ bh1,wrapN _ bh,wrapM (x*y)];rw [hhi]
 go_ret2
 exact⟨rfl,rfl⟩
def add64_run(x y c:Nat)(hc:c<=1)(w:yp):(callFunc 213 #[.int .u64 x,.int .u64 y,.int .u64 c]).run prog w =
  .ok (.value (.tuple #[.int .u64 (((x+y+c)%18446744073709551616:Nat):Int),.int .u64 (((x+y+c)/18446744073709551616:Nat):Int)])) w:=by
 rw [run_callFunc_extern func213 (by kernel_rfl) (by kernel_rfl) (by kernel_rfl) (e:=add64Entry) (by kernel_rfl),run_add64 x y c (by omega) (by omega) (by omega) (by omega)];simp only [gL]
 congr 5<;>omega
def add64_int(x y c:Int)(hx:0<=x)(hy:0<=y)(hc0:0<=c)(hc:c<=1)(w:yp):(callFunc 213 #[.int .u64 x,.int .u64 y,.int .u64 c]).run prog w =
  .ok (.value (.tuple #[.int .u64 ((x+y+c)%18446744073709551616),.int .u64 ((x+y+c)/18446744073709551616)])) w:=by
 obtain⟨x,rfl⟩:=nI hx;obtain⟨y,rfl⟩:=nI hy;obtain⟨c,rfl⟩:=nI hc0;refine(add64_run x y c (by omega) w).trans ?_
 congr 5<;>omega
def add64_int0(x y:Int)(hx:0<=x)(hy:0<=y)(w:yp):(callFunc 213 #[.int .u64 x,.int .u64 y,.int .u64 0]).run prog w =
  .ok (.value (.tuple #[.int .u64 ((x+y)%18446744073709551616),.int .u64 ((x+y)/18446744073709551616)])) w:=by
 simpa using add64_int x y 0 hx hy (Int.le_refl 0) (by decide) w
def sub64_run(x y b:Nat)(hb:b<=1)(w:yp):(callFunc 215 #[.int .u64 x,.int .u64 y,.int .u64 b]).run prog w =
  .ok (.value (.tuple #[.int .u64 (((x+18446744073709551616-y-b)%18446744073709551616:Nat):Int),.int .u64 ((if x<y+b then 1 else 0:Nat):Int)])) w:=by
 rw [run_callFunc_extern func215 (by kernel_rfl) (by kernel_rfl) (by kernel_rfl) (e:=subEntry) (by kernel_rfl),run_sub x y b hb]
 rfl
end Go.Proofs.Q
namespace Go.Proofs.Q
open Go.RowKit Go.IntWalk Nums
def size_w4(cs:zr)(h:cs.size=4):(prog.info? 186).map (·.size)=some cs.size:=by rw [h];kernel_rfl
def size_sc(cs:zr)(h:cs.size=4):(prog.info? 188).map (·.size)=some cs.size:=by rw [h];kernel_rfl
def z4:zr:=(Us [0,0,0,0]).toArray
def len_u4{l:zj}(h:l.length=4):(Us l).toArray.size=4:=by rw [aW,Us_len,h]
def wsum_f{A B:Nat}(hA:A<115792089237316195423570985008687907853269984665640564039457584007913129639936)(hB:B<115792089237316195423570985008687907853269984665640564039457584007913129639936)(w:yp) :
  Calls prog 172 #[.agg (Us (ws A)).toArray,.agg (Us (ws B)).toArray] w λe w'=>e = .returned (.agg (Us (ws ((A+B)%115792089237316195423570985008687907853269984665640564039457584007913129639936))).toArray)/\Below w.heap.size w w':=by
 rw [<-xR hA hB];have ha:=λk=>lO A (k:=k);have hb:=λk=>lO B (k:=k);have la:=lK A;have lb:=lK B;have hc:=sup_le ha hb;clear hA hB;generalize ws A=a at *;generalize ws B=b at *
 go_enter func172,ntmps172
 go_wp2
 go_loopw [7,5] (λi u wr=>∃k:Nat,k<=4/\i = .int .i64 k/\u = .int .u64 (sup a b k:Nat)/\Blk wr w.heap.size 186 (Us (mxl (swd a b) a k)).toArray/\Blk wr (w.heap.size+1) 186 (Us b).toArray/\Blk wr (w.heap.size+1+1) 186 z4/\Below w.heap.size w wr) (λi _ _=>4-(intOf i).toNat)
 case atStart =>
  refine⟨0,by omega,rfl,rfl,?_,blk3_1 w _ _ _ _,blk3_2 w _ _ _ _,(((Below.refl _ _).alloc (aF _) _).alloc (by simp) _).alloc (by simp;omega) _⟩;rw [oG];exact blk3_0 w _ _ _ _
 case round =>
  obtain⟨k,hk,rfl,rfl,h0,h1,h2,hbel⟩:=hrel
  by_cases hlt:k<4
  .have hN:=l8 (swd a b) a (k:=k)
   have hU:sup a b (k+1)=(a[k]! + b[k]! + sup a b k)/18446744073709551616:=rfl;have hS:swd a b k=(a[k]! + b[k]! + sup a b k)%18446744073709551616:=rfl;have hg:=tU (swd a b) a (k:=k) (by omega);have c0:=(h0.drew.cell k).trans (Us_at (by rw [iV];omega));rw [hg] at c0;have c1:=(h1.drew.cell k).trans (Us_at (by omega));have b0:=ha k hlt;have b1:=hb k hlt;have b2:=hc k (by omega);have hf:=h0.drew.free k;rw [hS] at hN;generalize a[k]! = u at *;generalize b[k]! = v at *;generalize sup a b k=c at *;have hA:=add64_run u v c b2;have q2:(0:Int)<=(k:Int):=by omega
   have HK:=dW (fF h0 (fF h1 (fF h2 (fF hbel (fF hN hU)))));clear h0 h1 h2 hbel hN hg hU hS ha hb hc;generalize (u+v+c)%18446744073709551616=s at *;generalize (u+v+c)/18446744073709551616=t at *;go_wp2;go_region_with (simp only [hA]);all_goals (
    go_wp2
    go_roundw
    case rel =>
     obtain⟨h0,h1,h2,hbel,hN,hU⟩:=HK.out;have h4:=h0.set k (.int .u64 ((s:Nat):Int));rw [Us_set,hN] at h4;exact⟨k+1,by omega,by go_num,by rw [hU],h4,h1.far (by simp) _,h2.far (by simp;omega) _,(hbel.setCell (by simp) _).drew⟩
    case measure=>simp [intOf];omega)
  .obtain rfl:k=4:=by omega
   have hz:(Us (mxl (swd a b) a 4)).toArray.size=4:=len_u4 (by rw [iV,la]);go_wp2_with (first
    | (refine wpList_load_row rfl 186 _ rfl w.heap.size rfl 186 (Us (mxl (swd a b) a 4)).toArray (0,0) _ h0 underlying186 rfl (size_w4 _ hz) ?_)
    | (refine wpList_store_row rfl 186 _ _ rfl (w.heap.size+1+1) rfl (Us (mxl (swd a b) a 4)).toArray rfl 186 _ h2 (size_w4 _ hz) (by rw [hz];rfl) (Us_one _) ?_))
   refine bodyPost_ret (results_cell_row rfl _ _ (w.heap.size+1+1) 186 (Us (mxl (swd a b) a 4)).toArray (0,0) _ rfl (h2.row _) underlying186 rfl (size_w4 _ hz)) rfl ⟨rfl,?_⟩;exact below_setRow hbel (by omega) _
def own_wsum:Own 172:=λ_ _=>by go_simp
def ws_LL:ws LL=[6346243789798364141,1503914060200516822,0,1152921504606846976]:=by decide
def cell4(a b c d:Nat):(Us [a,b,c,d]).toArray = #[.int .u64 (a:Int),.int .u64 (b:Int),.int .u64 (c:Int),.int .u64 (d:Int)]:=rfl
def mask60(a:Nat)(ha:a<18446744073709551616):bits .and .u64 (a:Int) 1152921504606846975=((a%1152921504606846976:Nat):Int):=by have h:=u64_and_nat a 1152921504606846975 ha (by omega);have e:a &&& 1152921504606846975=a%1152921504606846976:=iB a 60;rw [e] at h;exact h
def red_f{v0 v1 v2 v3 u:Nat}(h0:v0<18446744073709551616)(h1:v1<18446744073709551616)(h2:v2<18446744073709551616)(h3:v3<18446744073709551616)(hu:u<1073741824)(w:yp) :
  Calls prog 173 #[.agg (Us [v0,v1,v2,v3,u]).toArray] w λe w'=>e = .returned (.agg (Us (ws ((v4 v0 v1 v2 v3+115792089237316195423570985008687907853269984665640564039457584007913129639936*u)%LL))).toArray)/\Below w.heap.size w w':=by
 obtain⟨t,ht⟩:∃t,t=u*16+v3/1152921504606846976:=⟨_,rfl⟩
 have htb:t<34359738368:=by omega
 have qt:bits .or .u64 ((u:Int)*16) ((v3:Int)/1152921504606846976)=(t:Int):=by have e:=orW 4 (u*16) (v3/1152921504606846976) (by omega) (by omega) (by omega) (by omega);rw [ht,<-e];rfl
 have HM0:=λw1=>dW (mul64_any t 6346243789798364141 (by omega) (by omega) w1);have HM1:=λw1=>dW (mul64_any t 1503914060200516822 (by omega) (by omega) w1);obtain⟨V,hV⟩:∃V,V=v4 v0 v1 v2 v3+115792089237316195423570985008687907853269984665640564039457584007913129639936*u:=⟨_,rfl⟩;rw [<-hV]
 have hV2:V=v4 v0 v1 v2 (v3%1152921504606846976)+7237005577332262213973186563042994240829374041602535252466099000494570602496*t:=by rw [hV,ht];unfold v4;omega
 have q3:=mask60 v3 h3
 have hv3:v3%1152921504606846976<1152921504606846976:=by omega
 obtain⟨m0,hm0⟩:∃m,m=t*6346243789798364141:=⟨_,rfl⟩;obtain⟨m1,hm1⟩:∃m,m=t*1503914060200516822:=⟨_,rfl⟩;rw [<-hm0] at HM0;rw [<-hm1] at HM1;obtain⟨p1,hp1⟩:∃p,p=m1%18446744073709551616+m0/18446744073709551616:=⟨_,rfl⟩
 have hA:∀w1,(callFunc 213 #[.int .u64 ((m1%18446744073709551616:Nat):Int),.int .u64 ((m0/18446744073709551616:Nat):Int),.int .u64 0]).run prog w1 = .ok (.value (.tuple #[.int .u64 ((p1%18446744073709551616:Nat):Int),.int .u64 ((p1/18446744073709551616:Nat):Int)])) w1:=by rw [hp1];exact λw1=>add64_run (m1%18446744073709551616) (m0/18446744073709551616) 0 (by omega) w1
 have qd:IntKind.u64.wrap (((m1/18446744073709551616:Nat):Int)+((p1/18446744073709551616:Nat):Int))=((m1/18446744073709551616+p1/18446744073709551616:Nat):Int):=by rw [bH];omega
 obtain⟨r0,l0,hr0,hl0,H0⟩:∃r0 l0:Nat,r0=(v0+18446744073709551616-m0%18446744073709551616-0)%18446744073709551616/\l0=(if v0<m0%18446744073709551616+0 then 1 else 0) /\
   ∀w1,(callFunc 215 #[.int .u64 (v0:Int),.int .u64 ((m0%18446744073709551616:Nat):Int),.int .u64 0]).run prog w1 = .ok (.value (.tuple #[.int .u64 (r0:Int),.int .u64 (l0:Int)])) w1 :=
  ⟨_,_,rfl,rfl,λw1=>sub64_run v0 (m0%18446744073709551616) 0 (by omega) w1⟩
 have b0:l0<=1:=by rw [hl0];split<;>omega
 obtain⟨r1,l1,hr1,hl1,H1⟩:∃r1 l1:Nat,r1=(v1+18446744073709551616-p1%18446744073709551616-l0)%18446744073709551616/\l1=(if v1<p1%18446744073709551616+l0 then 1 else 0) /\
   ∀w1,(callFunc 215 #[.int .u64 (v1:Int),.int .u64 ((p1%18446744073709551616:Nat):Int),.int .u64 (l0:Int)]).run prog w1 = .ok (.value (.tuple #[.int .u64 (r1:Int),.int .u64 (l1:Int)])) w1 :=
  ⟨_,_,rfl,rfl,λw1=>sub64_run v1 (p1%18446744073709551616) l0 b0 w1⟩
 have b1:l1<=1:=by rw [hl1];split<;>omega
 obtain⟨r2,l2,hr2,hl2,H2⟩:∃r2 l2:Nat,r2=(v2+18446744073709551616-(m1/18446744073709551616+p1/18446744073709551616)-l1)%18446744073709551616/\l2=(if v2<m1/18446744073709551616+p1/18446744073709551616+l1 then 1 else 0) /\
   ∀w1,(callFunc 215 #[.int .u64 (v2:Int),.int .u64 ((m1/18446744073709551616+p1/18446744073709551616:Nat):Int),.int .u64 (l1:Int)]).run prog w1 = .ok (.value (.tuple #[.int .u64 (r2:Int),.int .u64 (l2:Int)])) w1 :=
  ⟨_,_,rfl,rfl,λw1=>sub64_run v2 (m1/18446744073709551616+p1/18446744073709551616) l1 b1 w1⟩
 have b2:l2<=1:=by rw [hl2];split<;>omega
 obtain⟨r3,l3,hr3,hl3,H3⟩:∃r3 l3:Nat,r3=(v3%1152921504606846976+18446744073709551616-0-l2)%18446744073709551616/\l3=(if v3%1152921504606846976<0+l2 then 1 else 0) /\
   ∀w1,(callFunc 215 #[.int .u64 ((v3%1152921504606846976:Nat):Int),.int .u64 0,.int .u64 (l2:Int)]).run prog w1 = .ok (.value (.tuple #[.int .u64 (r3:Int),.int .u64 (l3:Int)])) w1 :=
  ⟨_,_,rfl,rfl,λw1=>sub64_run (v3%1152921504606846976) 0 l2 b2 w1⟩
 obtain⟨e0,e1,b3,_,_,_,c0,c1,c2,c3⟩:=xT (V:=V) h0 h1 h2 hv3 htb hm0 hm1 hp1 hl0 hr0 hl1 hr1 hl2 hr2 hl3 hr3 hV2
 have hR:v4 r0 r1 r2 r3<115792089237316195423570985008687907853269984665640564039457584007913129639936:=by unfold v4;omega
 have HW:=λw1=>wsum_f hR (B:=LL) (by rw [pH];omega) w1;rw [u6 c0 c1 c2 c3,ws_LL,cell4,cell4] at HW;have hwR:=u6 c0 c1 c2 c3;clear hm0 hm1 hp1 hl0 hr0 hl1 hr1 hl2 hr2 hl3 hr3 hV2 hV ht htb;generalize hmh0:m0/18446744073709551616=mh0 at *;generalize hml0:m0%18446744073709551616=ml0 at *;generalize hmh1:m1/18446744073709551616=mh1 at *;generalize hml1:m1%18446744073709551616=ml1 at *;generalize hph1:p1/18446744073709551616=ph1 at *;generalize hpl1:p1%18446744073709551616=pl1 at *;generalize mh1+ph1=d at *;generalize v3%1152921504606846976=v3' at *;clear hmh0 hml0 hmh1 hml1 hph1 hpl1;have e0':(Us [v0,v1,v2,v3,u]).toArray = #[.int .u64 (v0:Int),.int .u64 (v1:Int),.int .u64 (v2:Int),.int .u64 (v3:Int),.int .u64 (u:Int)]:=rfl;rw [e0'];clear e0'
 rcases(show l3=0\/l3=1 by omega) with rfl|rfl
 .have hF:=e0 rfl;rw [<-hF,hwR,cell4];have HK:=dW (fF hF hR);clear e0 e1 HW hF hR hwR;go_enter func173,ntmps173;go_wp2_with (fail);refine(HM0 _).out.mono ?_;rintro e w1 ⟨rfl,rfl⟩;go_wp2_with (fail);refine(HM1 _).out.mono ?_;rintro e w1 ⟨rfl,rfl⟩;go_wp2_with (fail);refine bodyPost_ret (results_cell_row rfl _ _ (w.heap.size+1) 188 _ (0,0) _ rfl (blk3_1 w _ _ _ _) underlying188 rfl (size_sc _ rfl)) rfl ⟨rfl,?_⟩;exact(((Below.refl _ _).alloc (aF _) _).alloc (by simp) _).alloc (by simp;omega) _
 .have hF:=e1 rfl
  rw [hF] at HW;rw [<-hF];have hn:V%LL<115792089237316195423570985008687907853269984665640564039457584007913129639936:=j3 (cI _ (by decide)) (by decide);rw [hF];obtain⟨x0,x1,x2,x3,_,hx,_⟩:=oW hn;rw [hx,cell4] at HW ⊢;have HW:=λw1=>dW (HW w1);clear e0 e1 hF hR hwR hx hn;go_enter func173,ntmps173;go_wp2_with (fail);refine(HM0 _).out.mono ?_;rintro e w1 ⟨rfl,rfl⟩;go_wp2_with (fail);refine(HM1 _).out.mono ?_;rintro e w1 ⟨rfl,rfl⟩;go_wp2_with (fail);refine(HW _).out.mono ?_;rintro e w1 ⟨rfl,hw1⟩;have k1:=(blk3_1 w 188 (Us [0,0,0,0]).toArray (.cells (Us [v0,v1,v2,v3,u]).toArray 245) (.cells (Us [r0,r1,r2,r3]).toArray 186)).later hw1;have k2:=(blk3_2 w 186 (Us [r0,r1,r2,r3]).toArray (.cells (Us [v0,v1,v2,v3,u]).toArray 245) (.cells (Us [0,0,0,0]).toArray 188)).later hw1;have hbe:=below_up ((((Below.refl w.heap.size w).alloc (aF _) _).alloc (by simp) _).alloc (by simp;omega) _) hw1;have k1':=k1.rowFar (g':=w.heap.size+1+1) (by omega) (Us [x0,x1,x2,x3]).toArray;have k2':=k2.row (Us [x0,x1,x2,x3]).toArray;have hbe':=below_setRow hbe (g:=w.heap.size+1+1) (cs:=(Us [x0,x1,x2,x3]).toArray) (by omega);clear hw1;go_wp2_with (first
   | (refine wpList_store_row rfl 186 _ _ rfl (w.heap.size+1+1) rfl (Us [x0,x1,x2,x3]).toArray rfl 186 _ k2 (size_w4 _ rfl) rfl (Us_one _) ?_)
   | (refine wpList_load_row rfl 186 _ rfl (w.heap.size+1+1) rfl 186 #[.int .u64 (x0:Int),.int .u64 (x1:Int),.int .u64 (x2:Int),.int .u64 (x3:Int)] (0,0) _ k2' underlying186 rfl (size_w4 _ rfl) ?_)
   | (refine wpList_store_row rfl 188 _ _ rfl (w.heap.size+1) rfl (Us [x0,x1,x2,x3]).toArray rfl 188 _ k1' (size_sc _ rfl) rfl (Us_one _) ?_))
  refine bodyPost_ret (results_cell_row rfl _ _ (w.heap.size+1) 188 (Us [x0,x1,x2,x3]).toArray (0,0) _ rfl (k1'.row _) underlying188 rfl (size_sc _ rfl)) rfl ⟨rfl,?_⟩;exact below_setRow hbe' (by omega) _
end Go.Proofs.Q
namespace Nums
def upw(a:zj):zk
  | 0=>0
  | k+1=>a[k]! / 4294967296
def ful(a b:zj)(h:Nat):zk
  | 0=>0
  | k+1=>(b[k]! * h+ful a b h k+(a[k]! % 4294967296*4294967296+upw a k))/18446744073709551616
def nxw(a b:zj)(h k:Nat):Nat:=(b[k]! * h+ful a b h k+(a[k]! % 4294967296*4294967296+upw a k))%18446744073709551616
theorem u7{a:zj}(ha:∀k,k<4->a[k]! < 18446744073709551616):∀k,k<=4->upw a k<4294967296
 | 0,_=>by show 0<4294967296;decide
 | k+1,hk=>by have:=ha k (by omega);show a[k]! / 4294967296<4294967296;omega
def xM{b h:Nat}(hb:b<18446744073709551616)(hh:h<4294967296):b*h<=18446744073709551615*4294967295:=iS (by omega) (by omega)
theorem v9{a b:zj}{h:Nat}(ha:∀k,k<4->a[k]! < 18446744073709551616)(hb:∀k,k<4->b[k]! < 18446744073709551616)(hh:h<4294967296):∀k,k<=4->ful a b h k<8589934592
 | 0,_=>by show 0<8589934592;decide
 | k+1,hk=>by have h0:=v9 ha hb hh k (by omega);have h1:=u7 ha k (by omega);have h2:=ha k (by omega);have h3:=xM (hb k (by omega)) hh;show(b[k]! * h+ful a b h k+(a[k]! % 4294967296*4294967296+upw a k))/18446744073709551616<8589934592;omega
def y6(f:zk)(a0 a1 a2 a3 a4:Nat):mxl f [a0,a1,a2,a3,a4] 4=[f 0,f 1,f 2,f 3,a4]:=rfl
def w8{A B h:Nat}(hA:A<115792089237316195423570985008687907853269984665640564039457584007913129639936)(hB:B<115792089237316195423570985008687907853269984665640564039457584007913129639936) :
  v4 (nxw (ws A) (ws B) h 0) (nxw (ws A) (ws B) h 1) (nxw (ws A) (ws B) h 2) (nxw (ws A) (ws B) h 3)+115792089237316195423570985008687907853269984665640564039457584007913129639936*(ful (ws A) (ws B) h 4+upw (ws A) 4)=4294967296*A+B*h:=by
 obtain⟨a0,a1,a2,a3,eA,wA,p0,p1,p2,p3⟩:=oW hA;obtain⟨b0,b1,b2,b3,eB,wB,q0,q1,q2,q3⟩:=oW hB;rw [wA,wB];have u0:upw [a0,a1,a2,a3] 0=0:=rfl;have u1:upw [a0,a1,a2,a3] 1=a0/4294967296:=rfl;have u2:upw [a0,a1,a2,a3] 2=a1/4294967296:=rfl;have u3:upw [a0,a1,a2,a3] 3=a2/4294967296:=rfl;have u4:upw [a0,a1,a2,a3] 4=a3/4294967296:=rfl;have f0:ful [a0,a1,a2,a3] [b0,b1,b2,b3] h 0=0:=rfl;have f1:ful [a0,a1,a2,a3] [b0,b1,b2,b3] h 1=(b0*h+ful [a0,a1,a2,a3] [b0,b1,b2,b3] h 0+(a0%4294967296*4294967296+upw [a0,a1,a2,a3] 0))/18446744073709551616:=rfl;have f2:ful [a0,a1,a2,a3] [b0,b1,b2,b3] h 2=(b1*h+ful [a0,a1,a2,a3] [b0,b1,b2,b3] h 1+(a1%4294967296*4294967296+upw [a0,a1,a2,a3] 1))/18446744073709551616:=rfl;have f3:ful [a0,a1,a2,a3] [b0,b1,b2,b3] h 3=(b2*h+ful [a0,a1,a2,a3] [b0,b1,b2,b3] h 2+(a2%4294967296*4294967296+upw [a0,a1,a2,a3] 2))/18446744073709551616:=rfl;have f4:ful [a0,a1,a2,a3] [b0,b1,b2,b3] h 4=(b3*h+ful [a0,a1,a2,a3] [b0,b1,b2,b3] h 3+(a3%4294967296*4294967296+upw [a0,a1,a2,a3] 3))/18446744073709551616:=rfl;have n0:nxw [a0,a1,a2,a3] [b0,b1,b2,b3] h 0=(b0*h+ful [a0,a1,a2,a3] [b0,b1,b2,b3] h 0+(a0%4294967296*4294967296+upw [a0,a1,a2,a3] 0))%18446744073709551616:=rfl;have n1:nxw [a0,a1,a2,a3] [b0,b1,b2,b3] h 1=(b1*h+ful [a0,a1,a2,a3] [b0,b1,b2,b3] h 1+(a1%4294967296*4294967296+upw [a0,a1,a2,a3] 1))%18446744073709551616:=rfl;have n2:nxw [a0,a1,a2,a3] [b0,b1,b2,b3] h 2=(b2*h+ful [a0,a1,a2,a3] [b0,b1,b2,b3] h 2+(a2%4294967296*4294967296+upw [a0,a1,a2,a3] 2))%18446744073709551616:=rfl;have n3:nxw [a0,a1,a2,a3] [b0,b1,b2,b3] h 3=(b3*h+ful [a0,a1,a2,a3] [b0,b1,b2,b3] h 3+(a3%4294967296*4294967296+upw [a0,a1,a2,a3] 3))%18446744073709551616:=rfl
 have eBh:B*h=b0*h+18446744073709551616*(b1*h)+340282366920938463463374607431768211456*(b2*h)+6277101735386680763835789423207666416102355444464034512896*(b3*h):=by rw [eB];unfold v4;grind only
 rw [eBh,eA];generalize nxw [a0,a1,a2,a3] [b0,b1,b2,b3] h 0=x0 at *;generalize nxw [a0,a1,a2,a3] [b0,b1,b2,b3] h 1=x1 at *;generalize nxw [a0,a1,a2,a3] [b0,b1,b2,b3] h 2=x2 at *;generalize nxw [a0,a1,a2,a3] [b0,b1,b2,b3] h 3=x3 at *;generalize ful [a0,a1,a2,a3] [b0,b1,b2,b3] h 0=c0 at *;generalize ful [a0,a1,a2,a3] [b0,b1,b2,b3] h 1=c1 at *;generalize ful [a0,a1,a2,a3] [b0,b1,b2,b3] h 2=c2 at *;generalize ful [a0,a1,a2,a3] [b0,b1,b2,b3] h 3=c3 at *;generalize ful [a0,a1,a2,a3] [b0,b1,b2,b3] h 4=c4 at *;generalize upw [a0,a1,a2,a3] 0=y0 at *;generalize upw [a0,a1,a2,a3] 1=y1 at *;generalize upw [a0,a1,a2,a3] 2=y2 at *;generalize upw [a0,a1,a2,a3] 3=y3 at *;generalize upw [a0,a1,a2,a3] 4=y4 at *;generalize b0*h=z0 at *;generalize b1*h=z1 at *;generalize b2*h=z2 at *;generalize b3*h=z3 at *;clear eBh eA eB wA wB hA hB q0 q1 q2 q3
 unfold v4
 omega
end Nums
namespace Go.Proofs.Q
open Go.RowKit Go.IntWalk Nums
def size_w5(cs:zr)(h:cs.size=5):(prog.info? 245).map (·.size)=some cs.size:=by rw [h];kernel_rfl
structure NS(w wr:yp)(a b l:zj):Prop where
  ba:Blk wr w.heap.size 188 (Us a).toArray
  bb:Blk wr (w.heap.size+1) 188 (Us b).toArray
  bo:Blk wr (w.heap.size+1+1) 188 z4
  bv:Blk wr (w.heap.size+1+1+1) 245 (Us l).toArray
  be:Below w.heap.size w wr
def NS.set{w wr:yp}{a b l:zj}(h:NS w wr a b l)(k x:Nat):NS w (wr.setCell ⟨w.heap.size+1+1+1,k,none⟩ (.int .u64 (x:Int))) a b (l.set k x) where
 ba:=h.ba.far (by show w.heap.size≠w.heap.size+1+1+1;omega) _
 bb:=h.bb.far (by show w.heap.size+1≠w.heap.size+1+1+1;omega) _
 bo:=h.bo.far (by show w.heap.size+1+1≠w.heap.size+1+1+1;omega) _
 bv:=by
  have h4:=h.bv.set k (.int .u64 (x:Int))
  rwa [Us_set] at h4
 be:=h.be.setCell (by show w.heap.size<=w.heap.size+1+1+1;omega) _
def next_f{A B h:Nat}(hA:A<LL)(hB:B<LL)(hh:h<4294967296)(w:yp) :
  Calls prog 174 #[.agg (Us (ws A)).toArray,.agg (Us (ws B)).toArray,.int .u64 (h:Int)] w λe w'=>e = .returned (.agg (Us (ws ((4294967296*A+B*h)%LL))).toArray)/\Below w.heap.size w w':=by
 have hA2:A<115792089237316195423570985008687907853269984665640564039457584007913129639936:=j3 hA (by decide);have hB2:B<115792089237316195423570985008687907853269984665640564039457584007913129639936:=j3 hB (by decide);have hE:=w8 (h:=h) hA2 hB2;have ha:=λk=>lO A (k:=k);have hb:=λk=>lO B (k:=k);have la:=lK A;have lb:=lK B;have hf:=v9 ha hb hh;have hu:=u7 ha;have hn:∀k,nxw (ws A) (ws B) h k<18446744073709551616:=λk=>cI _ (by decide);have hBh:B*h<=LL*4294967296:=iS (tG hB) (tG hh)
 have hR:=λw1=>red_f (hn 0) (hn 1) (hn 2) (hn 3) (u:=ful (ws A) (ws B) h 4+upw (ws A) 4) (by unfold v4 at hE;rw [pH] at hA hB hBh;generalize B*h=z at *;omega) w1
 rw [hE] at hR;generalize (4294967296*A+B*h)%LL=res at *;clear hE hBh hA2 hB2 hn hA hB;generalize ws A=a at *;generalize ws B=b at *;have hR:=dW hR
 go_enter func174,ntmps174
 go_wp2
 go_loopw [14,8,9] (λi u8 u9 wr=>∃k:Nat,k<=4/\i = .int .i64 k/\u8 = .int .u64 (upw a k:Nat)/\u9 = .int .u64 (ful a b h k:Nat)/\NS w wr a b (mxl (nxw a b h) [0,0,0,0,0] k)) (λi _ _ _=>4-(intOf i).toNat)
 case atStart =>
  refine⟨0,by omega,rfl,rfl,rfl,?_,?_,?_,?_,?_⟩
  .exact blk4_0 w _ _ _ _ _
  .exact blk4_1 w _ _ _ _ _
  .exact blk4_2 w _ _ _ _ _
  .exact blk4_3 w _ _ _ _ _
  .exact below4 w _ _ _ _
 case round =>
  obtain⟨k,hk,rfl,rfl,rfl,hS⟩:=hrel
  by_cases hlt:k<4
  .have hN:=hS.set k (nxw a b h k)
   rw [l8] at hN;have hU:upw a (k+1)=a[k]! / 4294967296:=rfl;have hF:ful a b h (k+1)=(b[k]! * h+ful a b h k+(a[k]! % 4294967296*4294967296+upw a k))/18446744073709551616:=rfl;have hX:nxw a b h k=(b[k]! * h+ful a b h k+(a[k]! % 4294967296*4294967296+upw a k))%18446744073709551616:=rfl;have c0:=(hS.ba.cell k).trans (Us_at (by omega));have c1:=(hS.bb.cell k).trans (Us_at (by omega));have c2:=(hS.bv.cell k).trans (Us_at (by rw [iV];simp;omega));have c3:=hS.bv.free k;have b0:=ha k hlt;have b1:=hb k hlt;have b2:=hf k (by omega);have b3:=hu k (by omega);have b4:=xM b1 hh;have b5:=hf (k+1) (by omega);rw [hF] at b5;generalize (mxl (nxw a b h) [0,0,0,0,0] k)[k]! = old at *;generalize a[k]! = u at *;generalize b[k]! = v at *;generalize upw a k=y at *;generalize ful a b h k=c at *;generalize nxw a b h k=x at *;have HM:=λw1=>dW (mul64_any v h b1 (by omega) w1);generalize v*h=z at *;have hA1:=λw1=>add64_run (z%18446744073709551616) c 0 (by omega) w1;have q1:IntKind.u64.wrap (((z/18446744073709551616:Nat):Int)+(((z%18446744073709551616+c+0)/18446744073709551616:Nat):Int))=((z/18446744073709551616+(z%18446744073709551616+c+0)/18446744073709551616:Nat):Int):=by rw [bH];omega
   have q2:bits .or .u64 (IntKind.u64.wrap ((u:Int)*4294967296)) (y:Int)=((u%4294967296*4294967296+y:Nat):Int):=by
    have e1:IntKind.u64.wrap ((u:Int)*4294967296)=((u%4294967296*4294967296:Nat):Int):=by rw [bH];omega
    rw [e1];exact orW 32 _ _ (by omega) (by omega) (by omega) (by omega)
   have hA2:=λw1=>add64_run ((z%18446744073709551616+c+0)%18446744073709551616) (u%4294967296*4294967296+y) 0 (by omega) w1;have q3:IntKind.u64.wrap (((z/18446744073709551616+(z%18446744073709551616+c+0)/18446744073709551616:Nat):Int)+((((z%18446744073709551616+c+0)%18446744073709551616+(u%4294967296*4294967296+y)+0)/18446744073709551616:Nat):Int))=(((z+c+(u%4294967296*4294967296+y))/18446744073709551616:Nat):Int):=by rw [bH];omega
   have e4:((z%18446744073709551616+c+0)%18446744073709551616+(u%4294967296*4294967296+y)+0)%18446744073709551616=x:=by omega
   have q5:(0:Int)<=(k:Int):=by omega
   have q6:(u:Int)/4294967296=((u/4294967296:Nat):Int):=div32 u;rw [e4] at hA2;have HK:=dW (fF hN (fF hU hF));clear hN hU hF hX hS b4 b5 b2 b3 e4 b0 b1 hf hu ha hb;generalize (z+c+(u%4294967296*4294967296+y))/18446744073709551616=n9 at *;generalize ((z%18446744073709551616+c+0)%18446744073709551616+(u%4294967296*4294967296+y)+0)/18446744073709551616=m1 at *;generalize u%4294967296*4294967296+y=m2 at *;generalize z/18446744073709551616+(z%18446744073709551616+c+0)/18446744073709551616=m3 at *;generalize (z%18446744073709551616+c+0)%18446744073709551616=m4 at *;generalize (z%18446744073709551616+c+0)/18446744073709551616=m5 at *;generalize z%18446744073709551616=m6 at *;generalize z/18446744073709551616=m7 at *;generalize u/4294967296=m8 at *;replace hA1:∀w1,(callFunc 213 #[.int .u64 (m6:Int),.int .u64 (c:Int),.int .u64 0]).run prog w1 = .ok (.value (.tuple #[.int .u64 (m4:Int),.int .u64 (m5:Int)])) w1:=hA1;replace hA2:∀w1,(callFunc 213 #[.int .u64 (m4:Int),.int .u64 (m2:Int),.int .u64 0]).run prog w1 = .ok (.value (.tuple #[.int .u64 (x:Int),.int .u64 (m1:Int)])) w1:=hA2;go_wp2_with (fail);refine(HM _).out.mono ?_;rintro e w1 ⟨rfl,rfl⟩;go_wp2;go_roundw
   case rel =>
    obtain⟨hN,hU,hF⟩:=HK.out;exact⟨k+1,by omega,by go_num,by rw [hU],by rw [hF],hN⟩
   case measure=>simp [intOf];omega
  .obtain rfl:k=4:=by omega
   have b2:=hf 4 (by omega);have b3:=hu 4 (by omega);have e5:mxl (nxw a b h) [0,0,0,0,0] 4=[nxw a b h 0,nxw a b h 1,nxw a b h 2,nxw a b h 3,0]:=y6 _ _ _ _ _ _;rw [e5] at hS;have hN:=hS.set 4 (ful a b h 4+upw a 4);have c2:=(hS.bv.cell 4).trans (Us_at (by simp));have c3:=hS.bv.free 4;have q1:IntKind.u64.wrap (((ful a b h 4:Nat):Int)+((upw a 4:Nat):Int))=((ful a b h 4+upw a 4:Nat):Int):=by rw [bH];omega
   have e6:[nxw a b h 0,nxw a b h 1,nxw a b h 2,nxw a b h 3,0].set 4 (ful a b h 4+upw a 4)=[nxw a b h 0,nxw a b h 1,nxw a b h 2,nxw a b h 3,ful a b h 4+upw a 4]:=rfl;rw [e6] at hN;clear e5 e6 hf hu ha hb b2 b3 hS;generalize ful a b h 4+upw a 4=s at *;generalize ful a b h 4=f4 at *;generalize upw a 4=u4 at *;have hbv:=hN.bv;generalize hl:(Us [nxw a b h 0,nxw a b h 1,nxw a b h 2,nxw a b h 3,s]).toArray=cs at *;have hcs:cs.size=5:=by rw [<-hl];rfl
   have HN:=dW hN;clear hN hl;go_wp2_with (refine wpList_load_row rfl 245 _ rfl (w.heap.size+1+1+1) rfl 245 cs (0,0) _ hbv underlying245 rfl (size_w5 _ hcs) ?_);refine(hR.out _).mono ?_;rintro e w1 ⟨rfl,hw1⟩;have hN:=HN.out;have ho:=hN.bo.later hw1;have hbe:=below_up hN.be hw1;have hz:=len_u4 (lK res);clear hN HN hw1 hR;go_wp2_with (refine wpList_store_row rfl 188 _ _ rfl (w.heap.size+1+1) rfl (Us (ws res)).toArray rfl 188 _ ho (size_sc _ hz) (by rw [hz];rfl) (Us_one _) ?_);refine bodyPost_ret (results_cell_row rfl _ _ (w.heap.size+1+1) 188 (Us (ws res)).toArray (0,0) _ rfl (ho.row _) underlying188 rfl (size_sc _ hz)) rfl ⟨rfl,?_⟩;exact below_setRow hbe (by omega) _
end Go.Proofs.Q
namespace Nums
def zz{n:Nat}[NeZero n](d:Fin n):0*0*d+1=1:=by grind only
def yZ(a:F) : -a * -a=a*a:=by grind only
def nW(x:F):F:=if x.val%2=1 then -x else x
def pG(x:F):(nW x).val%2=0:=by
 unfold nW;by_cases h:x.val%2=1
 .rw [if_pos h,pQ (by rintro rfl;exact absurd h (by decide)),h]
 .rw [if_neg h];omega
def rC(x:F):nW x*nW x=x*x:=by
 unfold nW;by_cases h:x.val%2=1
 .rw [if_pos h];grind only
 .rw [if_neg h]
def sD{a b:F}(h:a*a=b*b)(hp:a.val%2=b.val%2):a=b:=by
 rcases tO dU h with h1|h1
 .exact h1
 .by_cases h0:b=0
  .rw [h1,h0];grind only
  .have:=pQ h0;rw [<-h1] at this;omega
def tJ(y:F):y*y*dd+1≠0:=by
 intro h;have hy:y≠0:=by rintro rfl;have e:(0:F)*0*dd+1=1:=zz dd;rw [e] at h;exact mV dU h.symm
 have h1:=iW dU hy;refine good.d (im*gV y) ?_;have hi:=xO;generalize gV y=z at *;generalize im=i at *;generalize dd=d at *;have a:i*z*(i*z)=(i*i)*(z*z):=by grind only
 have b:d = -(1:F)*(z*z):=by
  have c:d*(y*z)*(y*z)=(y*y*d)*(z*z):=by grind only
  have e:y*y*d = -1:=by grind only
  rw [h1,e] at c;grind only
 rw [a,hi,b]
def ww(y:F):F:=(y*y-1)*gV (y*y*dd+1)
def rL(x y:F):Ed.On dd ⟨x,y⟩↔x*x=ww y:=by
 have h:=iW dU (tJ y);unfold ww;show y*y-x*x=1+dd*x*x*y*y↔_;have hv:=tJ y;generalize hV:y*y*dd+1=v at *;generalize gV v=u at *;generalize dd=d at *;constructor
 .intro h1
  have a:y*y-1=x*x*v:=by rw [<-hV];grind only
  have b:x*x*v*u=x*x*(v*u):=by grind only
  rw [a,b,h];grind only
 .intro h1
  have a:x*x*v=y*y-1:=by
   have b:(y*y-1)*u*v=(y*y-1)*(v*u):=by grind only
   rw [h1,b,h];grind only
  rw [<-hV] at a;grind only
def oN(P:Ed.Pt p):Nat:=P.y.val+57896044618658097711785492504343953926634992332820282019728792003956564819968*(P.x.val%2)
def fU(P:Ed.Pt p):zu:=bytes 32 (oN P)
def kZ(P:Ed.Pt p):(fU P).length=32:=cZ _ _
def vW:p<57896044618658097711785492504343953926634992332820282019728792003956564819968:=by decide
def l9(P:Ed.Pt p):le (fU P)=oN P:=by
 unfold fU;rw [jY];apply a7;have h:=P.y.isLt;have h2:=vW;have h3:57896044618658097711785492504343953926634992332820282019728792003956564819968*2=256^32:=by decide
 unfold oN;omega
def wH{P Q:Ed.Pt p}(h:oN P=oN Q):P.y=Q.y/\P.x.val%2=Q.x.val%2:=by unfold oN at h;have h1:=P.y.isLt;have h2:=Q.y.isLt;have h3:=vW;exact⟨kI (by omega),by omega⟩
def oM{P Q:Ed.Pt p}(hP:Ed.On dd P)(hQ:Ed.On dd Q)(h:fU P=fU Q):P=Q:=by
 have h1:oN P=oN Q:=by rw [<-l9,<-l9,h]
 obtain⟨h2,h3⟩:=wH h1;obtain⟨x,y⟩:=P;obtain⟨u,v⟩:=Q;simp only at h2 h3;subst h2;have a:=(rL x y).mp hP;have b:=(rL u y).mp hQ;rw [sD (a.trans b.symm) h3]
end Nums
namespace Nums
theorem iR:∀a b:zu,le (a++b)=le a+256^a.length*le b
 | [],b=>by show le b=0+1*le b;omega
 | x::a,b=>by show x.toNat+256*le (a++b)=x.toNat+256*le a+256^(a.length+1)*le b;rw [iR a b,cB,mD,cX (256^a.length) 256,Nat.mul_assoc];omega
theorem pE:∀a:zu,le a<256^a.length
 | []=>by decide
 | x::a=>by have h1:=pE a;have h2:=x.toNat_lt;show x.toNat+256*le a<256^(a.length+1);rw [cB];omega
section
variable{b:zu}(hb:b.length=32)
include hb
def yW:b=b.take 31++[b[31]!]:=by
 conv=>lhs;rw [<-b6 31 b]
 rw [dZ (by omega),iU (by omega),getElem!_pos b 31 (by omega)]
def le_top:le b=le (b.take 31)+452312848583266388373324160190187140051835877600158453279131187530910662656*(b[31]!).toNat:=by
 conv=>lhs;rw [yW hb]
 rw [iR,aV,hb];show _+256^31*((b[31]!).toNat+256*0)=_;rw [show(256:Nat)^31=452312848583266388373324160190187140051835877600158453279131187530910662656 by decide];omega
def tV:le (b.take 31)<452312848583266388373324160190187140051835877600158453279131187530910662656:=by have h:=pE (b.take 31);rw [aV,hb,show(256:Nat)^min 31 32=452312848583266388373324160190187140051835877600158453279131187530910662656 by decide] at h;exact h
def xL(x:UInt8):le (b.set 31 x)=le (b.take 31)+452312848583266388373324160190187140051835877600158453279131187530910662656*x.toNat:=by
 have h:(b.set 31 x).length=32:=by rw [bV,hb]
 rw [le_top h,List.take_set_of_le (by omega),getElem!_pos _ 31 (by omega),n7]
def tM:(b[31]!).toNat<128↔le b<57896044618658097711785492504343953926634992332820282019728792003956564819968:=by have h1:=le_top hb;have h2:=tV hb;omega
end
def uM{P:Ed.Pt p}(h:P.x.val%2≠1):fU P=enc P.y:=by
 apply nT (by rw [kZ,iL]);rw [l9,nU];unfold oN;have:P.x.val%2=0:=by omega
 rw [this];omega
def rO(y:F):((enc y)[31]!).toNat<128:=by rw [tM (iL y),nU];exact j3 y.isLt vW
def wG{P:Ed.Pt p}(h:P.x.val%2=1):fU P=(enc P.y).set 31 (bP (((enc P.y)[31]!).toNat+128)):=by apply nT (by rw [kZ,bV,iL]);have h1:=rO P.y;have h2:=le_top (iL P.y);rw [l9,xL (iL P.y),UInt8.toNat_ofNat_of_lt' (by show _<256;omega)];rw [nU] at h2;unfold oN;rw [h];omega
end Nums
namespace Go.Proofs.Q
open Go.RowKit Go.IntWalk Nums
def ws_wd(n:Nat){k:Nat}(hk:k<4):(ws n)[k]! = wd n k:=by
 have h4:k=0\/k=1\/k=2\/k=3:=by omega
 rcases h4 with rfl|rfl|rfl|rfl
 .show n%18446744073709551616=n/1%18446744073709551616;rw [oT]
 .rfl
 .rfl
 .rfl
structure HS4(w wr:yp)(a:zj)(b:zu)(n:Nat):Prop where
  b0:Blk wr w.heap.size 188 (Us a).toArray
  b1:Blk wr (w.heap.size+1) 47 z32
  b2:Blk wr (w.heap.size+1+1) 47 (By (fb b n)).toArray
  be:Below w.heap.size w wr
def HS4.set{w wr:yp}{a:zj}{b:zu}{n:Nat}(h:HS4 w wr a b n):HS4 w (wr.setCell ⟨w.heap.size+1+1,n,none⟩ (.int .u8 ((b[n]!).toNat:Int))) a b (n+1) where
 b0:=h.b0.far (by show w.heap.size≠w.heap.size+1+1;omega) _
 b1:=h.b1.far (by show w.heap.size+1≠w.heap.size+1+1;omega) _
 b2:=by have h4:=h.b2.set n (.int .u8 ((b[n]!).toNat:Int));rw [By_set,fb_set] at h4;exact h4
 be:=h.be.setCell (by show w.heap.size<=w.heap.size+1+1;omega) _
def schash_f(n:Nat)(w:yp) :
  Calls prog 133 #[.agg (Us (ws n)).toArray] w λe w'=>e = .returned (.agg (By (Nums.bytes 32 n)).toArray)/\Below w.heap.size w w':=by
 have hbyte:∀m,m<32->((Nums.bytes 32 n)[m]!).toNat=(ws n)[m/8]! / 2^(m%8*8)%256:=λm hm=>by rw [bytes_get 32 n hm,ws_wd n (by omega),cX (m%8),wd_byte _ _ _ (by omega)];congr 3;omega
 have hbl:(Nums.bytes 32 n).length=32:=cZ _ _;have ha:=λk=>lO n (k:=k);have la:=lK n;generalize Nums.bytes 32 n=b at *;generalize ws n=a at *
 go_enter func133,ntmps133
 go_wp2
 go_loopw [5] (λi wr=>∃k:Nat,k<=32/\i = .int .i64 k/\HS4 w wr a b k) (λi _=>32-(intOf i).toNat)
 case atStart =>
  refine⟨0,by omega,rfl,blk3_0 w _ _ _ _,blk3_1 w _ _ _ _,?_,(((Below.refl _ _).alloc (aF _) _).alloc (by simp) _).alloc (by simp;omega) _⟩;rw [fb_zero];exact blk3_2 w _ _ _ _
 case round =>
  obtain⟨m,hm,rfl,hS⟩:=hrel
  by_cases hlt:m<32
  .have hN:=hS.set
   have c0:=(hS.b0.cell (m/8)).trans (Us_at (by omega));have hc:=(hS.b2.cell m).trans (By_get (by rw [fb_len];omega));have hf:=hS.b2.free m;have hb:=hbyte m hlt;have qd:(m:Int).tdiv 8=((m/8:Nat):Int):=rfl;have qm:(m:Int).tmod 8=((m%8:Nat):Int):=rfl;have qt:IntKind.i64.wrap (((m%8:Nat):Int)*8)=((m%8*8:Nat):Int):=by rw [i64_left,wrap64_in _ (by omega)];omega
   have g1:((m/8:Nat):Int)<4:=by omega
   have g2:((m%8*8:Nat):Int)<=64:=by omega
   have g5:(0:Int)<=(m:Int):=by omega
   generalize a[m/8]! = W at *;generalize m/8=q at *;generalize hs:m%8*8=s at *;have q4:IntKind.u8.wrap ((W:Int)/2^s)=((b[m]!).toNat:Int):=by
    have f1:((W:Int)/2^s)=((W/2^s:Nat):Int):=by simp
    rw [f1,pT,hb];omega
   have HN:=dW hN;clear hS hbyte hb hN hs ha;generalize (fb b m)[m]! = old at *;generalize (b[m]!).toNat=y at *;generalize m%8=r at *;go_wp2;go_roundw
   case rel=>exact⟨m+1,by omega,by go_num,HN.out⟩
   case measure=>simp [intOf];omega
  .obtain rfl:m=32:=by omega
   obtain⟨_,b1,b2,be⟩:=hS;rw [fb_all hbl] at b2;have hz:=len_by hbl;go_wp2_with (first
    | (refine wpList_load_row rfl 47 _ rfl (w.heap.size+1+1) rfl 47 (By b).toArray (0,0) _ b2 underlying47 rfl (size_hash _ hz) ?_)
    | (refine wpList_store_row rfl 47 _ _ rfl (w.heap.size+1) rfl (By b).toArray rfl 47 _ b1 (size_hash _ hz) (by rw [hz];rfl) (By_one _) ?_))
   refine bodyPost_ret (results_cell_row rfl _ _ (w.heap.size+1) 47 (By b).toArray (0,0) _ rfl (b1.row _) underlying47 rfl (size_hash _ hz)) rfl ⟨rfl,?_⟩;exact below_setRow be (by omega) _
end Go.Proofs.Q
namespace Go.Proofs.Q
open Go.RowKit Go.IntWalk
def own_wide:Own 135:=λ_ _=>by go_simp
def own_schash:Own 133:=λ_ _=>by go_simp
def own_scadd:Own 131:=λ_ _=>by go_simp
def own_scmul:Own 132:=λ_ _=>by go_simp
end Go.Proofs.Q
namespace Nums
end Nums
namespace Nums
end Nums
namespace Go.Proofs.Q
open Go.RowKit Go.IntWalk Nums
end Go.Proofs.Q
namespace Nums
end Nums
namespace Go.Proofs.Q
open Go.RowKit Go.IntWalk Nums
end Go.Proofs.Q
namespace Nums
end Nums
namespace Go.Proofs.Q
open Go.RowKit Go.IntWalk Nums
end Go.Proofs.Q
namespace Nums
def le_take{l:zu}{k:Nat}(h:k<l.length):le (l.take (k+1))=le (l.take k)+256^k*(l[k]!).toNat:=by rw [gA h,iR,aV,cA (by omega),getElem!_pos l k h];show _+_*(l[k].toNat+256*0)=_;rw [iI,cD]
def vZ{b:zu}(hb:b.length=32):decide (bytes 32 (le b%LL)=b)=decide (le b<LL):=by
 congr 1;refine propext ⟨λh=>?_,λh=>?_⟩
 .have h1:=congrArg le h;rw [jY] at h1;have h2:le b%LL<LL:=cI _ (by decide);have h3:le b%LL%256^32=le b%LL:=a7 (j3 h2 (by decide));omega
 .apply nT (by rw [cZ,hb]);rw [jY,a7 h,a7 (j3 h (by decide))]
end Nums
namespace Go.Proofs.Q
open Go.RowKit Go.IntWalk Nums
def own_next:Own 174:=λ_ _=>by go_simp
def le_cons4{l:zu}{i:Nat}(h:i+4<=l.length):le (l.drop i)=(l[i]!).toNat+256*(l[i+1]!).toNat+65536*(l[i+2]!).toNat+16777216*(l[i+3]!).toNat+4294967296*le (l.drop (i+4)):=by
 have e:∀k k',k<l.length->k'=k+1->le (l.drop k)=(l[k]!).toNat+256*le (l.drop k'):=λk k' hk h=>by rw [h,dZ hk,getElem!_pos l k hk];rfl
 have e0:=e i (i+1) (by omega) rfl;have e1:=e (i+1) (i+2) (by omega) rfl;have e2:=e (i+2) (i+3) (by omega) rfl;have e3:=e (i+3) (i+4) (by omega) rfl;rw [e0,e1,e2,e3];omega
def orL(i x y:Nat)(hx:x<2^i)(hy:y%2^i=0)(h1:x<18446744073709551616)(h2:y<18446744073709551616):bits .or .u64 (x:Int) (y:Int)=((x+y:Nat):Int):=by rw [u64_or_nat x y h1 h2,Nat.or_comm,nat_join i y x hy hx,iD]
def wide_step(X h L:Nat):(4294967296*(X%L)+1*h)%L=(h+4294967296*X)%L:=by rw [fH,iD h,gP,rV,<-gP]
def own_wred:Own 173:=λ_ _=>by go_simp
def mul_split(x Y u v L:Nat):(4294967296*((4294967296*(x*Y%L)+x*u)%L)+x*v)%L=x*(18446744073709551616*Y+(4294967296*u+v))%L:=by
 have e:x*(18446744073709551616*Y+(4294967296*u+v))=4294967296*(4294967296*(x*Y)+x*u)+x*v:=by grind only
 rw [e,gP,rV,<-gP];have e2:(4294967296*(x*Y%L)+x*u)%L=(4294967296*(x*Y)+x*u)%L:=by rw [gP,rV,<-gP]
 rw [gP (4294967296*(4294967296*(x*Y%L)+x*u)),kR,e2,<-kR,<-gP]
def own_scnew:Own 141:=λ_ _=>by go_simp
theorem le_zero:∀n,le (aB n 0)=0
 | 0=>rfl
 | n+1=>by show(0:UInt8).toNat+256*le (aB n 0)=0;rw [le_zero n];rfl
def cop_half{b:zu}(hb:b.length=32):(cop (aB 64 0) 0 b).length=64/\le (cop (aB 64 0) 0 b)=le b:=by
 have e:cop (aB 64 0) 0 b=b++aB 32 0:=by simp [cop,hb]
 rw [e];refine⟨by simp [hb],?_⟩;rw [iR,le_zero,iI,cD]
abbrev eS(n:Nat):SQ:=.p [.agg 4 (Us (ws n)).toArray]
def eS_ok(n:Nat):OkP [.agg 4 (Us (ws n)).toArray]:=eW_ok (lK n)
def mod_lt_LL(n:Nat):n%LL<LL:=cI _ (by decide)
def one_lt_LL:1<LL:=by decide
def arr4:Arr 186 4:=⟨_,underlying186,by kernel_rfl⟩
def w64:KW .u64 64:=.inl ⟨rfl,rfl⟩
def src_one{l:zu}{m:Nat}(off n:Nat):((catP [.agg m (By l).toArray]).toList.drop off).take n=By ((l.drop off).take n):=by simp [catP,Pt.cells,By,List.map_take,List.map_drop]
def all32{l:zu}{n:Nat}(h:l.length=n):(l.drop 0).take n=l:=by rw [jC,bJ (kA h)]
section
variable{b:Base}{ops:zp}{Q:zx}{N:Nat}{E:SE}{L:ze}{R:zd}{F M:zv}{rest:zo}{k:Nat}{o:Oper}
def l_copyW{d s:yo}{j off n c j2 off2 n2 c2 m:Nat}{z:zu}{ps:zb}(l:zu)(hg:o.guard=none)(hd:o.dst=some k)(hk:aU k N=true)(ho:o.op = .call { callee:=.builtin .copy,args:=#[d,s],argTypes:=#[39,39] })
 (hx:evS E d=some (.s j off n c))(hy:evS E s=some (.s j2 off2 n2 c2))(hl:lookL L j=some [.agg m (By z).toArray])(hl2:lookL L j2=some ps)(hs:((catP ps).toList.drop off2).take l.length=By l)(hz:z.length=m)(hn2:l.length=n2)(h1:l.length<=n)(h2:off+l.length<=m)
 (hn:lS prog b ops Q N rest ⟨(k,.v (.int .i64 (l.length:Int)))::E,putL L j [.agg m (By (cop z off l)).toArray],R,F,M⟩):lS prog b ops Q N (o::rest) ⟨E,L,R,F,M⟩:=λa w ⟨G,S,g1,g2,g3⟩=>by
 subst hn2;have e1:a.eval d = .slice (some ⟨G j,off,none⟩) n c:=g1.eval (evS_ok hx);have e2:a.eval s = .slice (some ⟨G j2,off2,none⟩) l.length c2:=g1.eval (evS_ok hy);obtain⟨u,hu,rfl,hps⟩:=lookL_mem hl;obtain⟨u2,hu2,rfl,hps2⟩:=lookL_mem hl2;have hb:=g3.at u hu;have hb2:=g3.at u2 hu2;rw [hps] at hb;rw [hps2] at hb2
 have hok:OkP [Pt.agg m (By (cop z off l)).toArray]:=λp hp=>by rw [aD.1 hp];exact⟨by rw [aW,By_len,cop_len (by omega),hz],By_one _⟩
 refine wpList_copy_own hg d s 39 39 ho 5 underlying39 size_u8 (G u.j) off n c ⟨G u2.j,off2,none⟩ l.length c2 e1 e2 (By z).toArray u.t hb (By l) (by rw [By_len];exact(cA h1).symm) ?_ (by rw [By_len,aW,By_len];omega) (By_one l) ?_
 .intro i v hv
  rw [cQ,hb2.cell];rw [<-hs,dT] at hv;split at hv
  .rw [List.getElem?_drop] at hv;simpa using hv
  .cases hv
 .have e:(By z).toArray.toList.take off++(By l++(By z).toArray.toList.drop (off+(By l).length))=By (cop z off l):=by
   simp [cop,By]
  rw [e,hd,By_len];exact hn _ _ ⟨G,S,g1.put hk _,g2.cons trivial,g3.set (lookL_name hl) hok⟩
end
section
variable{F:zv}[Pst F]
omit [Pst F] in
def next_C{A B h:Nat}(hA:A<LL)(hB:B<LL)(hh:h<4294967296):Ct F 174 [eS A,eS B,.c (.v (.int .u64 (h:Int)))] (one (.q (eS ((4294967296*A+B*h)%LL)))):=⟨own_next,Spec.pure (eS_ok _) λw _=>next_f hA hB hh w⟩
def or4{a b c d:Nat}(ha:a<256)(hb:b<256)(hc:c<256)(hd:d<256):bits .or .u64 (bits .or .u64 (bits .or .u64 (IntKind.u64.wrap (a:Int)) (IntKind.u64.wrap (IntKind.u64.wrap (b:Int)*2^min 8 IntKind.u64.bits))) (IntKind.u64.wrap (IntKind.u64.wrap (c:Int)*2^min 16 IntKind.u64.bits))) (IntKind.u64.wrap (IntKind.u64.wrap (d:Int)*2^min 24 IntKind.u64.bits))=((a+256*b+65536*c+16777216*d:Nat):Int):=by
 rw [wrapN a (by omega),wrapN b (by omega),wrapN c (by omega),wrapN d (by omega)];rw [show((b:Int)*2^min 8 IntKind.u64.bits)=((b*256:Nat):Int) from rfl,show((c:Int)*2^min 16 IntKind.u64.bits)=((c*65536:Nat):Int) from rfl,show((d:Int)*2^min 24 IntKind.u64.bits)=((d*16777216:Nat):Int) from rfl,wrapN _ (by omega),wrapN _ (by omega),wrapN _ (by omega),
  orL 8 _ _ (by omega) (by omega) (by omega) (by omega),orL 16 _ _ (by omega) (by omega) (by omega) (by omega),orL 24 _ _ (by omega) (by omega) (by omega) (by omega)]
 exact congrArg _ (by omega)
omit [Pst F] in
def wide_C{l:zu}(hl:l.length=64):Ct F 135 [eY 64 l] (one (.q (eS (le l%LL)))):=⟨own_wide,by
 refine zQ [eY 64 l] 41 func135 rfl (by rw [ntmps135];rfl) (one_ok (eY_ok hl).1) λB=>?_;refine zA rfl (zA rfl (zM λK1 hK1=>zA rfl (zN ?_)));let V:Nat×Int->Env:=λs=>⟨[(4,.v (.int .i64 s.2)),(1,.a 1 0),(2,.a 2 0),(3,.a 3 0)],[⟨3,none,188,[.agg 4 (Us (ws (le (l.drop (64-4*s.1))%LL))).toArray]⟩,⟨2,none,188,[.agg 4 (Us [0,0,0,0]).toArray]⟩,⟨1,none,67,[.agg 64 (By l).toArray]⟩],[],F,λ_=>True⟩;have e0:le (l.drop (64-4*0))%LL=0:=by rw [iU (by omega)];rfl
 have e3:(some ⟨3,none,188,[.agg 4 (Us [0,0,0,0]).toArray]⟩:Option LV)=some ⟨3,none,188,[.agg 4 (Us (ws (le (l.drop (64-4*0))%LL))).toArray]⟩:=by rw [e0];rfl
 refine c_weak (e':=V (0,60)) ⟨zE rfl, ⟨e3,rfl,rfl,rfl,rfl,rfl,trivial⟩,.refl _,λ_ h _=>h, zU⟩ (s_loop (λs=>16-s.1) V (λs=>s.1<=16/\s.2=60-4*(s.1:Int)) ?_ (0,60) ⟨aL _,rfl⟩);rintro⟨j,z⟩ ⟨hj,hz⟩;dsimp only at hj hz;refine zM λK2 hK2=>zA rfl ?_;refine zW (z>=0) rfl (λhge=>?_) (λhlt=>?_)
 .obtain⟨q,rfl⟩:∃q:Nat,z=(q:Int):=⟨z.toNat,by omega⟩
  have hq:q=64-4*(j+1):=by omega
  have rd:∀i,i<64->(catP [.agg 64 (By l).toArray])[0+i]?=some (.int .u8 ((l[i]!).toNat:Int)):=λi hi=>by rw [aY];exact By_get (by omega)
  have hl4:=le_cons4 (l:=l) (i:=q) (by omega);rw [show q+4=64-4*j by omega] at hl4;refine zO (hK2 _ (zM λK3 hK3=>zN ?_));refine s_N 26 [] (by kernel_rfl) λK hK G S w0 hst=>?_;refine n_auto2 hst rfl (n_cell hst rfl arr64 (by show q<64;omega) (.int .u8 ((l[q]!).toNat:Int)) (rd q (by omega)) ?_);refine n_auto2 hst rfl (n_num 15 ((q+1:Nat):Int) rfl (addI q 1 (by omega)) (n_cell hst rfl arr64 (by show q+1<64;omega) (.int .u8 ((l[q+1]!).toNat:Int)) (rd (q+1) (by omega)) ?_));refine n_auto2 hst rfl (n_num 22 ((q+2:Nat):Int) rfl (addI q 2 (by omega)) (n_cell hst rfl arr64 (by show q+2<64;omega) (.int .u8 ((l[q+2]!).toNat:Int)) (rd (q+2) (by omega)) ?_));refine n_auto2 hst rfl (n_num 29 ((q+3:Nat):Int) rfl (addI q 3 (by omega)) (n_cell hst rfl arr64 (by show q+3<64;omega) (.int .u8 ((l[q+3]!).toNat:Int)) (rd (q+3) (by omega)) ?_));refine n_auto2 hst rfl (n_num 5 _ rfl (or4 (cV _) (cV _) (cV _) (cV _)) (n_N hst rfl hK rfl ?_));have h0:=cV l[q]!;have h1:=cV l[q+1]!;have h2:=cV l[q+2]!;have h3:=cV l[q+3]!;have e1:(4294967296*(le (l.drop (64-4*j))%LL)+1*((l[q]!).toNat+256*(l[q+1]!).toNat+65536*(l[q+2]!).toNat+16777216*(l[q+3]!).toNat))%LL=le (l.drop (64-4*(j+1)))%LL:=by rw [wide_step,<-hq,hl4]
  refine s_lit (l_auto2 rfl ?_);refine l_f (.p [.agg 4 (Us [1,0,0,0]).toArray]) (eW_ok rfl) (λG S w C0 Q' _ _ hQ=>f_build [(0,.int .u64 1)] (Us [1,0,0,0]).toArray rfl rfl rfl rfl rfl (by kernel_rfl) hQ) rfl ?_;refine l_X (next_C (mod_lt_LL _) one_lt_LL (by omega)) (λ_=>rfl) rfl λ_=>?_;rw [e1];refine l_E rfl (hK3 _ (zD rfl ?_));exact zX (j+1,(q:Int)-4) ⟨by show j+1<=16;omega,by show(q:Int)-4=60-4*((j+1:Nat):Int);omega⟩ (by show 16-(j+1)<16-j;omega) ⟨⟨congrArg (λx=>some (SV.v (.int .i64 x))) (by show IntKind.i64.wrap ((q:Int)-4)=_;rw [i64_left,wrap64_in _ (by omega)]),rfl,rfl,rfl,trivial⟩,zL rfl rfl, .refl _,λ_ h _=>h,λ_ h=>h⟩
 .obtain rfl:j=16:=by omega
  refine s_exit (zS (zS (k_out (hK1 _ (zA rfl (zP ?_))))));exact zG () rfl (λ_ _ _=>trivial) λ_ _=>trivial⟩
omit [Pst F] in
def scadd_C{x y:Nat}(hx:x<LL)(hy:y<LL):Ct F 131 [eS x,eS y] (one (.q (eS ((x+y)%LL)))):=⟨own_scadd,by
 have hL:LL<2^253:=by decide
 have hs:(x+y)%115792089237316195423570985008687907853269984665640564039457584007913129639936=x+y:=a7 (by omega);obtain⟨a,b,c,d,e1,e2,ha,hb,hc,hd⟩:=oW (n:=x+y) (by omega);refine zQ [eS x,eS y] 21 func131 rfl (by rw [ntmps131];rfl) (two_ok (eS_ok x) (eS_ok y)) λB=>?_;refine zA rfl ?_;have c1:Ct F 172 [eS x,eS y] (one (.q (eW 4 [a,b,c,d]))):=⟨own_wsum,Spec.pure (eW_ok rfl) λw _=>by have h:=wsum_f (A:=x) (B:=y) (by omega) (by omega) w;rw [hs,e2] at h;exact h⟩;have c2:Ct F 173 [eW 5 [a,b,c,d,0]] (one (.q (eS ((x+y)%LL)))):=⟨own_wred,Spec.pure (eS_ok _) λw _=>by have h:=red_f ha hb hc hd (u:=0) (by decide) w;rw [iI,cD,<-e1] at h;exact h⟩;refine s_reg λK hK=>l_X c1 (λ_=>rfl) rfl λ_=>l_N hK rfl (s_reg λK hK=>l_cell rfl arr4 (aE rfl) (.int .u64 (a:Int)) rfl (l_cell rfl arr4 (aE rfl) (.int .u64 (b:Int)) rfl (l_cell rfl arr4 (aE rfl) (.int .u64 (c:Int)) rfl (l_cell rfl arr4 (aE rfl) (.int .u64 (d:Int)) rfl ?_))));refine l_f (.p [.agg 5 (Us [a,b,c,d,0]).toArray]) (eW_ok rfl) (λG S w C0 Q' _ _ hQ=>f_build ([a,b,c,d].zipIdx.map λx=>(x.2,.int .u64 ((x.1:Nat):Int))) (Us [a,b,c,d,0]).toArray rfl rfl rfl rfl rfl (by kernel_rfl) hQ) rfl ?_;refine l_X c2 (λ_=>rfl) rfl λ_=>l_N hK rfl (zP ?_);exact zG () rfl (λ_ _ _=>trivial) λ_ _=>trivial⟩
def scmul_C{x y:Nat}(hx:x<LL)(hy:y<LL):Ct F 132 [eS x,eS y] (one (.q (eS (x*y%LL)))):=⟨own_scmul,by
 have hL:LL<2^253:=by decide
 refine zQ [eS x,eS y] 28 func132 rfl (by rw [ntmps132];rfl) (two_ok (eS_ok x) (eS_ok y)) λB=>?_;refine zA rfl (zA rfl (zM λK1 hK1=>zA rfl (zN ?_)));let R:zk:=λj=>x*(y/18446744073709551616^j)%LL;let V:Nat×Int->Env:=λs=>⟨[(6,.v (.int .i64 s.2)),(2,.a 2 0),(3,.a 3 0),(4,.a 4 0),(5,.a 5 0)],[⟨5,none,188,[.agg 4 (Us (ws (R s.1))).toArray]⟩,⟨4,none,188,[.agg 4 (Us [0,0,0,0]).toArray]⟩,⟨3,none,188,[.agg 4 (Us (ws y)).toArray]⟩,⟨2,none,188,[.agg 4 (Us (ws x)).toArray]⟩],[],F,λ_=>True⟩;have e4:R 4=0:=by show x*(y/18446744073709551616^4)%LL=0;rw [Nat.div_eq_of_lt (b9 hy (by decide)),iI,Nat.zero_mod]
 have e5:(some ⟨5,none,188,[.agg 4 (Us [0,0,0,0]).toArray]⟩:Option LV)=some ⟨5,none,188,[.agg 4 (Us (ws (R 4))).toArray]⟩:=by rw [e4];rfl
 refine c_weak (e':=V (4,3)) ⟨zE rfl, ⟨e5,rfl,rfl,rfl,rfl,rfl,rfl,rfl,trivial⟩,.refl _,λ_ h _=>h, zU⟩ (s_loop (λs=>s.1) V (λs=>s.1<=4/\s.2=(s.1:Int)-1) ?_ (4,3) ⟨aF _,rfl⟩);rintro⟨j,z⟩ ⟨hj,hz⟩;dsimp only at hj hz;refine zM λK2 hK2=>zA rfl ?_;refine zW (z>=0) rfl (λhge=>?_) (λhlt=>?_)
 .obtain⟨q,rfl⟩:∃q,j=q+1:=⟨j-1,by omega⟩
  obtain rfl:z=(q:Int):=by omega
  have hw:(ws y)[q]! = wd y q:=ws_wd y (by omega);obtain⟨v,hv⟩:∃v,v=wd y q:=⟨_,rfl⟩;have hvl:v<18446744073709551616:=hv▸cI _ (by decide);have rd:(catP [.agg 4 (Us (ws y)).toArray])[0+q]?=some (.int .u64 (v:Int)):=(Us_in (by rw [lK];omega)).trans (by rw [hw,hv]);have hY:y/18446744073709551616^q=18446744073709551616*(y/18446744073709551616^(q+1))+v:=by rw [hv,cB,<-gQ];unfold wd;omega
  have hR:(4294967296*((4294967296*R (q+1)+x*(v/4294967296))%LL)+x*(v%4294967296))%LL=R q:=by show(4294967296*((4294967296*(x*(y/18446744073709551616^(q+1))%LL)+x*(v/4294967296))%LL)+x*(v%4294967296))%LL=x*(y/18446744073709551616^q)%LL;rw [mul_split,hY,show 4294967296*(v/4294967296)+v%4294967296=v by omega]
  refine zO (hK2 _ (zM λK3 hK3=>zN ?_));refine s_N 8 [] (by kernel_rfl) λK hK G S w0 hst=>?_;refine n_auto2 hst rfl (n_cell hst rfl arr4 (by show q<4;omega) (.int .u64 (v:Int)) rd ?_);refine n_auto2 hst rfl (n_num 17 ((v/4294967296:Nat):Int) rfl (w64.shr 32 (by decide)) (n_X hst (next_C (mod_lt_LL _) hx (by omega)) rfl λ_=>n_N hst rfl hK rfl ?_));refine s_drawnN 8 (by kernel_rfl) λG S w0 hst=>?_;refine n_auto2 hst rfl (n_cell hst rfl arr4 (by show q<4;omega) (.int .u64 (v:Int)) rd ?_);have hm:v%4294967296<4294967296:=cI _ (aE rfl);refine n_auto2 hst rfl (n_num 25 ((v%4294967296:Nat):Int) rfl (mask32 v hvl) (n_X hst (next_C (mod_lt_LL _) hx hm) rfl λ_=>?_));rw [hR];refine n_L hst rfl (l_E rfl (hK3 _ (zD rfl ?_)));exact zX (q,(q:Int)-1) ⟨by show q<=4;omega,rfl⟩ (jS q) ⟨⟨congrArg (λx=>some (SV.v (.int .i64 x))) (by show IntKind.i64.wrap ((q:Int)-1)=_;rw [i64_left,wrap64_in _ (by omega)]),rfl,rfl,rfl,rfl,trivial⟩,zL rfl rfl, .refl _,λ_ h _=>h,λ_ h=>h⟩
 .obtain rfl:j=0:=by omega
  have e6:R 0=x*y%LL:=by show x*(y/18446744073709551616^0)%LL=_;rw [jR,oT]
  refine s_exit (zS (zS (k_out (hK1 _ (zA rfl (zP ?_))))));rw [<-e6];exact zG () rfl (λ_ _ _=>trivial) λ_ _=>trivial⟩
omit [Pst F] in
def schash_C{n:Nat}:Ct F 133 [eS n] (one (.q (eY 32 (Nums.bytes 32 n)))):=⟨own_schash,Spec.pure (eY_ok (cZ _ _)).1 λw _=>schash_f n w⟩
def scnew_C{b:zu}(hb:b.length=32):Ct F 141 [eY 32 b] (one (.t [eS (if le b<LL then le b else 0),.c (.v (.bool (decide (le b<LL))))])):=⟨own_scnew,by
 have hl:=cop_half hb;obtain⟨c,hc⟩:∃c,c=cop z64 0 b:=⟨_,rfl⟩;have h1:c.length=64:=hc▸hl.1;have h2:le c=le b:=hc▸hl.2;refine zQ [eY 32 b] 17 func141 rfl (by rw [ntmps141];rfl) (one_ok (eY_ok hb).1) λB=>?_;refine zA rfl (zA rfl ?_);refine s_N 2 [] (by kernel_rfl) λK hK G S w0 hst=>n_L hst rfl ?_;refine l_copyW (z:=z64) (ps:=[.agg 32 (By b).toArray]) b rfl rfl rfl rfl rfl rfl rfl rfl ((src_one 0 _).trans (congrArg By (all32 rfl))) rfl hb (by rw [hb];exact aE rfl) (by rw [hb];exact aE rfl) (l_E rfl (hK _ ?_));rw [<-hc];refine s_reg λK hK=>l_X (wide_C h1) (λ_=>rfl) rfl λ_=>?_;rw [h2];refine l_N hK rfl (zM λK1 hK1=>?_);refine s_N 4 [] (by kernel_rfl) λK hK G S w0 hst=>n_X hst schash_C rfl λ_=>?_;refine n_auto2 hst rfl (n_op hst (.b (!decide (Nums.bytes 32 (le b%LL)=b))) trivial rfl rfl rfl (run_neqY rfl rfl rfl underlying47 (by kernel_rfl) (cZ _ _) hb) ?_);rw [vZ hb];refine n_N hst rfl hK rfl ?_;refine s_if (!decide (le b<LL)) rfl (λh=>?_) (λh=>?_)
 .have hq:¬le b<LL:=λhq=>by rw [decide_eq_true hq] at h;cases h
  refine zA rfl (zP ?_);rw [decide_eq_false hq,if_neg hq];exact zG () rfl (λ_ _ _=>trivial) λ_ _=>trivial
 .have hq:le b<LL:=of_decide_eq_true (by rw [Bool.not_eq_false'] at h;exact h);rw [a7 hq];refine zO (hK1 _ (zA rfl (zP ?_)));rw [decide_eq_true hq,if_pos hq];exact zG () rfl (λ_ _ _=>trivial) λ_ _=>trivial⟩
end
def wide_f{l:zu}(hl:l.length=64)(w:yp):Calls prog 135 #[.agg (By l).toArray] w λe w'=>e = .returned (.agg (Us (ws (le l%LL))).toArray)/\Below w.heap.size w w' :=
 haveI:Pst λ_:yp=>True:=⟨λ_ _ h _=>h⟩
 (wide_C (F:=λ_=>True) hl).row trivial
end Go.Proofs.Q
namespace Go.Proofs.Q
open Go.RowKit Go.IntWalk
section
variable{b:Base}{ops:zp}{Q:zx}{N:Nat}{E:SE}{L:ze}{R R':zd}{F M F':zv}{o:Oper}{rest:zo}{k:Nat}{α:Type}{post:Post α}{own:zd}{f:FuncId}{y:yo}{xs:zg}{ats:zf}{svs:yu}{caps:zq}
def callV_run{G:zk}{a:Act}{w:yp}(hf:Own f)(ho:o.op = .call { callee:=.value y,args:=xs,argTypes:=ats })(hy:evS E y=some (.v (.func (.func f) #[] caps.toArray)))(hx:evSs E xs.toList=some svs)(ha:Fr N (denE G E) a) :
  (execOp a.eval o).run prog w = .ok (.enter f (svs.map (SV.den G)++caps).toArray) w:=by
 have h1:a.eval y = .func (.func f) #[] caps.toArray:=ha.eval (evS_ok hy);have h2:=map_eval (args:=(svs.map (SV.den G)).toArray) (ha.evals _ _ (by rw [evSs_ok hx]));have h3:=hf (svs.map (SV.den G)++caps).toArray w
 have e:(svs.map (SV.den G)).toArray++caps.toArray=(svs.map (SV.den G)++caps).toArray:=by simp
 obtain⟨dst,op,ty,pos,af,gd⟩:=o;simp only at ho;subst ho
 unfold execOp
 simp only [resolve,h1,h2,Deferred.ofValue,aG,aI,aC,invoke]
 simp [e,h3]
def l_callV(args:zq)(hg:o.guard=none)(hd:o.dst=some k)(hk:aU k N=true)(hf:Own f)(ho:o.op = .call { callee:=.value y,args:=xs,argTypes:=ats })(hy:evS E y=some (.v (.func (.func f) #[] caps.toArray)))(hx:evSs E xs.toList=some svs)
 (ha:∀G:zk,(∀x∈L,∀g,x.g=some g->G x.j=g)->svs.map (SV.den G)++caps=args)(hs:Spec f args own F' post)(hF:∀w,F w->M w->F' w)
 (hn:∀x,lS prog b ops Q N rest ⟨(k,(post.ret x).sv)::E,L,post.own x++R',λw=>post.p x w/\F w,λw=>post.n x w/\M w⟩):lS prog b ops Q N (o::rest) ⟨E,L,own++R',F,M⟩:=λa w ⟨G,S,h1,h2,h3⟩=>by
 have hr:=callV_run (w:=w) hf ho hy hx h1;rw [ha G λx hx=>(h3.var x hx).2.2] at hr
 unfold wpList
 rw [if_pos (by simp [Region.wanted,hg])];refine .inl ?_
 unfold Oper.wp
 rw [hr];simp only [Oper.upon,hd];refine(h3.callA hs hF).mono ?_
 rintro e w' ⟨x,S',rfl,hok,h4⟩
 have h5:=h1.put hk (post.ret x).den;rw [<-RV.sv_den _ G] at h5;have h6:=hn x _ w' ⟨G,S',h5,h2.cons hok,h4⟩;rw [RV.sv_den] at h6;exact h6
def run_makeF{fn:Fn}{vals:zq}(ho:o.op = .makeFunc fn #[] xs)(hx:evSs E xs.toList=some svs)(hv:∀G:zk,svs.map (SV.den G)=vals) :
  ∀(G:zk) (a:Act) (w:yp),Fr N (denE G E) a->(execOp a.eval o).run prog w = .ok (.value ((SV.v (.func fn #[] vals.toArray)).den G)) w:=λG a w ha=>by
 have h2:=map_eval (args:=(svs.map (SV.den G)).toArray) (ha.evals _ _ (by rw [evSs_ok hx]));rw [hv G] at h2
 unfold execOp
 simp only [ho]
 simp [h2,Instr.makeFunc]
 rfl
end
def setRow_same{w:yp}{g t:Nat}{cs:zr}(h:Blk w g t cs):w.setRow g cs=w:=setRow_self w g cs t (0,0) h
def clr(z:zu)(o:Nat):zu:=z.take o++aB (z.length-o) 0
def clr_len{z:zu}{o:Nat}(h:o<=z.length):(clr z o).length=z.length:=by simp [clr];omega
def wpl_clear{ops:zp}{rest:zo}{op:Oper}{a:Act}{w:yp}{Q:zx}(x:yo)(hgd:op.guard=none)(ho:op.op = .call { callee:=.builtin .clear,args:=#[x],argTypes:=#[39] })
 (g o n c:Nat)(A:zt)(hx:a.eval x = .slice A n c)(hA:0<n->A=some ⟨g,o,none⟩)(z:zu)(t:Nat)(hz:Blk w g t (By z).toArray)(hn:o+n=z.length)
 (z':zu)(hz':Hid (clr z o=z'))(h:wpList prog ops Q rest (a.put op.dst (.tuple #[])) (w.setRow g (By z').toArray)):wpList prog ops Q (op::rest) a w:=by
 rw [<-hz'.out] at h;refine wpList_plain hgd λK hK=>?_
 have hrun:(rI #[39] op.type #[.slice A n c]).run prog w = .ok (.tuple #[]) (w.setRow g (By (clr z o)).toArray):=by
  by_cases h0:n=0
  .subst h0
   have e:clr z o=z:=by unfold clr;rw [<-hn,cD,fL,List.replicate_zero,bC,bJ (by omega)]
   rw [e,setRow_same hz];have hu:=underlying39;cases A<;>simp [rI,run_underlying hu]
  .obtain rfl:=hA (by omega)
   have hst:=run_storeCells_at (P:=prog) g o t (aB n (.int .u8 0)) 0 (By z).toArray w hz (by rw [bL,aW,By_len];omega) (by intro v hv;rw [List.eq_of_mem_replicate hv];rfl);have e:((By z).toArray.toList.take (o+0)++aB n (.int .u8 0)++(By z).toArray.toList.drop (o+0+(aB n (cG .u8 0)).length))=By (clr z o):=by have hd:(By z).drop (o+n)=[]:=iU (by rw [By_len];omega);simp only [bL,cD,hd,bC];unfold clr;rw [By_app,<-hn,Nat.add_sub_cancel_left];simp [By]
   rw [e] at hst;have hzc:(j1 #[.int .u8 0] n).toList=aB n (.int .u8 0):=by
    simp [j1];apply c8
    .simp
    .intro i h1 h2;simp [Nat.mod_one]
   obtain⟨m,rfl⟩:∃m,n=m+1:=⟨n-1,by omega⟩;have hu:=underlying39;simp [rI,run_underlying hu,Value.cells,hzc,hst]
 unfold Oper.wp
 simp [execOp,ho,resolve,invoke,builtin,hx,hrun,gL]
 exact hK _ _ h
end Go.Proofs.Q
namespace Go.Proofs.Q
open Go.RowKit Go.IntWalk Nums
abbrev ObB(g ty n:Nat)(b:zu):Res:=ObjS g ty [.agg n (By b).toArray]
section
variable{b:Base}{ops:zp}{Q:zx}{N n m k c c2 g ty off:Nat}{E:SE}{L:ze}{R:zd}{F M:zv}{rest:zo}{o o1 o2:Oper}{t e:yn}{x y z:yo}{K:IntKind}{bb:zu}
def catP_one(p:Pt):catP [p]=p.cells:=by rw [catP_cons];exact Array.append_empty
def obj_bytes{w:yp}{S:zm}(h:(ObB g ty n bb).holds w S):Blk w g ty (By bb).toArray:=by
 have h1:=h.1.1
 rwa [show catP [.agg n (By bb).toArray]=(By bb).toArray from catP_one _] at h1
def l_putO(i j:Nat)(v:UInt8)(hi:R[i]?=some (ObB g ty n bb))(hlen:bb.length=n)(h1:(o1.guard,o1.dst,o1.op)=(none,some k,.indexAddr t x y))(h2:(o2.guard,o2.dst,o2.op)=(none,none,.store e (.tmp k) z))(hk:aU k N=true)(hx:evS E x=some (.v (.slice (some ⟨g,0,none⟩) n c)))(hy:evS E y=some (.v (.int K (j:Int))))(hz:evS E z=some (.v (.int .u8 (v.toNat:Int))))(hf:lookS E k=none)(ht:prog.underlying t=some (.slice e))(he:(prog.info? e).map (·.size)=some 1)(hj:j<n)
 (hn:lS prog b ops Q N rest ⟨(k,.v (.pointer (some ⟨g,0+1*j,none⟩)))::E,L,R.set i (ObB g ty n (bb.set j v)),F,M⟩):lS prog b ops Q N (o1::o2::rest) ⟨E,L,R,F,M⟩:=by
 simp only [cK] at h1 h2;refine l_op (.v (.pointer (some ⟨g,0+1*j,none⟩))) trivial h1.1 h1.2.1 hk (runO_ixS j h1.2.2 ht he hx hy hj) λa w ⟨G,S,f1,f2,f3⟩=>?_;obtain⟨S1,hobj,hput⟩:=f3.put hi;have hb:=obj_bytes hobj
 have e1:a.eval (.tmp k) = .pointer (some ⟨g,j,none⟩):=by have e:=f1.get k _ (by rw [denE,look_cons,if_pos rfl]);rw [aY,fH] at e;exact e
 have e2:a.eval z = .int .u8 (v.toNat:Int):=f1.eval (evS_ok (evS_new hf hz));have hok:OkP [Pt.agg n (By (bb.set j v)).toArray]:=(eY_ok (by rw [bV,hlen])).1;have hst:=run_store_part (P:=prog) (t:=e) (v:=.int .u8 (v.toNat:Int)) (off:=j) hb (by rw [he];rfl) (by show j+1<=_;rw [aW,By_len];omega) (λu hu=>by rw [aD.1 hu];rfl)
 have ec:((By bb).toArray.toList.take j++(cG .u8 (v.toNat:Int)).cells.toList++(By bb).toArray.toList.drop (j+(cG .u8 (v.toNat:Int)).cells.size)).toArray=catP [.agg n (By (bb.set j v)).toArray]:=by rw [catP_one];apply Array.ext';show(By bb).take j++[_]++(By bb).drop (j+1)=By (bb.set j v);rw [By,By,dR,List.set_eq_take_append_cons_drop,if_pos (by rw [aX,hlen];exact hj)];simp
 rw [ec] at hst;obtain⟨S'',h6⟩:=hput (ObB g ty n (bb.set j v)) (w.setRow g (catP [.agg n (By (bb.set j v)).toArray])) S1 ((Chg.row w g _).mono λk _ hk=>(hobj.2 k).2 hk) ⟨⟨hb.row _,hok⟩,hobj.2⟩ (λk hk _=>hk)
 refine wpl_skip (w':=w.setRow g (catP [.agg n (By (bb.set j v)).toArray])) (oneS h2.1) (by unfold execOp;simp only [h2.2.2,e1,e2,hst,aG,aI,aC]) ?_
 rw [h2.2.1];exact hn _ _ ⟨G,S'',f1,f2,h6⟩
def l_clearO{A:zt}(i:Nat)(hi:R[i]?=some (ObB g ty n bb))(hlen:bb.length=n)(h1:(o.guard,o.dst,o.op)=(none,none,.call { callee:=.builtin .clear,args:=#[x],argTypes:=#[39] }))(hx:evS E x=some (.v (.slice A m c)))(hA:0<m->A=some ⟨g,off,none⟩)(hm:off+m=n)
 (hn:lS prog b ops Q N rest ⟨E,L,R.set i (ObB g ty n (clr bb off)),F,M⟩):lS prog b ops Q N (o::rest) ⟨E,L,R,F,M⟩:=λa w ⟨G,S,f1,f2,f3⟩=>by
 simp only [cK] at h1;obtain⟨S1,hobj,hput⟩:=f3.put hi;have hb:=obj_bytes hobj;have hok:OkP [Pt.agg n (By (clr bb off)).toArray]:=(eY_ok (by rw [clr_len (by omega),hlen])).1;obtain⟨S'',h6⟩:=hput (ObB g ty n (clr bb off)) (w.setRow g (By (clr bb off)).toArray) S1 ((Chg.row w g _).mono λk _ hk=>(hobj.2 k).2 hk) ⟨⟨by rw [show catP [.agg n (By (clr bb off)).toArray]=(By (clr bb off)).toArray from catP_one _];exact hb.row _,hok⟩,hobj.2⟩ (λk hk _=>hk);refine wpl_clear x h1.1 h1.2.2 g off m c A (f1.eval (evS_ok hx)) hA bb ty hb (by rw [hlen];exact hm) (clr bb off) (dW rfl) ?_;rw [h1.2.1];exact hn _ _ ⟨G,S'',f1,f2,h6⟩
def l_copyO{A:zt}{l:zu}(i:Nat)(hi:R[i]?=some (ObB g ty n bb))(hlen:bb.length=n)(h1:(o.guard,o.dst,o.op)=(none,some k,.call { callee:=.builtin .copy,args:=#[x,y],argTypes:=#[39,39] }))(hk:aU k N=true)(hx:evS E x=some (.v (.slice (some ⟨g,off,none⟩) m c)))(hy:evS E y=some (.v (.slice A l.length c2)))(hm:off+m=n)(h0:0<l.length)(hrd:∀G S w,View G S L R F M w->Rd 1 eB A c2 l w)
 (hn:lS prog b ops Q N rest ⟨(k,.v (.int .i64 ((min l.length m:Nat):Int)))::E,L,R.set i (ObB g ty n (cop bb off (l.take m))),F,M⟩):lS prog b ops Q N (o::rest) ⟨E,L,R,F,M⟩:=λa w ⟨G,S,f1,f2,f3⟩=>by
 simp only [cK] at h1;have hR:=hrd G S w f3.view;obtain⟨S1,hobj,hput⟩:=f3.put hi;have hb:=obj_bytes hobj
 have hl:(l.take m).length=min l.length m:=by rw [aV,Nat.min_comm]
 have hle:off+(l.take m).length<=bb.length:=by rw [hl];omega
 have hok:OkP [Pt.agg n (By (cop bb off (l.take m))).toArray]:=(eY_ok (by rw [cop_len hle,hlen])).1;obtain⟨S'',h6⟩:=hput (ObB g ty n (cop bb off (l.take m))) (w.setRow g (By (cop bb off (l.take m))).toArray) S1 ((Chg.row w g _).mono λk _ hk=>(hobj.2 k).2 hk) ⟨⟨by rw [show catP [.agg n (By (cop bb off (l.take m))).toArray]=(By (cop bb off (l.take m))).toArray from catP_one _];exact hb.row _,hok⟩,hobj.2⟩ (λk hk _=>hk);obtain⟨bk,oo,rfl,_,hcell⟩:=hR.2.2.2.2 h0;refine wpList_copy_own h1.1 x y 39 39 h1.2.2 5 underlying39 size_u8 g off m c ⟨bk,oo,none⟩ l.length c2 (f1.eval (evS_ok hx)) (f1.eval (evS_ok hy)) (By bb).toArray ty hb (By (l.take m)) (by rw [By_len,hl]) ?_ (by rw [By_len,aW,By_len];exact hle) (By_one _) ?_
 .intro j v hv
  obtain⟨x,hx1,rfl⟩:=By_at hv;rw [dT] at hx1;split at hx1
  .have:=hcell j x hx1 0 (.int .u8 (x.toNat:Int)) rfl;rw [cQ];simpa using this
  .cases hx1
 .have e:(By bb).toArray.toList.take off++(By (l.take m)++(By bb).toArray.toList.drop (off+(By (l.take m)).length))=By (cop bb off (l.take m)):=by
   simp [cop,By]
  rw [e,h1.2.1,By_len,hl];exact hn _ _ ⟨G,S'',f1.put hk _,f2.cons trivial,h6⟩
end
def be64_len(v:Nat):(j9 v).length=8:=by unfold j9;rw [fJ,cZ]
def be64_mod(v:Nat):j9 (v%18446744073709551616)=j9 v:=by unfold j9;congr 1;refine nT (by rw [cZ,cZ]) ?_;rw [jY,jY];exact Nat.mod_mod _ _
def be64_get{v i:Nat}(h:i<8):((j9 v)[7-i]!).toNat=v/256^i%256:=by
 have hl:(Nums.bytes 8 v).length=8:=cZ _ _;have e:(j9 v)[7-i]! = (Nums.bytes 8 v)[i]!:=by unfold j9;rw [getElem!_pos _ _ (by rw [fJ,hl];omega),List.getElem_reverse,getElem!_pos _ i (by rw [hl];exact h)];congr 1;rw [hl];omega
 rw [e,bytes_get _ _ h]
def eig(c e:zu)(n i:Nat):zu:=c.take (n-i)++e.drop (8-i)
def eig_len{c e:zu}{n i:Nat}(hc:c.length=n)(he:e.length=8)(hi:i<=8)(hn:8<=n):(eig c e n i).length=n:=by unfold eig;rw [aA,aV,cU];omega
def eig_zero{c e:zu}{n:Nat}(hc:c.length=n)(he:e.length=8):eig c e n 0=c:=by unfold eig;rw [bJ (by omega),List.drop_of_length_le (by omega),bC]
def eig_set{c e:zu}{n i:Nat}(hc:c.length=n)(he:e.length=8)(hi:i<8)(hn:8<=n):(eig c e n i).set (n-1-i) e[7-i]! = eig c e n (i+1):=by
 unfold eig;have h1:c.take (n-i)=c.take (n-(i+1))++[c[n-(i+1)]!]:=by rw [show n-i=n-(i+1)+1 by omega,gA (by omega),getElem!_pos c _ (by omega)]
 have h2:e.drop (8-(i+1))=e[7-i]! :: e.drop (8-i):=by
  rw [dZ (by omega),getElem!_pos e _ (by omega)];congr 1
  .congr 1;omega
  .congr 1;omega
 have hl:(c.take (n-(i+1))).length=n-(i+1):=by rw [aV];omega
 rw [h1,h2,aT,List.set_append_right _ _ (by omega),hl,show n-1-i-(n-(i+1))=0 by omega];rfl
def clr_set{b:zu}{n r:Nat}(hb:b.length=n)(hr:r<n):clr (b.set r 128) (r+1)=b.take r++128::aB (n-1-r) 0:=by
 unfold clr;rw [bV,hb];have h1:(b.set r 128).take (r+1)=b.take r++[128]:=by rw [gA (by rw [bV];omega),n7,List.take_set_of_le (aF r)]
 rw [h1,aT,show n-(r+1)=n-1-r by omega];rfl
def clr_all(c:zu):clr c 0=aB c.length 0:=by unfold clr;simp
def end_one{s:Sha}{b:zu}{n r v:Nat}{o:Oct}(hn:64<=n)(hb:b.length=n)(hr:r<n)(h:r+1<=n-n/8) :
  gR s o (eig (b.take r++128::aB (n-1-r) 0) (j9 v) n 8)=gJ s n o (b.take r++fQ n r v):=by
 have h8:n/8*8<=n:=Nat.div_mul_le_self n 8
 have h9:2<=n/8:=by omega
 have e:eig (b.take r++128::aB (n-1-r) 0) (j9 v) n 8=b.take r++fQ n r v:=by
  unfold eig fQ;have hl:(b.take r).length=r:=by rw [aV];omega
  rw [if_pos h,List.take_append,hl,bJ (by omega),aT,fL,jC];congr 1;rw [show n-8-r=(n-9-r)+1 by omega,List.take_succ_cons,List.take_replicate,cA (by omega),qH]
 rw [e]
 have hl:(b.take r++fQ n r v).length=n:=by rw [<-e,eig_len (by rw [aA,aV,a6,bL];omega) (be64_len _) (aF _) (by omega)]
 have h0:=iO (s:=s) (B:=n) (o:=o) (b:=b.take r++fQ n r v) (l:=[]) (by omega) hl;rw [bC] at h0;rw [h0,jM (by simp only [mF];omega)]
def end_two{s:Sha}{b:zu}{n r v:Nat}{o:Oct}(hn:64<=n)(hb:b.length=n)(hr:r<n)(h:¬r+1<=n-n/8) :
  gR s (gR s o (b.take r++128::aB (n-1-r) 0)) (eig (aB n 0) (j9 v) n 8)=gJ s n o (b.take r++fQ n r v):=by
 have hl1:(b.take r++128::aB (n-1-r) 0).length=n:=by rw [aA,aV,a6,bL];omega
 have hl2:(eig (aB n 0) (j9 v) n 8).length=n:=eig_len (bL) (be64_len _) (aF _) (by omega)
 have e:b.take r++fQ n r v=(b.take r++128::aB (n-1-r) 0)++eig (aB n 0) (j9 v) n 8:=by unfold fQ eig;rw [if_neg h,aT,qH,fL,jC,List.take_replicate,cA (by omega),<-aT (aB _ 0),List.replicate_append_replicate];congr 4;omega
 have h0:=iO (s:=s) (B:=n) (o:=gR s o (b.take r++128::aB (n-1-r) 0)) (b:=eig (aB n 0) (j9 v) n 8) (l:=[]) (by omega) hl2;rw [bC] at h0;rw [e,iO (by omega) hl1,h0,jM (by simp only [mF];omega)]
end Go.Proofs.Q
namespace Nums
def wJ{t r b:zu}{n:Nat}(ht:b.take t.length=t):(Go.Proofs.Q.cop b t.length (r.take (n-t.length))).take (t.length+min r.length (n-t.length))=t++r.take (n-t.length):=by
 unfold Go.Proofs.Q.cop;rw [ht,<-aT];have hl:(t++r.take (n-t.length)).length=t.length+min r.length (n-t.length):=by rw [aA,aV,Nat.min_comm]
 rw [<-hl,qG]
def vF{s:Sha}{n k:Nat}{o:Oct}{a z:zu}(hn:0<n)(ha:a.length=k*n)(hz:z.length=n):gR s (gJ s n o a) z=gJ s n o (a++z):=by rw [mU hn k ha];have h:=iO (s:=s) (B:=n) (o:=gJ s n o a) (b:=z) (l:=[]) hn hz;rw [bC] at h;have h2:=jM (s:=s) (B:=n) (o:=gR s (gJ s n o a) z) (l:=[]) (by simpa using hn);rw [h,h2]
def wS{s:Sha}{n k:Nat}{o:Oct}{a t x:zu}(hn:0<n)(ha:a.length=k*n):gJ s n (gJ s n o a) (t++x)=gJ s n o ((a++t)++x):=by rw [aT,mU hn k ha]
def uB(n r v:Nat):fQ n r (8*(v%18446744073709551616))=fQ n r (8*v):=by
 unfold fQ;have e:j9 (8*(v%18446744073709551616))=j9 (8*v):=by have h1:=Go.Proofs.Q.be64_mod (8*(v%18446744073709551616));have h2:=Go.Proofs.Q.be64_mod (8*v);rw [<-h1,<-h2];congr 1;omega
 rw [e]
end Nums
namespace Go.Proofs.Q
open Go.RowKit Go.IntWalk Nums
structure BK where
  s:Sha
  n:Nat
  th:yn
  tb:yn
  eo:Oct->zb
  f:FuncId
abbrev BK.R(k:BK)(gh gb:Nat)(o:Oct)(b:zu):zd:=[ObjS gh k.th (k.eo o),ObB gb k.tb k.n b]
abbrev atG(g:Nat):Value:=.pointer (some ⟨g,0,none⟩)
abbrev BK.take(k:BK)(gh gb:Nat):Value:=.func (.func k.f) #[] [atG gh,atG gb].toArray
abbrev BK.post(k:BK)(gh gb:Nat)(o:Oct):Post {b:zu // b.length=k.n}:={ ret:=λ_=>.t [],own:=λb=>k.R gh gb o b.1 }
structure BK.Ok(k:BK):Prop where
  n64:64<=k.n
  n128:k.n<=128
  own:Own k.f
  tk:∀{gh gb:Nat} {o:Oct} {b:zu},OB k.s.w o->b.length=k.n->Spec k.f [atG gh,atG gb] (k.R gh gb o b) Ts { ret:=λ_:Unit=>.t [],own:=λ_=>k.R gh gb (gR k.s o b) b }
section
variable{k:BK}{gh gb:Nat}
def end_S(hk:k.Ok){r v:Nat}{o:Oct}{b:zu}(ho:OB k.s.w o)(hb:b.length=k.n)(hr:r<k.n) :
  Spec 203 [.slice (some ⟨gb,0,none⟩) k.n k.n,.int .i64 (r:Int),.int .u64 (v:Int),k.take gh gb] (k.R gh gb o b) Ts (k.post gh gb (gJ k.s k.n o (b.take r++fQ k.n r (8*v)))):=by
 have h64:=hk.n64;have h128:=hk.n128;refine zQ [.c (.v (.slice (some ⟨gb,0,none⟩) k.n k.n)),.c (.v (.int .i64 (r:Int))),.c (.v (.int .u64 (v:Int))),.c (.v (k.take gh gb))] 48 func203 rfl (by rw [ntmps203];rfl) (more_ok trivial (more_ok trivial (two_ok trivial trivial))) λB=>?_;refine s_reg λK hK=>zB rfl (l_putO 1 r 128 rfl hb rfl rfl rfl rfl rfl rfl rfl underlying39 size_u8 hr (l_N hK rfl ?_))
 have hcut:cutA (some ⟨gb,0,none⟩) k.n (r+1)=some ⟨gb,r+1,none⟩\/k.n-(r+1)=0:=by
  unfold cutA;by_cases h:k.n=r+1
  .exact .inr (by omega)
  .rw [if_neg h];exact .inl (by rw [bS,cQ,aY])
 refine s_reg λK hK=>zB rfl (l_num 15 ((r+1:Nat):Int) rfl (addI r 1 (by omega)) (l_op (.v (.slice (cutA (some ⟨gb,0,none⟩) k.n (r+1)) (k.n-(r+1)) (k.n-(r+1)))) trivial rfl rfl rfl (run_cutLo (by omega) (aF _) (λh=>by cases h) rfl rfl rfl) ?_));refine l_clearO (off:=r+1) 1 rfl (by rw [bV,hb]) rfl rfl (λh=>hcut.resolve_right (by omega)) (by omega) ?_;rw [clr_set hb hr];refine l_N hK rfl ?_
 have hlen:∀c:zu,(b.take r++128::c).length=r+1+c.length:=λc=>by rw [aA,aV,a6,hb];omega
 have he:=be64_len (8*v);generalize hP:gJ k.s k.n o (b.take r++fQ k.n r (8*v))=P
 let V:Oct->zu->SE->Env:=λo c E=>⟨E++[(0,.v (.slice (some ⟨gb,0,none⟩) k.n k.n)),(2,.v (.int .u64 (v:Int))),(3,.v (k.take gh gb))],[],k.R gh gb o c,Ts,λ_=>True⟩
 refine zM λK1 hK1=>?_;have go:∀(o:Oct) (c:zu),OB k.s.w o->c.length=k.n->gR k.s o (eig c (j9 (8*v)) k.n 8)=P->∀e,Weak e (V o c [])->kS B K1 48 e:=λo c ho hc hend e hw=>k_weak hw (hK1 _ ?_)
 .refine s_reg λK hK=>zB rfl ?_
  refine l_eq 25 (.b (decide (r+1>k.n-k.n/8))) rfl ?_ (zJ (hK _ ?_))
  .show SV.b (decide (IntKind.i64.wrap ((r:Int)+((1:Nat):Int))>IntKind.i64.wrap ((k.n:Int)-IntKind.i64.wrap ((k.n:Int).tdiv ((8:Nat):Int)))))=_;rw [addI r 1 (by omega),wrapQ k.n 8 (by omega),subI k.n (k.n/8) (by omega) (by omega)];exact congrArg SV.b (decide_eq_decide.2 (by omega))
  refine zW (r+1>k.n-k.n/8) rfl (λhgt=>?_) (λhle=>?_)
  .have hl0:(b.take r++128::aB (k.n-1-r) 0).length=k.n:=by rw [hlen,bL];omega
   refine s_reg λK hK=>zB rfl (l_callV (own:=k.R gh gb o (b.take r++128::aB (k.n-1-r) 0)) (R':=[]) [atG gh,atG gb] rfl rfl rfl hk.own rfl rfl rfl (λ_ _=>rfl) (hk.tk ho (by rw [hlen,bL];omega)) (λw h _=>h) λ_=>l_R (k.R gh gb (gR k.s o (b.take r++128::aB (k.n-1-r) 0)) (b.take r++128::aB (k.n-1-r) 0)) rfl (l_N hK rfl ?_));refine s_lit (zB rfl (l_clearO (off:=0) 1 rfl (by rw [hlen,bL];omega) rfl rfl (λ_=>rfl) (aY _) ?_));rw [clr_all,hl0];exact l_E rfl (go _ _ (OB.gR _ _ _) bL (by rw [end_two h64 hb hr (by omega)];exact hP) _ ⟨zE rfl, trivial, .refl _,λ_ h _=>h.2, zU⟩)
  .exact zO (go _ _ ho (by rw [hlen,bL];omega) (by rw [end_one h64 hb hr (by omega)];exact hP) _ ⟨zE rfl, trivial, .refl _,λ_ h _=>h,λ_ h=>h⟩)
 .refine s_reg λK hK=>zB rfl (l_num 8 (((8*v)%18446744073709551616:Nat):Int) rfl (by
   show IntKind.u64.wrap ((v:Int)*8)=_;rw [bH];omega) (zJ (hK _ ?_)))
  have hbe:=be64_mod (8*v);rw [<-hbe] at hend;generalize (8*v)%18446744073709551616=u at *;have heu:=be64_len u;have hel:∀i,i<=8->(eig c (j9 u) k.n i).length=k.n:=λi hi=>eig_len hc heu hi (by omega);refine zM λK2 hK2=>zA rfl (zN ?_);let W:Nat->Env:=λi=>⟨[(31,.v (.int .i64 (i:Int))),(8,.v (.int .u64 ((u/256^i:Nat):Int))),(0,.v (.slice (some ⟨gb,0,none⟩) k.n k.n)),(3,.v (k.take gh gb))],[],k.R gh gb o (eig c (j9 u) k.n i),Ts,λ_=>True⟩;refine c_weak (e':=W 0) ⟨⟨rfl,congrArg (λx:Nat=>some (SV.v (.int .u64 (x:Int)))) (by rw [jR,oT]),rfl,rfl,trivial⟩,trivial,.of_eq (congrArg (k.R gh gb o) (eig_zero hc heu).symm),λ_ h _=>h,λ_ h=>h⟩ (s_loop (λi=>8-i) W (λi=>i<=8) ?_ 0 (aL _));rintro i hi;refine zA rfl (zM λK3 hK3=>?_);refine zW ((i:Int)<8) rfl (λhlt=>?_) (λhge=>?_)
  .have hlt:i<8:=by omega
   refine zO (hK3 _ (zM λK4 hK4=>zN (zA rfl ?_)));refine s_reg λK hK=>zB rfl (l_num 39 ((k.n-1-i:Nat):Int) rfl (by
    show IntKind.i64.wrap (IntKind.i64.wrap ((k.n:Int)-((1:Nat):Int))-(i:Int))=_;rw [subI k.n 1 (by omega) (by omega),subI (k.n-1) i (by omega) (by omega)]) (l_num 41 (((j9 u)[7-i]!).toNat:Int) rfl (by
    show IntKind.u8.wrap ((u/256^i:Nat):Int)=_;rw [pT,be64_get hlt];omega) ?_))
   refine l_putO 1 (k.n-1-i) ((j9 u)[7-i]!) rfl (hel i (by omega)) rfl rfl rfl rfl rfl rfl rfl underlying39 size_u8 (by omega) ?_;rw [eig_set hc heu hlt (by omega)];refine l_N hK rfl ?_;refine s_lit (l_auto2 rfl (l_num 8 ((u/256^(i+1):Nat):Int) rfl (by show qX ((u/256^i:Nat):Int) (2^min 8 IntKind.u64.bits)=_;rw [kw64.shr 8 (by decide),gQ,show(256:Nat)^i*2^8=256^(i+1) from rfl]) (zJ (hK4 _ ?_))));refine zD rfl ?_;exact zX (i+1) hlt (by omega) ⟨⟨congrArg (λx=>some (SV.v (.int .i64 x))) (addI i 1 (by omega)),rfl,rfl,rfl,trivial⟩,trivial,.refl _,λ_ h _=>h,λ_ h=>h⟩
  .obtain rfl:i=8:=by omega
   refine s_exit (zS (zS (k_out (hK2 _ ?_))));refine s_lit (zB rfl (l_callV (own:=k.R gh gb o (eig c (j9 u) k.n 8)) (R':=[]) [atG gh,atG gb] rfl rfl rfl hk.own rfl rfl rfl (λ_ _=>rfl) (hk.tk ho (hel 8 (aF _))) (λw h _=>h) λ_=>l_R (k.R gh gb P (eig c (j9 u) k.n 8)) (by rw [<-hend];rfl) (l_E rfl ?_)));exact zG ⟨eig c (j9 u) k.n 8,hel 8 (aF _)⟩ rfl (λ_ _ _=>trivial) λ_ _=>trivial
end
structure FIq(k:BK)(o0:Oct)(m:zu)(o:Oct)(c:zu)(f:Nat):Prop where
  len:c.length=k.n
  ob:OB k.s.w o
  lt:f<k.n
  so:∃a j,m=a++c.take f/\a.length=j*k.n/\o=gJ k.s k.n o0 a
section
variable{k:BK}{o0 o:Oct}{m c r:zu}{f f':Nat}
def FIq.more(h:FIq k o0 m o c f)(hq:f+min r.length (k.n-f)=f'):(cop c f (r.take (k.n-f))).length=k.n/\(cop c f (r.take (k.n-f))).take f'=c.take f++r.take (k.n-f):=by
 have h1:(c.take f).length=f:=by rw [aV,h.len];have:=h.lt;omega
 have h2:=wJ (t:=c.take f) (r:=r) (b:=c) (n:=k.n) (by rw [h1]);rw [h1,hq] at h2;exact⟨by rw [cop_len (by rw [aV,h.len];have:=h.lt;omega),h.len],h2⟩
def take_min(r:zu)(n:Nat):r.take (min r.length n)=r.take n:=by
 rcases Nat.le_total r.length n with h|h
 .rw [cA h,dA,bJ h]
 .rw [Nat.min_eq_right h]
def FIq.part(h:FIq k o0 m o c f)(hq:f+min r.length (k.n-f)≠k.n):FIq k o0 (m++r.take (min r.length (k.n-f))) o (cop c f (r.take (k.n-f))) (f+min r.length (k.n-f)):=by obtain⟨h1,h2⟩:=h.more (r:=r) rfl;obtain⟨a,j,rfl,e2,e3⟩:=h.so;refine⟨h1,h.ob,by have:=h.lt;omega,a,j,?_,e2,e3⟩;rw [h2,take_min,aT]
def FIq.full(h:FIq k o0 m o c f)(hk:k.Ok)(hq:f+min r.length (k.n-f)=k.n):FIq k o0 (m++r.take (min r.length (k.n-f))) (gR k.s o (cop c f (r.take (k.n-f)))) (cop c f (r.take (k.n-f))) 0:=by
 have h64:=hk.n64;obtain⟨h1,h2⟩:=h.more (r:=r) hq;rw [bJ (by omega)] at h2;obtain⟨a,j,rfl,e2,e3⟩:=h.so;refine⟨h1,OB.gR _ _ _,by omega,a++cop c f (r.take (k.n-f)),j+1,?_,?_,?_⟩
 .rw [take_min,List.take_zero,bC,h2,aT]
 .rw [aA,e2,h1,kT,fH]
 .rw [e3];exact vF (by omega) e2 h1
end
def fill_S{k:BK}(hk:k.Ok){gh gb:Nat}{P:zt}{pc:Nat}{ss:yr}{o0:Oct}{b:zu}(ho:OB k.s.w o0)(hb:b.length=k.n)(hn:ss.length<=9223372036854775807) :
  Spec 153 [.slice (some ⟨gb,0,none⟩) k.n k.n,.slice P ss.length pc,k.take gh gb] (k.R gh gb o0 b) (λw=>Ts w/\PartsF P pc ss w) (k.post gh gb (gJ k.s k.n o0 ((ss.map Seg.l).flatten++fQ k.n ((ss.map Seg.l).flatten.length%k.n) (8*(ss.map Seg.l).flatten.length)))):=by
 have h64:=hk.n64;have h128:=hk.n128;refine zQ [.c (.v (.slice (some ⟨gb,0,none⟩) k.n k.n)),.c (.v (.slice P ss.length pc)),.c (.v (k.take gh gb))] 48 func153 rfl (by rw [ntmps153];rfl) (more_ok trivial (two_ok trivial trivial)) λB=>?_;refine zA rfl (zM λK1 hK1=>zA rfl (zN ?_))
 let m:Nat->zu:=λi=>((ss.take i).map Seg.l).flatten
 let sz:Nat->Value:=λi=>.int .u64 (((m i).length%18446744073709551616:Nat):Int)
 let V:Nat×Nat×Oct×zu->Env:=λs=>⟨[(13,.v (.int .i64 (s.1:Int))),(12,.v (.int .i64 (ss.length:Int))),(11,.v (.slice P ss.length pc)),(6,.v (.int .i64 (s.2.1:Int))),(7,.v (sz s.1)),(0,.v (.slice (some ⟨gb,0,none⟩) k.n k.n)),(2,.v (k.take gh gb))],[],k.R gh gb s.2.2.1 s.2.2.2,λw=>Ts w/\PartsF P pc ss w,λ_=>True⟩
 refine c_weak (e':=V (0,0,o0,b)) ⟨zE rfl, trivial, .refl _,λ_ h _=>h,λ_ h=>h⟩ (s_loop (λs=>ss.length-s.1) V (λs=>s.1<=ss.length/\FIq k o0 (m s.1) s.2.2.1 s.2.2.2 s.2.1) ?_ (0,0,o0,b) ⟨aL _,hb,ho,by show 0<k.n;omega,[],0,rfl,(Nat.zero_mul _).symm,(jM (by show 0<k.n;omega)).symm⟩)
 rintro⟨i,f,o,c⟩ ⟨hi,hI⟩
 dsimp only at hi hI
 refine zA rfl (zM λK2 hK2=>?_);refine zW ((i:Int)<(ss.length:Int)) rfl (λhlt=>?_) (λhge=>?_)
 .have hlt:i<ss.length:=by omega
  obtain⟨s,hs⟩:∃s,ss[i]?=some s:=⟨_,aJ hlt⟩;have hmn:m i++s.l=m (i+1):=take_flatS hs;refine zO (hK2 _ (zM λK3 hK3=>zN ?_));refine s_reg λK hK=>l_elem (fe:=eSeg) (x:=s) zY rfl rfl rfl i rfl hs rfl rfl (λ_ _ _ hv=>hv.fact.2.1 (by omega)) (l_N hK rfl ?_);refine s_reg λK hK=>zB rfl (l_num 7 (((m (i+1)).length%18446744073709551616:Nat):Int) rfl (by show IntKind.u64.wrap ((((m i).length%18446744073709551616:Nat):Int)+IntKind.u64.wrap (s.l.length:Int))=_;rw [wrapM,kw64.sum,<-aA,hmn]) (zJ (hK _ ?_)));refine zN ?_;let W:zt×Nat×zu×Nat×Oct×zu->Env:=λs=>⟨[(9,.v (.slice s.1 s.2.2.1.length s.2.1)),(13,.v (.int .i64 (i:Int))),(12,.v (.int .i64 (ss.length:Int))),(11,.v (.slice P ss.length pc)),(6,.v (.int .i64 (s.2.2.2.1:Int))),(7,.v (sz (i+1))),(0,.v (.slice (some ⟨gb,0,none⟩) k.n k.n)),(2,.v (k.take gh gb))],[],k.R gh gb s.2.2.2.2.1 s.2.2.2.2.2,λw=>(Ts w/\PartsF P pc ss w)/\Rd 1 eB s.1 s.2.1 s.2.2.1 w,λ_=>True⟩;refine c_weak (e':=W (s.A,s.c,s.l,f,o,c)) ⟨zE rfl, trivial, .refl _,λ_ h _=>⟨h,h.2.2 s (List.mem_of_getElem? hs)⟩,λ_ h=>h⟩ (s_loop (λs=>s.2.2.1.length) W (λs=>∃d,d++s.2.2.1=m (i+1)/\FIq k o0 d s.2.2.2.2.1 s.2.2.2.2.2 s.2.2.2.1) ?_ (s.A,s.c,s.l,f,o,c) ⟨_,hmn,hI⟩);clear hI hmn;rintro⟨A,c2,r,f,o,c⟩ ⟨d,hd,hI⟩;dsimp only at hd hI;have hf:=hI.lt;refine zM λK4 hK4=>zA rfl ?_;refine zW ((r.length:Int)>0) rfl (λhgt=>?_) (λhle=>?_)
  .have h0:0<r.length:=by omega
   have hcut:cutA (some ⟨gb,0,none⟩) k.n f=some ⟨gb,f,none⟩\/False:=by unfold cutA;rw [if_neg (by omega)];exact .inl (by rw [bS,cQ,aY])
   refine zO (hK4 _ (zN ?_));refine s_reg λK hK=>zB rfl (l_op (.v (.slice (cutA (some ⟨gb,0,none⟩) k.n f) (k.n-f) (k.n-f))) trivial rfl rfl rfl (run_cutLo (by omega) (aF _) (λh=>by cases h) rfl rfl rfl) (l_eq 27 (.v (.slice (some ⟨gb,f,none⟩) (k.n-f) (k.n-f))) rfl (by rw [hcut.resolve_right id]) (zB rfl ?_)));refine l_copyO (off:=f) 1 rfl hI.len rfl rfl rfl rfl (by omega) h0 (rd_fact λw h _=>h.2) (l_N hK rfl ?_);refine s_pure (r.length<=c2/\(A=none->c2=0)) (λw h _=>⟨h.2.1,h.2.2.2.1⟩) λ⟨hc2,hA⟩=>?_;have hq:min r.length (k.n-f)<=r.length:=Nat.min_le_left _ _;have hq1:0<min r.length (k.n-f):=by omega
   have hq2:min r.length (k.n-f)<=k.n-f:=Nat.min_le_right _ _;have hpt:=λh=>hI.part (r:=r) h;have hfl:=λh=>hI.full (r:=r) hk h;generalize hmin:min r.length (k.n-f)=q at *;generalize cop c f (r.take (k.n-f))=c' at *;have hd':(d++r.take q)++r.drop q=m (i+1):=by rw [aT,b6,hd]
   have hdl:(r.drop q).length=r.length-q:=cU;refine s_reg λK hK=>zB rfl (l_op (.v (.slice (cutA A c2 q) (r.length-q) (c2-q))) trivial rfl rfl rfl (run_cutLo hq hc2 hA rfl rfl rfl) (zB rfl (zJ (hK _ ?_))));refine s_reg λK hK=>zB rfl (l_num 6 ((f+q:Nat):Int) rfl (addI f q (by omega)) (zJ (hK _ ?_)));refine zA rfl ?_;refine zW (((f+q:Nat):Int)=(k.n:Int)) rfl (λhe=>?_) (λhne=>?_)
   .have h2:=hfl (by omega);refine s_reg λK hK=>zB rfl (l_callV (own:=k.R gh gb o c') (R':=[]) [atG gh,atG gb] rfl rfl rfl hk.own rfl rfl rfl (λ_ _=>rfl) (hk.tk hI.ob h2.len) (λw h _=>h.1.1) λ_=>l_R (k.R gh gb (gR k.s o c') c') rfl (l_N hK rfl (zD rfl ?_)));exact zX (cutA A c2 q,c2-q,r.drop q,0,gR k.s o c',c') ⟨_,hd',h2⟩ (by show(r.drop q).length<r.length;omega) ⟨⟨congrArg (λx:Nat=>some (SV.v (.slice (cutA A c2 q) x (c2-q)))) hdl.symm,rfl,rfl,rfl,rfl,rfl,rfl,rfl,trivial⟩,trivial,.refl _,λ_ h _=>⟨h.2.1,h.2.2.part hq⟩,λ_ h=>trivial⟩
   .refine zO ?_;exact zX (cutA A c2 q,c2-q,r.drop q,f+q,o,c') ⟨_,hd',hpt (by omega)⟩ (by show(r.drop q).length<r.length;omega) ⟨⟨congrArg (λx:Nat=>some (SV.v (.slice (cutA A c2 q) x (c2-q)))) hdl.symm,rfl,rfl,rfl,rfl,rfl,rfl,rfl,trivial⟩,trivial,.refl _,λ_ h _=>⟨h.1,h.2.part hq⟩,λ_ h=>h⟩
  .obtain rfl:r=[]:=bE (by omega);rw [bC] at hd;subst hd;refine s_exit (zS (zS (k_out (hK3 _ (zD rfl ?_)))));exact zX (i+1,f,o,c) ⟨hlt,hI⟩ (by show ss.length-(i+1)<ss.length-i;omega) ⟨⟨congrArg (λx=>some (SV.v (.int .i64 x))) (addI i 1 (by omega)),rfl,rfl,rfl,rfl,rfl,rfl,trivial⟩,trivial,.refl _,λ_ h _=>h.1,λ_ h=>h⟩
 .obtain rfl:i=ss.length:=by omega
  obtain⟨a,j,e1,e2,e3⟩:=hI.so;have hM:m ss.length=(ss.map Seg.l).flatten:=by show((ss.take ss.length).map Seg.l).flatten=_;rw [dA]
  have hf:(ss.map Seg.l).flatten.length%k.n=f:=by rw [<-hM,e1,aA,aV,hI.len,e2,cA (tG hI.lt),iD,Nat.add_mul_mod_self_right,a7 hI.lt]
  have hend:gJ k.s k.n o (c.take f++fQ k.n f (8*((m ss.length).length%18446744073709551616)))=gJ k.s k.n o0 ((ss.map Seg.l).flatten++fQ k.n ((ss.map Seg.l).flatten.length%k.n) (8*(ss.map Seg.l).flatten.length)):=by rw [uB,hf,e3,wS (by omega) e2,<-e1,hM]
  refine s_exit (zS (zS (k_out (hK1 _ ?_))));refine s_lit (zB rfl (zI (own:=k.R gh gb o c) (R':=[]) [.slice (some ⟨gb,0,none⟩) k.n k.n,.int .i64 (f:Int),sz ss.length,k.take gh gb] (λ_ _=>by go_simp) rfl (end_S hk hI.ob hI.len hI.lt) (λw h _=>h.1) λb'=>l_R (k.R gh gb (gJ k.s k.n o0 ((ss.map Seg.l).flatten++fQ k.n ((ss.map Seg.l).flatten.length%k.n) (8*(ss.map Seg.l).flatten.length))) b'.1) (by rw [<-hend];rfl) (l_E rfl ?_)));exact zG b' rfl (λ_ _ _=>trivial) λ_ _=>trivial
end Go.Proofs.Q
namespace Nums
def pf(D:zu)(p:Nat->Bool):zu:=(dV D.length).map λm=>if p m then D[m]! else 0
def vU(D:zu)(p:Nat->Bool):(pf D p).length=D.length:=by simp [pf]
def oF{D:zu}{p q:Nat->Bool}(h:∀m,m<D.length->p m=q m):pf D p=pf D q:=by
 apply c8 (by simp [pf]);intro i h1 h2;have hi:i<D.length:=by simpa [pf] using h1
 simp [pf,h i hi]
def vT{D:zu}{p q:Nat->Bool}{k:Nat}(h:∀m,m<D.length->q m=(p m||decide (m=k))):(pf D p).set k D[k]! = pf D q:=by
 apply c8 (by simp [pf]);intro i h1 h2;have hi:i<D.length:=by simpa [pf] using h2
 rw [oP];by_cases e:k=i
 .subst e;simp [pf,h k hi]
 .rw [if_neg e];have e2:decide (i=k)=false:=decide_eq_false (λh=>e h.symm);simp [pf,h i hi,e2]
def vV{D:zu}{p:Nat->Bool}(h:∀m,m<D.length->p m=true):pf D p=D:=by apply c8 (by simp [pf]);intro i h1 h2;simp [pf,h i h2,h2]
def tR{D:zu}{p:Nat->Bool}(h:∀m,m<D.length->p m=false):pf D p=aB D.length 0:=by
 apply c8 (by simp [pf]);intro i h1 h2;have hi:i<D.length:=by simpa [pf] using h1
 simp [pf,h i hi]
theorem flat_get{n:Nat}(f:Nat->zu)(hf:∀x,(f x).length=n):∀(l:zj) {i j:Nat},i<l.length->j<n->((l.map f).flatten)[n*i+j]! = (f l[i]!)[j]!
 | [],i,_,h,_=>absurd h (by simp)
 | x::l,0,j,_,hj=>by
  rw [bA,eG,iI,aY];have h1:j<(f x).length:=by rw [hf];exact hj
  rw [getElem!_pos (f x++(l.map f).flatten) j (by rw [aA];omega),List.getElem_append_left h1];exact(getElem!_pos (f x) j h1).symm
 | x::l,i+1,j,h,hj=>by
  have ih:=flat_get f hf l (i:=i) (j:=j) (by simpa using h) hj;have e:((x::l).map f).flatten=f x++(l.map f).flatten:=by rw [bA,eG]
  have e2:(x::l)[i+1]! = l[i]!:=rfl;rw [e2,<-ih,e];have hx:=hf x;have hi:n*(i+1)+j=(f x).length+(n*i+j):=by rw [hx,mD];omega
  rw [hi];by_cases hb:n*i+j<(l.map f).flatten.length
  .rw [getElem!_pos (l.map f).flatten _ hb,getElem!_pos (f x++(l.map f).flatten) _ (by rw [aA];omega),List.getElem_append_right (by omega)];congr 1;omega
  .rw [getElem!_neg (l.map f).flatten _ hb,getElem!_neg (f x++(l.map f).flatten) _ (by rw [aA];omega)]
theorem lV{n:Nat}(f:Nat->zu)(hf:∀x,(f x).length=n):∀(l:zj),((l.map f).flatten).length=n*l.length
 | []=>rfl
 | x::l=>by rw [bA,eG,aA,hf,lV f hf l,a6,mD];omega
def lT(s:Sha)(x:Nat):(jZ s x).length=s.w/8:=by unfold jZ;rw [fJ,cZ]
end Nums
namespace Go.Proofs.Q
open Go.RowKit Go.IntWalk Nums
def layw_get{s:Sha}{x j:Nat}(h:j<s.w/8):((jZ s x)[s.w/8-1-j]!).toNat=x/256^j%256:=by
 have hl:(Nums.bytes (s.w/8) x).length=s.w/8:=cZ _ _;have e:(jZ s x)[s.w/8-1-j]! = (Nums.bytes (s.w/8) x)[j]!:=by unfold jZ;rw [getElem!_pos _ _ (by rw [fJ,hl];omega),List.getElem_reverse,getElem!_pos _ j (by rw [hl];exact h)];congr 1;rw [hl];omega
 rw [e,bytes_get _ _ h]
def size_b64(cs:zr)(h:cs.size=64):(prog.info? 67).map (·.size)=some cs.size:=by rw [h];kernel_rfl
def z64b:zu:=aB 64 0
def zb64:(prog.info? 67).bind (λi=>i.zero.map (·.cells))=some (By z64b).toArray:=by kernel_rfl
structure LY(w wr:yp)(cs:zr)(m:zu):Prop where
  b0:Blk wr w.heap.size 284 cs
  b1:Blk wr (w.heap.size+1) 67 (By z64b).toArray
  b2:Blk wr (w.heap.size+1+1) 67 (By m).toArray
  be:Below w.heap.size w wr
def LY.set{w wr:yp}{cs:zr}{m:zu}(h:LY w wr cs m)(k:Nat)(x:UInt8):LY w (wr.setCell ⟨w.heap.size+1+1,k,none⟩ (.int .u8 (x.toNat:Int))) cs (m.set k x) where
 b0:=h.b0.far (by show w.heap.size≠w.heap.size+1+1;omega) _
 b1:=h.b1.far (by show w.heap.size+1≠w.heap.size+1+1;omega) _
 b2:=by have h4:=h.b2.set k (.int .u8 (x.toNat:Int));rw [By_set] at h4;exact h4
 be:=h.be.setCell (by show w.heap.size<=w.heap.size+1+1;omega) _
def lay512_f{l:zj}(hl:l.length=8)(hw:∀x∈l,x<18446744073709551616)(w:yp) :
  Calls prog 177 #[.agg (Us l).toArray] w λe w'=>e = .returned (.agg (By (l.map (jZ eK)).flatten).toArray)/\Below w.heap.size w w':=by
 have hD:=lV (jZ eK) (n:=8) (λx=>lT eK x) l;rw [hl] at hD
 have hg:∀i j,i<8->j<8->(((l.map (jZ eK)).flatten)[8*i+7-j]!).toNat=l[i]! / 256^j%256:=λi j hi hj=>by have h1:=flat_get (jZ eK) (n:=8) (λx=>lT eK x) l (i:=i) (j:=7-j) (by omega) (by omega);rw [show 8*i+7-j=8*i+(7-j) by omega,h1];exact layw_get (s:=eK) (j:=j) hj
 have hzs:(Us l).toArray.size=8:=by rw [aW,Us_len,hl]
 have hix:∀i,i<8->∀w1,(Instr.index 284 (.agg (Us l).toArray) (.int .i64 ((i:Nat):Int))).run prog w1 = .ok (.int .u64 (l[i]! : Nat)) w1:=λi hi w1=>by
  have h0:(Us l).toArray[i]?=some (.int .u64 (l[i]! : Nat)):=Us_at (by omega);have h1:((i:Nat):Int)<8:=by omega
  have h2:(0:Int)<=(i:Nat):=by omega
  generalize l[i]! = c at *;generalize (Us l).toArray=cs at *;unfold Instr.index Go.part;go_simp;obtain⟨_,h⟩:=Array.getElem?_eq_some_iff.1 h0;exact h
 have hwl:∀i,i<8->l[i]! < 18446744073709551616:=λi hi=>by rw [getElem!_pos l i (by omega)];exact hw _ (iF _)
 generalize (l.map (jZ eK)).flatten=D at *;generalize (Us l).toArray=cs at *
 go_enter func177,ntmps177
 refine wp_seq_k λK hK=>wp_region_lit (wpl_box cs rfl rfl rfl (wpl_alloc (zs:=(By z64b).toArray) rfl rfl zb64 (wpl_nil ?_)))
 go_simp
 refine hK _ _ ?_;clear hK K;refine wp_seq_k λK hK=>wp_region_lit (wpl_alloc (zs:=(By z64b).toArray) rfl rfl zb64 (wpl_nil ?_))
 go_simp
 refine hK _ _ ?_;clear hK K;refine wp_at (λW=>LY w W cs z64b) ⟨blk3_0 w _ _ _ _,blk3_1 w _ _ _ _,blk3_2 w _ _ _ _,(((Below.refl _ _).alloc (aF _) _).alloc (by simp) _).alloc (by simp;omega) _⟩ ?_
 intro W hW
 have k0:=hW.b0;have HW:=dW hW;clear hW
 go_wp2_with (refine wpList_load_row rfl 284 _ rfl w.heap.size rfl 284 cs (0,0) _ k0 underlying284 rfl (size_w8 _ hzs) ?_)
 clear k0
 go_loopw [8] (λi wr=>∃t:Nat,t<=8/\i = .int .i64 t/\LY w wr cs (pf D λm=>decide (m<8*t))) (λi _=>8-(intOf i).toNat)
 case atStart =>
  refine⟨0,by omega,rfl,?_⟩;rw [tR (λm _=>decide_eq_false (by omega)),hD];exact HW.out
 case round =>
  clear HW;obtain⟨t,ht,rfl,hS⟩:=hrel
  by_cases htl:t<8
  .have hi:=hix t htl
   have hx:=hwl t htl;have hby:=λj hj=>hg t j htl hj;generalize l[t]! = x at *;have g4:(0:Int)<=(t:Int):=by omega
   have HS:=dW hS;clear hS hg hix hwl;go_wp2;go_loopw [12,5] (λj v wq=>∃n:Nat,n<=8/\j = .int .i64 n/\v = .int .u64 ((x/256^n:Nat):Int)/\LY w wq cs (pf D λm=>decide (m<8*t\/8*t+8-n<=m/\m<8*t+8))) (λj _ _=>8-(intOf j).toNat)
   case atStart =>
    refine⟨0,by omega,rfl,by rw [jR,oT],?_⟩;rw [oF (q:=λm=>decide (m<8*t)) (λm _=>decide_eq_decide.2 (by omega))];exact HS.out
   case round =>
    clear HS;obtain⟨n,hn,rfl,rfl,hS⟩:=hrel
    by_cases hnl:n<8
    .have hN:=hS.set (8*t+7-n) D[8*t+7-n]!
     rw [vT (q:=λm=>decide (m<8*t\/8*t+8-(n+1)<=m/\m<8*t+8)) (λm _=>by rw [<-Bool.decide_or];exact decide_eq_decide.2 (by omega))] at hN;have hb:=hby n hnl;have hdiv:x/256^(n+1)=x/256^n/256:=by rw [cB,gQ]
     have hle:x/256^n<18446744073709551616:=dC (gM _ _) hx;have c2:=(hS.b2.cell (8*t+7-n)).trans (By_get (by rw [vU,hD];omega));have f2:=hS.b2.free (8*t+7-n);generalize x/256^n=y at *;have q4:IntKind.u8.wrap (y:Int)=((D[8*t+7-n]!).toNat:Int):=by rw [pT,hb];omega
     have g5:(0:Int)<=(n:Int):=by omega
     have q5:(y:Int)/256=((y/256:Nat):Int):=by omega
     have HN:=dW (fF hN hdiv);clear hS hN hdiv hb hby hi;generalize (D[8*t+7-n]!).toNat=v at *;generalize ((pf D λm=>decide (m<8*t\/8*t+8-n<=m/\m<8*t+8))[8*t+7-n]!).toNat=old at *;generalize y/256=y2 at *;go_wp2;go_roundw
     case rel =>
      obtain⟨hN,hdiv⟩:=HN.out;refine⟨n+1,by omega,by go_num,by rw [hdiv],hN⟩
     case measure=>simp [intOf];omega
    .obtain rfl:n=8:=by omega
     rw [oF (q:=λm=>decide (m<8*(t+1))) (λm _=>decide_eq_decide.2 (by omega))] at hS;have HS:=dW hS;clear hS;go_wp2;go_roundw
     case rel=>exact⟨t+1,by omega,by go_num,HS.out⟩
     case measure=>simp [intOf];omega
  .obtain rfl:t=8:=by omega
   rw [vV (λm hm=>decide_eq_true (by omega))] at hS;obtain⟨b0,b1,b2,be⟩:=hS;have hz:(By D).toArray.size=64:=by rw [aW,By_len,hD]
   clear b0;go_wp2_with (first
    | (refine wpList_load_row rfl 67 _ rfl (w.heap.size+1+1) rfl 67 (By D).toArray (0,0) _ b2 underlying67 rfl (size_b64 _ hz) ?_)
    | (refine wpList_store_row rfl 67 _ _ rfl (w.heap.size+1) rfl (By D).toArray rfl 67 _ b1 (size_b64 _ hz) (by rw [hz];rfl) (By_one _) ?_))
   refine bodyPost_ret (results_cell_row rfl _ _ (w.heap.size+1) 67 (By D).toArray (0,0) _ rfl (b1.row _) underlying67 rfl (size_b64 _ hz)) rfl ⟨rfl,?_⟩;exact below_setRow be (by omega) _
end Go.Proofs.Q
namespace Go.Proofs.Q
open Go.RowKit Go.IntWalk
def own_join:Own 68:=λ_ _=>by go_simp
def join_S{A:zt}{c:Nat}(ss:yr)(ht:(ss.map Seg.l).flatten.length<=281474976710656):Spec 68 [.slice A ss.length c] [] (λw=>Rd 1 eSeg A c ss w/\∀s∈ss,s.rd w)
  { ret:=λg:Nat=>.v (.slice (some ⟨g,0,none⟩) (ss.map Seg.l).flatten.length (ss.map Seg.l).flatten.length),n:=λg=>Rd 1 eB (some ⟨g,0,none⟩) (ss.map Seg.l).flatten.length (ss.map Seg.l).flatten }:=λw S X hS _ hF=>by
 obtain⟨h1,h2⟩:=hF.now;have hj:=join_any A (ss.map Seg.l) c w.heap.size w (parts_of h1 h2) (aF _) (by rw [aX];exact h1.1) h1.2.1 ht;rw [aX] at hj;refine hj.mono ?_
 rintro e w' ⟨he,ho,hb⟩
 refine⟨w.heap.size,S,he,trivial,Chg.of_up hb,hS.keep λk hk=>hb.block k (hS.lt k hk),λ_ h _=>h,λ_ _=>trivial,?_⟩;have h3:(OwnS w.heap.size 5 1 eB (some ⟨w.heap.size,0,none⟩) (ss.map Seg.l).flatten.length (ss.map Seg.l).flatten).holds w' λj=>(some (⟨w.heap.size,0,none⟩:Addr)).map (·.block)=some j:=⟨okF_B _,by rw [flat_B];exact ho,λ_=>Iff.rfl⟩;have h4:=OwnS.rd h3
 intro w2 hw2
 refine h4.keep hw2.size λb' e hlt=>hw2.block b' hlt ?_;simp only [bS,a8] at e;subst e
 rintro(h5|h5)
 .exact gG _ h5
 .exact gG _ (hS.lt _ h5)
def rpW(A:zt)(c:Nat)(s:Rds):zb:=[.one (.v (.slice A s.1.length c)),.one (.v (.int .i64 (s.2:Int)))]
abbrev RdrS(g:Nat)(A:zt)(c:Nat)(s:Rds):Res:=ObjS g 220 (rpW A c s)
abbrev TX:=zt×Nat×zt×Nat
abbrev RX:=zt×Nat
def own_take:Own 115:=λ_ _=>by go_simp
def take_S(g:Nat){A:zt}{c:Nat}(s:Rds)(k:Nat):Spec 115 [ptr g,.int .i64 (k:Int)] [RdrS g A c s] (Rd 1 eB A c s.1)
  { ret:=λx:TX=>.v (.slice x.1 (tkO k s).length x.2.1),own:=λx=>[RdrS g x.2.2.1 x.2.2.2 (tkS k s)],p:=λx w=>Rd 1 eB x.1 x.2.1 (tkO k s) w/\Rd 1 eB x.2.2.1 x.2.2.2 (tkS k s).1 w }:=by
 refine zQ [.c (.v (ptr g)),.c (.v (.int .i64 (k:Int)))] 41 func115 rfl (by rw [ntmps115];rfl) (two_ok trivial trivial) λb=>?_;refine s_pure (s.1.length<=c/\(A=none->c=0)/\c<=9223372036854775807) (λw h _=>⟨h.1,h.2.2.1,h.2.1⟩) λ⟨hlc,hA,hcm⟩=>?_;refine zA rfl (zM λK hK=>zC rfl λK1 hK1=>zZ rfl (obj_own 0 rfl) (zB rfl (zJ (hK1 _ ?_))));refine zW ((s.2:Int)≠0) rfl (λh0=>?_) (λh0=>?_)
 .have h0:s.2≠0:=by omega
  obtain⟨e1,e2⟩:=tk_stick (k:=k) h0;refine zA rfl ?_;exact zP (zR zY (none,0,A,c) rfl (by decide) rfl (by rw [e1];rfl) (by rw [e2]) (λw hF _=>by rw [e1,e2];exact⟨Rd.nil _ _ _,hF⟩) zU)
 have h0:s.2=0:=by omega
 refine zO (hK _ (zM λK2 hK2=>zC rfl λK3 hK3=>zZ rfl (obj_own 0 rfl) (zB rfl (zJ (hK3 _ ?_)))));refine zW ((k:Int)>(s.1.length:Int)) rfl (λh1=>?_) (λh1=>?_)
 .obtain⟨e1,e2⟩:=tk_less (k:=k) h0 (by omega);refine zC rfl λK4 hK4=>l_stO zY 0 rfl rfl rfl rfl rfl rfl rfl (zJ (hK4 _ (zA rfl ?_)));exact zP (zR zY (none,0,A,c) rfl (by decide) rfl (by rw [e1];rfl) (by rw [e2];rfl) (λw hF _=>by rw [e1,e2];exact⟨Rd.nil _ _ _,hF⟩) zU)
 have hkl:k<=s.1.length:=by omega
 obtain⟨e1,e2⟩:=tk_take (k:=k) h0 hkl;refine zO (hK2 _ (zC rfl λK5 hK5=>zZ rfl (obj_own 0 rfl) (zB rfl ?_)));refine l_op (.v (.slice A k c)) trivial rfl rfl rfl (run_cutHi (sz:=1) rfl (by omega) hA rfl underlying39 rfl rfl) ?_;refine zB rfl (zJ (hK5 _ (zC rfl λK6 hK6=>zZ rfl (obj_own 0 rfl) (zB rfl (l_op (.v (.slice (cutA A c k) (s.1.length-k) (c-k))) trivial rfl rfl rfl (run_cutLo hkl hlc hA rfl rfl rfl) (zB rfl (l_stO zY 0 rfl rfl rfl rfl rfl rfl rfl (zJ (hK6 _ (zA rfl ?_))))))))));exact zP (zR zY (A,c,cutA A c k,c-k) rfl (by decide) rfl (by rw [e1,aV,cA hkl];rfl) (by rw [e2];dsimp only [RdrS,rpW];rw [cU,h0];rfl) (λw hF _=>by rw [e1,e2];exact⟨hF.take k,hF.part hkl⟩) zU)
def run_shl8{N:Nat}{E:SE}{o:Oper}{x:yo}{t':yn}{m:Int}(ho:o.op = .binOp .shl 96 x (.const (.int .u64 8)) t')(hx:evS E x=some (.v (.int .u64 m))) :
  ∀(G:zk) (a:Act) (w:yp),Fr N (denE G E) a->(execOp a.eval o).run prog w = .ok (.value ((SV.v (.int .u64 (IntKind.u64.wrap (m*256)))).den G)) w:=λG a w ha=>by
 have h1:a.eval x = .int .u64 m:=ha.eval (evS_ok hx)
 unfold execOp
 simp only [ho,h1]
 show _=mQ (mB (.int .u64 (IntKind.u64.wrap (m*256)))) w
 go_simp
def run_orU{N:Nat}{E:SE}{o:Oper}{x y:yo}{t':yn}{m n:Int}(ho:o.op = .binOp .or 96 x y t')(hx:evS E x=some (.v (.int .u64 m)))(hy:evS E y=some (.v (.int .u64 n))) :
  ∀(G:zk) (a:Act) (w:yp),Fr N (denE G E) a->(execOp a.eval o).run prog w = .ok (.value ((SV.v (.int .u64 (bits .or .u64 m n))).den G)) w:=λG a w ha=>by
 have h1:a.eval x = .int .u64 m:=ha.eval (evS_ok hx);have h2:a.eval y = .int .u64 n:=ha.eval (evS_ok hy)
 unfold execOp
 simp only [ho,h1,h2]
 go_simp
 rfl
def bits_step8(a:Nat)(x:UInt8):bits BinOp.or IntKind.u64 (IntKind.u64.wrap ((a:Int)*256)) (IntKind.u64.wrap (x.toNat:Int))=(step a x:Int):=by
 have hx:x.toNat<256:=x.toNat_lt;have e1:IntKind.u64.wrap ((a:Int)*256)=((a*256%18446744073709551616:Nat):Int):=by simp [uR,qI,oQ]
 have e2:IntKind.u64.wrap (x.toNat:Int)=((x.toNat:Nat):Int):=by simp [uR,qI,oQ];omega
 rw [e1,e2,u64_or_nat _ _ (cI _ (by omega)) (by omega),nat_join 8 _ _ (by omega) (by omega)];unfold step;omega
def val_next{l:zu}{i:Nat}{x:UInt8}(h:l[i]?=some x):val (l.take (i+1))=step (val (l.take i)) x:=by rw [dO,h];exact val_snoc _ _
def worth_S{A:zt}{c:Nat}(l:zu):Spec 206 [.slice A l.length c] [] (Rd 1 eB A c l) (one (.v (.int .u64 (val l:Int)))):=by
 refine zQ [.c (.v (.slice A l.length c))] 19 func206 rfl (by rw [ntmps206];rfl) (one_ok trivial) λb=>?_;refine s_pure (l.length<=9223372036854775807) (λw h _=>bM h.1 h.2.1) λhl=>?_;refine zA rfl (zA rfl (zM λK hK=>zA rfl (zN ?_)));let F:Nat->Env:=λi=>⟨[(8,.v (.int .i64 (i:Int))),(7,.v (.int .i64 (l.length:Int))),(6,.v (.slice A l.length c)),(3,.v (.int .u64 (val (l.take i):Int)))],[],[],Rd 1 eB A c l,λ_=>True⟩;refine c_weak (e':=F 0) ⟨zE rfl, trivial, .refl _,λ_ h _=>h,λ_ h=>h⟩ (s_loop (λi=>l.length-i) F (λi=>i<=l.length) ?_ 0 (aL _));intro i hi;refine zA rfl (zM λK1 hK1=>?_);refine zW ((i:Int)<(l.length:Int)) rfl (λhlt=>?_) (λhge=>?_)
 .have hlt:i<l.length:=by omega
  obtain⟨x,hx⟩:∃x,l[i]?=some x:=⟨_,aJ hlt⟩;have hv:=val_next hx;refine zO (hK1 _ (zM λK2 hK2=>zN (zC rfl λK3 hK3=>l_elem zY rfl rfl rfl i rfl hx rfl rfl (rd_fact λw h _=>h) (zB rfl (zJ (hK3 _ (s_lit (zB rfl (l_op (.v (.int .u64 (IntKind.u64.wrap ((val (l.take i):Int)*256)))) trivial rfl rfl rfl (run_shl8 rfl rfl) (zB rfl ?_))))))))));refine l_op (.v (.int .u64 (val (l.take (i+1)):Int))) trivial rfl rfl rfl (by rw [hv,<-bits_step8];exact run_orU rfl rfl rfl) ?_;refine zB rfl (zJ (hK2 _ (zD rfl ?_)));exact zX (i+1) hlt (by omega) ⟨⟨congrArg some (congrArg SV.v (congrArg (cG .i64) (wrapI rfl (by omega) (by omega)))),rfl,rfl,rfl,trivial⟩,trivial,.refl _,λ_ h _=>h,λ_ h=>h⟩
 .obtain rfl:l.length=i:=by omega
  refine s_exit (zS (zS (k_out (hK _ ?_))));rw [dA];refine zA rfl ?_;exact zP (zG () rfl (λ_ _ _=>trivial) zU)
def rnum_S(g:Nat){A:zt}{c:Nat}(s:Rds):Spec 157 [ptr g] [RdrS g A c s] (Rd 1 eB A c s.1)
  { ret:=λ_:RX=>.v (.int .u64 (nuO s:Int)),own:=λx=>[RdrS g x.1 x.2 (nuS s)],p:=λx=>Rd 1 eB x.1 x.2 (nuS s).1 }:=by
 refine zQ [.c (.v (ptr g))] 6 func157 rfl (by rw [ntmps157];rfl) (one_ok trivial) λb=>?_;refine zA rfl (zC rfl λK1 hK1=>zI [ptr g,.int .i64 ((8:Nat):Int)] own_take rfl (take_S g s 8) (λw h _=>h) λ⟨A1,c1,A2,c2⟩=>l_R [RdrS g A2 c2 (nuS s)] rfl ?_);refine z6 [.slice A1 (tkO 8 s).length c1] (λ_ _=>by go_simp) rfl (worth_S (tkO 8 s)) (λw h _=>h.1.1) λ_=>?_;refine zB rfl (zJ (hK1 _ ?_));exact zP (zG (A2,c2) rfl (λw h _=>h.2.1.2) zU)
def rmost_S(g:Nat){A:zt}{c:Nat}(s:Rds)(m:Nat)(hm:m<=9223372036854775807):Spec 116 [ptr g,.int .u64 (m:Int)] [RdrS g A c s] (Rd 1 eB A c s.1)
  { ret:=λ_:RX=>.v (.int .i64 (moO m s:Int)),own:=λx=>[RdrS g x.1 x.2 (moS m s)],p:=λx=>Rd 1 eB x.1 x.2 (moS m s).1 }:=by
 refine zQ [.c (.v (ptr g)),.c (.v (.int .u64 (m:Int)))] 16 func116 rfl (by rw [ntmps116];rfl) (two_ok trivial trivial) λb=>?_;refine zA rfl (zC rfl λK1 hK1=>?_);refine zI [ptr g] (λ_ _=>by go_simp) rfl (rnum_S g s) (λw h _=>h) λ⟨A2,c2⟩=>?_;refine l_R [RdrS g A2 c2 (nuS s)] rfl (zB rfl (zJ (hK1 _ (zM λK2 hK2=>zA rfl ?_))));refine zW ((nuO s:Int)>(m:Int)) rfl (λh1=>?_) (λh1=>?_)
 .have e1:moO m s=0:=if_pos (by omega);have e2:moS m s=((nuS s).1,12):=if_pos (by omega);refine zC rfl λK4 hK4=>l_stO zY 0 rfl rfl rfl rfl rfl rfl rfl (zJ (hK4 _ (zA rfl ?_)));exact zP (zR zY (A2,c2) rfl (by decide) rfl (by rw [e1];rfl) (by rw [e2];rfl) (λw h _=>by rw [e2];exact h.1) zU)
 .have e1:moO m s=nuO s:=if_neg (by omega);have e2:moS m s=nuS s:=if_neg (by omega);refine zO (hK2 _ (zC rfl λK4 hK4=>?_));refine l_num 4 (nuO s:Int) rfl (wrapI rfl (by omega) (by omega)) ?_;refine zJ (hK4 _ ?_);exact zP (zR zY (A2,c2) rfl (by decide) rfl (by rw [e1];rfl) (by rw [e2]) (λw h _=>by rw [e2];exact h.1) zU)
def rcount_S(g:Nat){A:zt}{c:Nat}(s:Rds):Spec 79 [ptr g] [RdrS g A c s] (Rd 1 eB A c s.1)
  { ret:=λ_:RX=>.v (.int .i64 (moO 65536 s:Int)),own:=λx=>[RdrS g x.1 x.2 (moS 65536 s)],p:=λx=>Rd 1 eB x.1 x.2 (moS 65536 s).1 }:=by
 refine zQ [.c (.v (ptr g))] 5 func79 rfl (by rw [ntmps79];rfl) (one_ok trivial) λb=>?_;refine zA rfl (zC rfl λK1 hK1=>?_);refine zI [ptr g,.int .u64 ((65536:Nat):Int)] (λ_ _=>by go_simp) rfl (rmost_S g s 65536 (by decide)) (λw h _=>h) λ⟨A2,c2⟩=>?_;refine zB rfl (zJ (hK1 _ ?_));exact zP (zG (A2,c2) rfl (λw h _=>h.1) zU)
def rbytes_S(g:Nat){A:zt}{c:Nat}(s:Rds):Spec 78 [ptr g] [RdrS g A c s] (Rd 1 eB A c s.1)
  { ret:=λx:Nat×RX=>.v (.slice (some ⟨x.1,0,none⟩) (byO s).length (byO s).length),own:=λx=>[RdrS g x.2.1 x.2.2 (byS s)],p:=λx=>Rd 1 eB x.2.1 x.2.2 (byS s).1,n:=λx=>Rd 1 eB (some ⟨x.1,0,none⟩) (byO s).length (byO s) }:=by
 refine zQ [.c (.v (ptr g))] 9 func78 rfl (by rw [ntmps78];rfl) (one_ok trivial) λb=>?_;have hbl:(byO s).length<=1048576:=bM (tkO_le _ _).1 (moO_le _ _);refine zA rfl (zC rfl λK1 hK1=>?_);refine zI [ptr g,.int .u64 ((1048576:Nat):Int)] (λ_ _=>by go_simp) rfl (rmost_S g s 1048576 (by decide)) (λw h _=>h) λ⟨A1,c1⟩=>?_;refine l_R [RdrS g A1 c1 (moS 1048576 s)] rfl (zI [ptr g,.int .i64 (moO 1048576 s:Int)] own_take rfl (take_S g (moS 1048576 s) (moO 1048576 s)) (λw h _=>h.1) λ⟨A2,c2,A3,c3⟩=>l_R [RdrS g A3 c3 (byS s)] rfl ?_);refine l_list zY b.B.heap.size [⟨A2,c2,byO s⟩] (fe:=eSeg) rfl rfl rfl rfl rfl (λ_=>rfl) rfl (by decide) (by decide) (okF_seg _) (aF _) λP=>?_;refine l_free 0 rfl ?_;have hj:=join_S (A:=P) (c:=1) [⟨A2,c2,byO s⟩] (by simp;omega)
 have e0:(List.map Seg.l [⟨A2,c2,byO s⟩]).flatten=byO s:=by simp
 rw [e0] at hj;refine z6 [.slice P 1 1] own_join rfl hj (λw h _=>⟨h.1,λs hs=>by rw [aD.1 hs];exact h.2.1.1⟩) λgb=>?_;refine zB rfl (zJ (hK1 _ ?_));exact zP (zG (gb,A3,c3) rfl (λw h _=>h.2.2.1.2) (λw h=>h.1))
def rsig_S(g:Nat){A:zt}{c:Nat}(s:Rds):Spec 162 [ptr g] [RdrS g A c s] (Rd 1 eB A c s.1)
  { ret:=λ_:RX=>.q (eY 64 (sgO s)),own:=λx=>[RdrS g x.1 x.2 (sigS s)],p:=λx=>Rd 1 eB x.1 x.2 (sigS s).1 }:=by
 refine zQ [.c (.v (ptr g))] 9 func162 rfl (by rw [ntmps162];rfl) (one_ok trivial) λb=>?_;have hl:=(tkO_le 64 s).1
 have ep:tkO 64 s++(aB 64 (0:UInt8)).drop (tkO 64 s).length=sgO s:=by unfold sgO pad64;rw [List.drop_replicate]
 refine zA rfl (zA rfl (zM λK hK=>?_));refine s_any 3 [] (by kernel_rfl) (by decide) (λ_ _ _ _ h=>by cases h) ?_;refine a_frontO (.s 3 0 64 64) trivial 0 (by kernel_rfl) rfl rfl rfl rfl rfl (runO_all rfl underlying67 rfl rfl) ?_;refine a_front zY 1 (by kernel_rfl) rfl rfl rfl rfl rfl rfl (λ_ h=>by cases h) ?_;refine a_step 2 (by kernel_rfl) rfl λK1 hK1=>?_;refine zI [ptr g,.int .i64 ((64:Nat):Int)] own_take rfl (take_S g s 64) (λw h _=>h) λ⟨A1,c1,A2,c2⟩=>l_R [RdrS g A2 c2 (sigS s)] rfl ?_;refine zJ (hK1 _ (λ_ _ _ _ h=>by cases h) ?_);refine a_tail (by kernel_rfl) ?_;refine l_copyV (z:=aB 64 0) rfl rfl rfl rfl rfl rfl rfl bL hl (rd_fact λw h _=>h.1.1) ?_;rw [ep];refine zJ (hK _ (zA rfl ?_));exact zP (zG (A2,c2) rfl (λw h _=>h.1.2) zU)
def rdone_S(g:Nat){A:zt}{c:Nat}(s:Rds):Spec 83 [ptr g] [RdrS g A c s] (λ_=>True)
  { ret:=λ_:Unit=>.v (.int .i64 (endE s:Int)),own:=λ_=>[RdrS g A c s] }:=by
 refine zQ [.c (.v (ptr g))] 23 func83 rfl (by rw [ntmps83];rfl) (one_ok trivial) λb=>?_;refine zA rfl (zM λK hK=>zN (zA rfl (s_no rfl (zC rfl λK1 hK1=>zZ rfl (obj_own 0 rfl) (zB rfl (zJ (hK1 _ ?_)))))));refine zW ((s.2:Int)≠0) rfl (λh0=>?_) (λh0=>?_)
 .have e:endE s=s.2:=if_neg (by omega);refine zC rfl λK2 hK2=>zZ rfl (obj_own 0 rfl) (zB rfl (zJ (hK2 _ ?_)));exact zP (zR zY () rfl (by decide) rfl (by rw [e];rfl) rfl (λ_ _ _=>trivial) zU)
 have e0:endE s=if s.1.length=0 then 0 else 11:=if_pos (by omega);refine zC rfl λK2 hK2=>zZ rfl (obj_own 0 rfl) (zB rfl (zJ (hK2 _ ?_)));refine zW ((s.1.length:Int)>0) rfl (λh1=>?_) (λh1=>?_)
 .rw [if_neg (by omega)] at e0;refine zA rfl ?_;exact zP (zR zY () rfl (by decide) rfl (by rw [e0];rfl) rfl (λ_ _ _=>trivial) zU)
 .rw [if_pos (by omega)] at e0;refine zO (hK _ (zA rfl ?_));exact zP (zR zY () rfl (by decide) rfl (by rw [e0];rfl) rfl (λ_ _ _=>trivial) zU)
def rdnew_S{A:zt}{c:Nat}(l:zu)(hl:l.length<=281474976710656):Spec 77 [.slice A l.length c] [] (Rd 1 eB A c l)
  { ret:=λx:Nat×Nat=>.v (ptr x.1),own:=λx=>[RdrS x.1 (some ⟨x.2,0,none⟩) l.length (l,0)],n:=λx=>Rd 1 eB (some ⟨x.2,0,none⟩) l.length l }:=by
 refine zQ [.c (.v (.slice A l.length c))] 8 func77 rfl (by rw [ntmps77];rfl) (one_ok trivial) λb=>?_;refine zA rfl (zC rfl λK1 hK1=>?_);refine l_list zY b.B.heap.size [⟨A,c,l⟩] (fe:=eSeg) rfl rfl rfl rfl rfl (λ_=>rfl) rfl (by decide) (by decide) (okF_seg _) (aF _) λP=>?_;refine l_free 0 rfl ?_;have hj:=join_S (A:=P) (c:=1) [⟨A,c,l⟩] (by simp;omega)
 have e0:(List.map Seg.l [⟨A,c,l⟩]).flatten=l:=by simp
 rw [e0] at hj;refine z6 [.slice P 1 1] own_join rfl hj (λw h _=>⟨h.1,λs hs=>by rw [aD.1 hs];exact h.2⟩) λgb=>?_;refine zB rfl (zJ (hK1 _ (zP (k_give 2 rfl (E':=[]) trivial λg=>?_))));exact zG (g,gb) rfl (λ_ _ _=>trivial) (λw h=>h.1)
def run_maxU{N:Nat}{E:SE}{o:Oper}{x y:yo}{p q:Nat}(ho:o.op = .call { callee:=.builtin .max,args:=#[x,y],argTypes:=#[96,96] })(hx:evS E x=some (.v (.int .u64 (p:Int))))(hy:evS E y=some (.v (.int .u64 (q:Int)))) :
  ∀(G:zk) (a:Act) (w:yp),Fr N (denE G E) a->(execOp a.eval o).run prog w = .ok (.value ((SV.v (.int .u64 ((max p q:Nat):Int))).den G)) w:=λG a w ha=>by
 have h1:a.eval x = .int .u64 (p:Int):=ha.eval (evS_ok hx);have h2:a.eval y = .int .u64 (q:Int):=ha.eval (evS_ok hy)
 unfold execOp
 simp only [ho];generalize a.eval=ρ at *
 show _=mQ (mB (.int .u64 ((max p q:Nat):Int))) w
 go_simp
 split<;>omega
section
variable{f:FuncId}{args:zq}{F:zv}{l:zu}
def Spec.made(h:∀w,F w->Calls prog f args.toArray w (Made w l)):Spec f args [] F
  { ret:=λg:Nat=>.v (.slice (some ⟨g,0,none⟩) l.length l.length),n:=λg=>Rd 1 eB (some ⟨g,0,none⟩) l.length l }:=λw S X hS _ hF=>by
 refine(h w hF.now).mono ?_
 rintro e w' ⟨g,he,ho,hb⟩
 refine⟨g,S,he,trivial,Chg.of_up hb,hS.keep λk hk=>hb.block k (hS.lt k hk),λ_ h _=>h,λ_ _=>trivial,?_⟩;have h3:(OwnS w.heap.size 5 1 eB (some ⟨g,0,none⟩) l.length l).holds w' λj=>(some (⟨g,0,none⟩:Addr)).map (·.block)=some j:=⟨okF_B _,by rw [flat_B];exact ho,λ_=>Iff.rfl⟩;have h4:=OwnS.rd h3;have h6:=(OwnS.inb h3 _ rfl).1
 intro w2 hw2
 refine h4.keep hw2.size λb' e hlt=>hw2.block b' hlt ?_;simp only [bS,a8] at e;subst e
 rintro(h5|h5)
 .exact gG _ (b9 h5 h6)
 .exact gG _ (b9 (hS.lt _ h5) h6)
end
section
variable{b:Base}{G:zk}{S:zm}{L:ze}{R:zd}{F M:zv}{w:yp}{g:Nat}{t:yn}{ps:zb}
def StW.freeO(h:StW b G S L R F M w){i:Nat}(hi:R[i]?=some (ObjS g t ps)):∃S',StW b G S' L (R.eraseIdx i) (λw=>ObjF g t ps w/\F w) M w:=by
 obtain⟨S1,S2,⟨h1,h1'⟩,h2,h3,h4⟩:=h.let hi;refine⟨S2,h4.and (p:=ObjF g t ps) λw' hw=>⟨(hw.block g h1.1.lt λhx=>?_).trans h1.1,h1.2⟩⟩;rcases hx with hx|hx|⟨j,hj,e⟩
 .exact(h.old g hx).2 (h.mine g (.inl ((h3 g).2 (.inl ((h1' g).2 rfl)))) (h.old g hx).1)
 .exact h2 g ((h1' g).2 rfl) hx
 .exact h.sep j hj ((h3 _).2 (.inl ((h1' _).2 e)))
variable{P:Program}{Q:zx}{N:Nat}{E:SE}
def s_freeO{x:Code}(i:Nat)(hi:R[i]?=some (ObjS g t ps))(h:cS P b x Q N ⟨E,L,R.eraseIdx i,λw=>ObjF g t ps w/\F w,M⟩):cS P b x Q N ⟨E,L,R,F,M⟩:=λa w ⟨G,S,h1,h2,h3⟩=>by obtain⟨S',h4⟩:=h3.freeO hi;exact h a w ⟨G,S',h1,h2,h4⟩
end
theorem obj_rd{g n:Nat}{t:yn}{l:zu}{w:yp}(h:ObjF g t [.agg n (By l).toArray] w)(hn:n<=9223372036854775807):Rd 1 eB (some ⟨g,0,none⟩) n l w:=by
 have h1:l.length=n:=by
  have:=(h.2 _ List.mem_cons_self).1
  rwa [aW,By_len] at this
 refine⟨kA h1,hn,λh=>(by cases h),okF_B l,λ_=>⟨g,0,rfl,h.1.lt,λi x hi j v hj=>?_⟩⟩;have hB:Blk w g t (By l).toArray:=h.1;rw [hB.cell];cases j with
 | zero =>
  have e:v = .int .u8 (x.toNat:Int):=(bQ ((show(eB x).cl[0]?=some (.int .u8 (x.toNat:Int)) from rfl).symm.trans hj)).symm;obtain⟨h2,h3⟩:=aP.1 hi;have h4:=By_at? h2;rw [getElem!_pos l i h2,h3] at h4;rw [e]
  simpa using h4
 | succ j =>
  have:(eB x).cl[j+1]?=none:=rfl;rw [this] at hj
  cases hj
def runO_allP{P:Program}{N:Nat}{E:SE}{o:Oper}{x:yo}{t e:yn}{g off n sz:Nat}(ho:o.op = .slice t x none none none)(ht:P.underlying t=some (.array n e))(he:(P.info? e).map (·.size)=some sz)(hx:evS E x=some (.v (.pointer (some ⟨g,off,none⟩)))) :
  ∀(G:zk) (a:Act) (w:yp),Fr N (denE G E) a->(execOp a.eval o).run P w = .ok (.value ((SV.v (.slice (some ⟨g,off,none⟩) n n)).den G)) w:=λG a w ha=>by
 have h1:a.eval x = .pointer (some ⟨g,off,none⟩):=ha.eval (evS_ok hx);have h5:=run_sizeOf he w
 unfold execOp
 simp only [ho];generalize a.eval=ρ at *;simp only [Option.map,h1]
 show _=mQ (mB (.slice (some ⟨g,off,none⟩) n n)) w
 simp [Instr.sliceAt,Instr.sureAddr,run_underlying ht,Instr.sliceBounds,h5,aG,cQ]
def own_wnum:Own 66:=λ_ _=>by go_simp
def lay_S(v:Nat)(hv:v<18446744073709551616):Spec 107 [.int .u64 (v:Int)] [] (λ_=>True) (one (.q (eY 8 (be8 v)))) :=
 Spec.pure (eY_ok (be8_len v)).1 λw _=>lay_any v w hv
def wbytes_S{A X:zt}{c d:Nat}(l x:zu)(hl:l.length+8+x.length<=281474976710656):Spec 64 [.slice A l.length c,.slice X x.length d] [] (λw=>Rd 1 eB A c l w/\Rd 1 eB X d x w)
  { ret:=λg:Nat=>.v (.slice (some ⟨g,0,none⟩) (l++be8 x.length++x).length (l++be8 x.length++x).length),n:=λg=>Rd 1 eB (some ⟨g,0,none⟩) (l++be8 x.length++x).length (l++be8 x.length++x) } :=
 Spec.made λw h=>bytes_any A X l x c d w.heap.size w h.1.sl h.2.sl (aF _) hl
def wnum_S{A:zt}{c:Nat}(l:zu)(v:Nat)(hv:v<18446744073709551616)(hl:l.length+8<=281474976710656):Spec 66 [.slice A l.length c,.int .u64 (v:Int)] [] (Rd 1 eB A c l)
  { ret:=λg:Nat=>.v (.slice (some ⟨g,0,none⟩) (l++be8 v).length (l++be8 v).length),n:=λg=>Rd 1 eB (some ⟨g,0,none⟩) (l++be8 v).length (l++be8 v) }:=by
 refine zQ [.c (.v (.slice A l.length c)),.c (.v (.int .u64 (v:Int)))] 12 func66 rfl (by rw [ntmps66];rfl) (two_ok trivial trivial) λb=>?_;refine zA rfl (zC rfl λK1 hK1=>?_);refine z6 [.int .u64 (v:Int)] (λ_ _=>by go_simp) rfl (lay_S v hv) (λ_ _ _=>trivial) λ_=>?_;refine zB rfl (zJ (k_give 5 rfl (E':=[(0,.v (.slice A l.length c))]) ⟨rfl,trivial⟩ λg=>hK1 _ (s_freeO 0 rfl (zC rfl λK2 hK2=>l_op (.v (.slice (some ⟨g,0,none⟩) 8 8)) trivial rfl rfl rfl (runO_allP rfl underlying196 rfl rfl) ?_))));refine l_list zY b.B.heap.size [⟨A,c,l⟩,⟨some ⟨g,0,none⟩,8,be8 v⟩] (fe:=eSeg) rfl rfl rfl rfl rfl (λ_=>rfl) rfl (by decide) (by decide) (okF_seg _) (aF _) λP=>?_;refine l_free 0 rfl ?_
 have e0:(List.map Seg.l [⟨A,c,l⟩,⟨some ⟨g,0,none⟩,8,be8 v⟩]).flatten=l++be8 v:=by simp
 have hj:=join_S (A:=P) (c:=2) [⟨A,c,l⟩,⟨some ⟨g,0,none⟩,8,be8 v⟩] (by rw [e0,aA,be8_len];exact hl);rw [e0] at hj
 refine z6 [.slice P 2 2] own_join rfl hj (λw h _=>⟨h.1,λs hs=>by
  rcases aH.1 hs with rfl|hs
  .exact h.2.2.2
  .rw [aD.1 hs];exact obj_rd (n:=8) h.2.1 (aE rfl)⟩) λgb=>?_
 refine zB rfl (zJ (hK2 _ ?_));exact zP (zG gb rfl (λ_ _ _=>trivial) (λw h=>h.1))
end Go.Proofs.Q
namespace Go.Proofs.Q
open Go.RowKit Go.IntWalk Nums
def own_lay512:Own 177:=λ_ _=>by go_simp
def own_sum512:Own 134:=λ_ _=>by go_simp
structure Tsh(w:yp):Prop where
  steps:Ts w
  cell:∀i,i<8->w.cell? ⟨1,i,none⟩=some (.int .u64 (sqs[i]! : Nat))
  lt : 1 < w.heap.size
def Tsh.below{w w':yp}(h:Tsh w)(hb:Below w.heap.size w w'):Tsh w' :=
 ⟨h.steps.below hb,λi hi=>(hb.cell (p:=⟨1,i,none⟩) h.lt).trans (h.cell i hi),b9 h.lt hb.size⟩
def start512:Oct:=⟨sqs[0]!,sqs[1]!,sqs[2]!,sqs[3]!,sqs[4]!,sqs[5]!,sqs[6]!,sqs[7]!⟩
def start512_ob:OB 64 start512:=by constructor<;>decide
def start512_list:start512.list=sqs:=by decide
def Tsh.range{w:yp}(h:Tsh w):w.rangeAt 1 0 (Us sqs):=λj v hv=>by
 rw [aY];have hj:j<8:=by have:=(aP.1 hv).1;rw [Us_len] at this;exact this
 rw [h.cell j hj];have h1:(Us sqs).toArray[j]?=some (.int .u64 (sqs[j]! : Nat)):=Us_at (show j<sqs.length from hj);rw [<-h1];simpa using hv
def OB.list_lt{o:Oct}(h:OB 64 o):∀x∈o.list,x<18446744073709551616:=by
 intro x hx;simp only [Oct.list,aH,gB,or_false] at hx;rcases hx with rfl|rfl|rfl|rfl|rfl|rfl|rfl|rfl
 .exact h.a
 .exact h.b
 .exact h.c
 .exact h.d
 .exact h.e
 .exact h.f
 .exact h.g
 .exact h.h
instance pst_sh:Pst Tsh:=⟨λ_ _ h hb=>h.below hb⟩
def rd_obj{L:ze}{R:zd}{F M:zv}{g t:Nat}{ps:zb}(i:Nat)(hi:R[i]?=some (ObjS g t ps)):∀G S w,View G S L R F M w->ObjF g t ps w:=λ_ _ _ h=>by obtain⟨S1,_,h1,_⟩:=h.res.at hi;exact h1.1
def own_take512:Own 175:=λ_ _=>by go_simp
theorem ob_runw{s:Sha}{B:Nat}:∀(n:Nat) (o:Oct) (l:zu),l.length<=n->OB s.w o->OB s.w (gJ s B o l)
 | n,o,l,hn,ho=>by
  rw [gJ];split
  .exact ho
  .cases n with
   | zero=>omega
   | succ n=>exact ob_runw n _ _ (by rw [cU];omega) (OB.gR _ _ _)
def k512:BK:=⟨eK,128,284,285,λo=>[.agg 8 (Us o.list).toArray],175⟩
def k512_ok:k512.Ok where
 n64:=by decide
 n128:=by decide
 own:=own_take512
 tk:=λ{gh gb o b} ho hb=>by refine zQ (own:=k512.R gh gb o b) [.c (.v (atG gh)),.c (.v (atG gb))] 5 func175 rfl (by rw [ntmps175];rfl) (two_ok trivial trivial) λB=>?_;refine s_lit (zZ rfl (rd_obj 0 rfl) (zZ rfl (rd_obj 1 rfl) (l_X (turn512_C ho hb) (λ_=>rfl) rfl λ_=>l_stO zY 0 rfl rfl rfl rfl rfl rfl rfl (l_E rfl ?_))));exact zG () rfl (λ_ _ _=>trivial) λ_ _=>trivial
def lay512_C{F:zv}{o:Oct}(ho:OB 64 o):Ct F 177 [eW 8 o.list] (one (.q (eY 64 (o.list.map (jZ eK)).flatten))):=⟨own_lay512,Spec.pure (eY_ok (by rw [lV (jZ eK) λx=>lT eK x];rfl)).1 λw _=>lay512_f rfl (OB.list_lt ho) w⟩
def sum512_C{P:zt}{pc:Nat}{ss:yr}(hn:ss.length<=9223372036854775807):Ct (λw=>Tsh w/\PartsF P pc ss w) 134 [.c (.v (.slice P ss.length pc))] (one (.q (eY 64 (dJ eK (ss.map Seg.l).flatten)))):=⟨own_sum512,by refine zQ [.c (.v (.slice P ss.length pc))] 12 func134 rfl (by rw [ntmps134];rfl) (one_ok trivial) λB=>?_;refine zA rfl ?_;refine s_reg λK hK=>l_opV (.q (eW 8 start512.list)) (eW_ok rfl) rfl rfl rfl (run_ldR (g:=1) (off:=0) (cs:=(Us start512.list).toArray) rfl rfl underlying284 rfl (size_w8 _ rfl) rfl λ_ _ _ hv=>by rw [start512_list];exact hv.fact.1.range) (l_N hK rfl ?_);refine s_reg λK hK=>l_auto2 rfl (zJ (k_give 4 rfl (E':=[(0,.v (.slice P ss.length pc)),(2,.a 2 0),(3,.a 3 0)]) ⟨rfl,rfl,rfl,trivial⟩ λgb=>k_give 3 rfl (E':=[(4,.v (atG gb)),(0,.v (.slice P ss.length pc)),(2,.a 2 0)]) ⟨rfl,rfl,rfl,trivial⟩ λgh=>hK _ (s_reg λK hK=>l_op (.v (.slice (some ⟨gb,0,none⟩) 128 128)) trivial rfl rfl rfl (runO_allP rfl underlying285 size_u8 rfl) (zB rfl (l_op (.v (k512.take gh gb)) trivial rfl rfl rfl (run_makeF (vals:=[atG gh,atG gb]) rfl rfl λ_=>rfl) ?_)))));refine zI (own:=k512.R gh gb start512 (aB 128 0)) (R':=[]) [.slice (some ⟨gb,0,none⟩) 128 128,.slice P ss.length pc,k512.take gh gb] (λ_ _=>by go_simp) rfl (fill_S k512_ok start512_ob bL hn) (λw h _=>⟨h.1.steps,h.2⟩) λb'=>?_;have hD:((gJ eK 128 start512 ((ss.map Seg.l).flatten++fQ 128 ((ss.map Seg.l).flatten.length%128) (8*(ss.map Seg.l).flatten.length))).list.map (jZ eK)).flatten=dJ eK (ss.map Seg.l).flatten:=rfl;have hO:OB 64 (gJ eK 128 start512 ((ss.map Seg.l).flatten++fQ 128 ((ss.map Seg.l).flatten.length%128) (8*(ss.map Seg.l).flatten.length))):=ob_runw (s:=eK) _ _ _ (aF _) start512_ob;refine l_R (k512.R gh gb (gJ eK 128 start512 ((ss.map Seg.l).flatten++fQ 128 ((ss.map Seg.l).flatten.length%128) (8*(ss.map Seg.l).flatten.length))) b'.1) rfl (l_N hK rfl ?_);generalize gJ eK 128 start512 ((ss.map Seg.l).flatten++fQ 128 ((ss.map Seg.l).flatten.length%128) (8*(ss.map Seg.l).flatten.length))=o at *;refine s_freeO 0 rfl (s_freeO 0 rfl (s_reg λK hK=>zZ rfl (λ_ _ _ hv=>hv.fact.2.1) (l_X (lay512_C hO) (λ_=>rfl) rfl λ_=>l_N hK rfl (zP ?_))));rw [hD];exact zG () rfl (λ_ _ _=>trivial) λ_ _=>trivial⟩
def sum512_f(A:zt)(ls:zy)(pc:Nat)(w:yp)(hT:Tsh w)(hA:Parts w w.heap.size A ls)(hpc:ls.length<=pc)(hpm:pc<=9223372036854775807) :
  Calls prog 134 #[.slice A ls.length pc] w λe w'=>e = .returned (.agg (By (dJ eK ls.flatten)).toArray)/\Below w.heap.size w w':=by
 obtain⟨ss,rfl,h⟩:=segs_of ⟨hpc,hpm⟩ hA;rw [aX] at *;exact(sum512_C (by omega)).row ⟨hT,h⟩
end Go.Proofs.Q
namespace Nums
def qP:cP 1224481:=eF (k:=1107) (by decide) (by decide +kernel) (by decide +kernel)
def rK:cP 531581:=eF (k:=730) (by decide) (by decide +kernel) (by decide +kernel)
def vN:cP 41:=eF (k:=7) (by decide) (by decide) (by decide +kernel)
def s9:cP 2851:=eF (k:=54) (by decide) (by decide) (by decide +kernel)
def uI:cP 269:=eF (k:=17) (by decide) (by decide) (by decide +kernel)
def wX:cP 7:=eF (k:=3) (by decide) (by decide) (by decide +kernel)
def vO:cP 11:=eF (k:=4) (by decide) (by decide) (by decide +kernel)
def vM:cP 1257559732178653:=iH (q1:=1224481) (q2:=531581) (a:=2) (k:=51) qP rK (by decide +kernel)
def vL:cP 4434155615661930479:=iH (q1:=1257559732178653) (q2:=41) (a:=3) (k:=62) vM vN (by decide +kernel)
def vK:cP 172054593956031949258510691:=iH (q1:=4434155615661930479) (q2:=2851) (a:=2) (k:=88) vL s9 (by decide +kernel)
def vJ:cP 19757330305831588566944191468367130476339:=iH (q1:=172054593956031949258510691) (q2:=269) (a:=2) (k:=134) vK uI (by decide +kernel)
def vI:cP 276602624281642239937218680557139826668747:=iH (q1:=19757330305831588566944191468367130476339) (q2:=7) (a:=2) (k:=138) vJ wX (by decide +kernel)
def tQ:cP LL:=iH (q1:=276602624281642239937218680557139826668747) (q2:=11) (a:=2) (k:=253) vI vO (by decide +kernel)
def xH:base≠Ed.zero:=λh=>by have h1:=congrArg Ed.Pt.y h;have h2:(fof bY:F).val=(1:F).val:=congrArg Fin.val h1;rw [val_one dU,lE] at h2;revert h2;decide
def w6(n:Nat):Ed.mul dd n base=Ed.zero↔LL∣n:=by
 constructor
 .intro h
  by_cases hd:LL∣n
  .exact hd
  .exfalso
   have hf:=tA tQ hd;obtain⟨e,he⟩:∃e,LL-1=e+1:=⟨LL-2,by decide⟩;rw [he,cB] at hf;generalize n^e=c at hf;have h1:n*c=LL*(c*n/LL)+1:=by have:=Nat.div_add_mod (c*n) LL;rw [hf] at this;rw [cX n c];exact this.symm
   exact xH (Ed.wP good gY h order h1)
 .rintro⟨c,rfl⟩;rw [Ed.nD good gY,order,Ed.mul_zero good]
def nZ(x:Nat):Nat:=x%28948022309329048855892746252171976963317496166410141009864396001978282409984/8*8+28948022309329048855892746252171976963317496166410141009864396001978282409984
def wK(x:Nat):¬LL∣nZ x:=by
 rintro⟨c,hc⟩;obtain⟨y,hy⟩:∃y,y=x%28948022309329048855892746252171976963317496166410141009864396001978282409984:=⟨_,rfl⟩;have hy2:y<28948022309329048855892746252171976963317496166410141009864396001978282409984:=by rw [hy];exact cI _ (by decide)
 have h0:nZ x=y/8*8+28948022309329048855892746252171976963317496166410141009864396001978282409984:=by rw [hy];rfl
 rw [h0] at hc;have h8:LL*c%8=0:=by rw [<-hc];omega
 have h1:LL*c<LL*8:=by rw [<-hc];refine b9 (m:=57896044618658097711785492504343953926634992332820282019728792003956564819968) ?_ (by decide);omega
 have h2:0<LL*c:=by rw [<-hc];omega
 have hc8:c<8:=Nat.lt_of_mul_lt_mul_left h1;clear hc h0 hy hy2 h1;have h5:LL*c%8=5*c%8:=by rw [kR,show LL%8=5 from by decide,kR 5 c,show 5%8=5 from rfl]
 rw [h5] at h8;have hcz:c=0:=by omega
 rw [hcz,iI] at h2;exact absurd h2 (by decide)
def sM(x:Nat):Ed.mul dd 8 (Ed.mul dd (nZ x) base)≠Ed.zero:=by
 intro h;rw [Ed.rA good gY,w6] at h;rcases tQ.dvd_mul h with h1|h1
 .exact absurd (Nat.le_of_dvd (by decide) h1) (by decide)
 .exact wK x h1
def s6(r k a:Nat):Ed.add dd (Ed.mul dd ((r+k*a)%LL) base) (Ed.neg (Ed.mul dd k (Ed.mul dd a base)))=Ed.mul dd r base:=by have hr:=Ed.gD good gY r;have hk:=Ed.gD good gY (k*a);rw [<-Ed.mul_mod good gY order,Ed.mul_add good gY,Ed.rA good gY,Ed.add_assoc good hr hk (Ed.l7 hk),Ed.add_neg good hk,Ed.add_zero good]
end Nums
