import Derived.Test.YtlhlkofpjhpaoaaGreatDoorMh
import Derived.Test.YtlhlkofpjhpaoaaGreatDoorMi
import Derived.StillTailTactics
import Derived.Test.YtlhlkofpjhpaoaaGreatDoorMb
import Derived.Test.YtlhlkofpjhpaoaaGreatDoorMd
import Derived.Test.YtlhlkofpjhpaoaaGreatDoorMf
import Derived.Test.YtlhlkofpjhpaoaaGreatDoorMe
import Derived.Test.YtlhlkofpjhpaoaaGreatDoorMg
set_option maxRecDepth 100000
set_option maxHeartbeats 1000000
open And renaming intro->eO
open Bool renaming and_eq_true->aN
open Go.IntKind renaming wrap_u64->a8
open Go.Lib renaming hid->c9
open Go.Region renaming wanted->aO,ready->aV,binds->cL,noSelect_spec->eG,free_spec->gU
open Go.Value renaming pointer->pD
open List renaming replicate->aA,length_append->aB,mem_singleton->aE,mem_cons_of_mem->aJ,mem_cons->aL,mem_cons_self->aP,size_toArray->aT,length_replicate->bE,take_of_length_le->bG,mem_map->bP,length_set->bQ,mem_append->bR,pairwise_cons->b6,ext_getElem->cJ,nil_append->gJ,find?_eq_none->kQ,mem_of_find?_eq_some->lB,not_mem_nil->lM,range->mF,take_zero->o7
open List.Pairwise renaming nil->sV
open Nat renaming le_refl->aF,blt->aQ,mod_eq_of_lt->aY,lt_of_lt_of_le->b9,reducePow->cI,pow_succ->cN,mod_lt->cO,mul_comm->eN,add_zero->eX,reduceSub->fL,mul_assoc->fQ,pow_zero->lH
open Option.some renaming injEq->aW
open UInt8 renaming toNat_lt->cQ,toNat_inj->qB
namespace Nums
def lv:List Nat->Nat
  | []=>0
  | d::ds=>d+2251799813685248*lv ds
theorem lv5(a0 a1 a2 a3 a4:Nat):lv [a0,a1,a2,a3,a4]=a0+2251799813685248*(a1+2251799813685248*(a2+2251799813685248*(a3+2251799813685248*a4))):=by
 simp only [lv,Nat.mul_zero,eX]
structure EB(l:List Nat)(x:F):Prop where
  len:l.length=5
  bnd:∀y∈l,y<2251799813947392
  val:fof (lv l)=x
theorem oF{l:List Nat}(h:l.length=5):∃a0 a1 a2 a3 a4,l=[a0,a1,a2,a3,a4]:=by
 match l,h with
 | [a0,a1,a2,a3,a4],_=>exact⟨a0,a1,a2,a3,a4,rfl⟩
theorem EB.oF{l:List Nat}{x:F}(h:EB l x):∃a0 a1 a2 a3 a4,l=[a0,a1,a2,a3,a4]/\a0<2251799813947392/\a1<2251799813947392/\a2<2251799813947392/\a3<2251799813947392/\a4<2251799813947392/\fof (lv [a0,a1,a2,a3,a4])=x:=by
 obtain⟨a0,a1,a2,a3,a4,rfl⟩:=Nums.oF h.len;have hb:=h.bnd;exact⟨a0,a1,a2,a3,a4,rfl,hb _ (by simp),hb _ (by simp),hb _ (by simp),hb _ (by simp),hb _ (by simp),h.val⟩
theorem EB.mk5{a0 a1 a2 a3 a4:Nat}{x:F}(h0:a0<2251799813947392)(h1:a1<2251799813947392)(h2:a2<2251799813947392)(h3:a3<2251799813947392)(h4:a4<2251799813947392)(h:fof (lv [a0,a1,a2,a3,a4])=x) :
  EB [a0,a1,a2,a3,a4] x:=by
 refine⟨rfl,?_,h⟩
 intro y hy
 simp only [aL,lM,or_false] at hy
 rcases hy with rfl|rfl|rfl|rfl|rfl<;>assumption
theorem vQ:p=57896044618658097711785492504343953926634992332820282019728792003956564819949:=by decide
def crd(a0 a1 a2 a3 a4:Nat):List Nat :=
  [a0%2251799813685248+19*(a4/2251799813685248),a1%2251799813685248+a0/2251799813685248,a2%2251799813685248+a1/2251799813685248,a3%2251799813685248+a2/2251799813685248,a4%2251799813685248+a3/2251799813685248]
theorem u5(a k:Nat):fof (a+p*k)=fof a:=iS (by rw [Nat.add_mul_mod_self_left])
theorem vA(a0 a1 a2 a3 a4:Nat):fof (lv (crd a0 a1 a2 a3 a4))=fof (lv [a0,a1,a2,a3,a4]):=by
 have h:lv (crd a0 a1 a2 a3 a4)+p*(a4/2251799813685248)=lv [a0,a1,a2,a3,a4]:=by
  unfold crd
  rw [lv5,lv5,vQ]
  omega
 rw [<-h,u5]
theorem rZ{a0 a1 a2 a3 a4:Nat}(h0:a0<18446744073709551616)(h1:a1<18446744073709551616)(h2:a2<18446744073709551616)(h3:a3<18446744073709551616)(h4:a4<18446744073709551616) :
  EB (crd a0 a1 a2 a3 a4) (fof (lv [a0,a1,a2,a3,a4])) :=
 EB.mk5 (by omega) (by omega) (by omega) (by omega) (by omega) (vA a0 a1 a2 a3 a4)
theorem wZ(a0 a1 a2 a3 a4 b0 b1 b2 b3 b4:Nat):lv [a0+b0,a1+b1,a2+b2,a3+b3,a4+b4]=lv [a0,a1,a2,a3,a4]+lv [b0,b1,b2,b3,b4]:=by
 rw [lv5,lv5,lv5]
 omega
theorem wN{a0 a1 a2 a3 a4 b0 b1 b2 b3 b4:Nat}(h0:b0<2251799813947392)(h1:b1<2251799813947392)(h2:b2<2251799813947392)(h3:b3<2251799813947392)(h4:b4<2251799813947392) :
  fof (lv [a0+(4503599627370458-b0),a1+(4503599627370494-b1),a2+(4503599627370494-b2),a3+(4503599627370494-b3),a4+(4503599627370494-b4)])=fof (lv [a0,a1,a2,a3,a4])-fof (lv [b0,b1,b2,b3,b4]):=by
 have h:lv [a0+(4503599627370458-b0),a1+(4503599627370494-b1),a2+(4503599627370494-b2),a3+(4503599627370494-b3),a4+(4503599627370494-b4)]+lv [b0,b1,b2,b3,b4]=lv [a0,a1,a2,a3,a4]+p*2:=by
  rw [lv5,lv5,lv5,vQ]
  omega
 have h2:fof (lv [a0,a1,a2,a3,a4])=fof (lv [a0+(4503599627370458-b0),a1+(4503599627370494-b1),a2+(4503599627370494-b2),a3+(4503599627370494-b3),a4+(4503599627370494-b4)])+fof (lv [b0,b1,b2,b3,b4]):=by
  rw [<-iY,h,u5]
 rw [h2];generalize fof (lv [a0+(4503599627370458-b0),a1+(4503599627370494-b1),a2+(4503599627370494-b2),a3+(4503599627370494-b3),a4+(4503599627370494-b4)])=u;generalize fof (lv [b0,b1,b2,b3,b4])=v
 grind only
theorem vH(c0 c1 c2 c3 c4:Nat):fof (lv [19*c4,c0,c1,c2,c3])=fof 2251799813685248*fof (lv [c0,c1,c2,c3,c4]):=by
 have h:lv [19*c4,c0,c1,c2,c3]+p*c4=2251799813685248*lv [c0,c1,c2,c3,c4]:=by
  rw [lv5,lv5,vQ]
  omega
 rw [<-dW,<-h,u5]
theorem vW(s0 s1 s2 s3 s4 v c0 c1 c2 c3 c4:Nat):lv [s0+v*c0,s1+v*c1,s2+v*c2,s3+v*c3,s4+v*c4]=lv [s0,s1,s2,s3,s4]+v*lv [c0,c1,c2,c3,c4]:=by
 rw [lv5,lv5,lv5]
 grind only
def up1(l:List Nat)(u:Nat):Nat->Nat
  | 0=>u
  | k+1=>(l[k]! + up1 l u k)/2251799813685248
def up2(l:List Nat)(u:Nat):Nat->Nat
  | 0=>u
  | k+1=>(up2 l u k+l[k]!)/2251799813685248
def whs(l:List Nat)(u k:Nat):List Nat:=(mF 5).map λj=>if j<k then(up2 l u j+l[j]!)%2251799813685248 else l[j]!
def whole(l:List Nat):List Nat:=whs l (up1 l 19 5*19) 5
theorem gP{l:List Nat}{x:F}(h:EB l x):(whole l).length=5/\(∀y∈whole l,y<2251799813685248)/\lv (whole l)=x.val:=by
 refine⟨by simp [whole,whs],?_,?_⟩
 ·intro y hy
  obtain⟨j,hj,rfl⟩:=bP.1 hy;rw [if_pos (by simpa using hj)];exact cO _ (by decide)
 ·obtain⟨a0,a1,a2,a3,a4,rfl,h0,h1,h2,h3,h4,hv⟩:=h.oF
  have hw:whole [a0,a1,a2,a3,a4]=[(up2 [a0,a1,a2,a3,a4] (up1 [a0,a1,a2,a3,a4] 19 5*19) 0+a0)%2251799813685248,(up2 [a0,a1,a2,a3,a4] (up1 [a0,a1,a2,a3,a4] 19 5*19) 1+a1)%2251799813685248,(up2 [a0,a1,a2,a3,a4] (up1 [a0,a1,a2,a3,a4] 19 5*19) 2+a2)%2251799813685248,(up2 [a0,a1,a2,a3,a4] (up1 [a0,a1,a2,a3,a4] 19 5*19) 3+a3)%2251799813685248,(up2 [a0,a1,a2,a3,a4] (up1 [a0,a1,a2,a3,a4] 19 5*19) 4+a4)%2251799813685248]:=rfl;have hu:up1 [a0,a1,a2,a3,a4] 19 5=(a4+(a3+(a2+(a1+(a0+19)/2251799813685248)/2251799813685248)/2251799813685248)/2251799813685248)/2251799813685248:=rfl;rw [<-hv,j3,hw];generalize hq:up1 [a0,a1,a2,a3,a4] 19 5=q at *;have g0:up2 [a0,a1,a2,a3,a4] (q*19) 0=q*19:=rfl;have g1:up2 [a0,a1,a2,a3,a4] (q*19) 1=(up2 [a0,a1,a2,a3,a4] (q*19) 0+a0)/2251799813685248:=rfl;have g2:up2 [a0,a1,a2,a3,a4] (q*19) 2=(up2 [a0,a1,a2,a3,a4] (q*19) 1+a1)/2251799813685248:=rfl;have g3:up2 [a0,a1,a2,a3,a4] (q*19) 3=(up2 [a0,a1,a2,a3,a4] (q*19) 2+a2)/2251799813685248:=rfl;have g4:up2 [a0,a1,a2,a3,a4] (q*19) 4=(up2 [a0,a1,a2,a3,a4] (q*19) 3+a3)/2251799813685248:=rfl;generalize up2 [a0,a1,a2,a3,a4] (q*19) 0=e0 at *;generalize up2 [a0,a1,a2,a3,a4] (q*19) 1=e1 at *;generalize up2 [a0,a1,a2,a3,a4] (q*19) 2=e2 at *;generalize up2 [a0,a1,a2,a3,a4] (q*19) 3=e3 at *;generalize up2 [a0,a1,a2,a3,a4] (q*19) 4=e4 at *;have hL:=lv5 a0 a1 a2 a3 a4;generalize lv [a0,a1,a2,a3,a4]=L at *;rw [lv5];have hp:=vQ;generalize p=P at *
  have ha:q<2:=by omega
  have hb:q=0->L<P:=by omega
  have hc:q=1->P<=L:=by omega
  have hd:L<2*P:=by omega
  rcases(show q=0\/q=1 by omega) with rfl|rfl
  ·rw [aY (hb rfl)]
   clear hu hc hd hv;have:=hb rfl
   omega
  ·have hge:=hc rfl
   have hm:L%P=L-P:=by rw [Nat.mod_eq_sub_mod hge,aY (by omega)]
   rw [hm];clear hu hb hv hm
   omega
end Nums
namespace Go.Proofs.YtlhlkofpjhpaoaaGreatDoor
open Go.RowKit Go.IntWalk Nums
theorem size_el(cs:Array Value)(h:cs.size=5):(Tryz.prog.info? 193).map (·.size)=some cs.size:=by
 rw [h]
 kernel_rfl
def z5:Array Value:=(Us [0,0,0,0,0]).toArray
theorem len_us{l:List Nat}(h:l.length=5):(Us l).toArray.size=5:=by rw [aT,Us_len,h]
theorem crd_cell0(a c:Nat)(ha:a<18446744073709551616)(hc:c<18446744073709551616) :
  IntKind.u64.wrap (bits .and .u64 (a:Int) 2251799813685247+19*((c:Int)/2251799813685248))=((a%2251799813685248+19*(c/2251799813685248):Nat):Int):=by
 rw [maskW a ha,a8]
 omega
theorem crd_cell(a c:Nat)(ha:a<18446744073709551616)(hc:c<18446744073709551616) :
  IntKind.u64.wrap (bits .and .u64 (a:Int) 2251799813685247+(c:Int)/2251799813685248)=((a%2251799813685248+c/2251799813685248:Nat):Int):=by
 rw [maskW a ha,a8]
 omega
theorem carried_f(a0 a1 a2 a3 a4:Nat)(h0:a0<18446744073709551616)(h1:a1<18446744073709551616)(h2:a2<18446744073709551616)(h3:a3<18446744073709551616)(h4:a4<18446744073709551616)(w:World) :
  Calls Tryz.prog 175 #[.agg (Us [a0,a1,a2,a3,a4]).toArray] w λe w'=>e = .returned (.agg (Us (crd a0 a1 a2 a3 a4)).toArray)/\Below w.heap.size w w':=by
 have e0:(Us [a0,a1,a2,a3,a4]).toArray = #[.int .u64 (a0:Int),.int .u64 (a1:Int),.int .u64 (a2:Int),.int .u64 (a3:Int),.int .u64 (a4:Int)]:=rfl;rw [e0]
 go_enter Tryz.func175,Tryz.ntmps175
 go_wp2
 rw [crd_cell0 a0 a4 h0 h4,crd_cell a1 a0 h1 h0,crd_cell a2 a1 h2 h1,crd_cell a3 a2 h3 h2,crd_cell a4 a3 h4 h3];refine bodyPost_ret (results_cell_row rfl _ _ (w.heap.size+1) 193 _ (0,0) _ rfl (blk3_1 w _ _ _ _) Tryz.underlying193 rfl (size_el _ rfl)) rfl ⟨rfl,?_⟩;exact(((Below.refl _ _).alloc (aF _) _).alloc (by simp) _).alloc (by simp;omega) _
def mx(f:Nat->Nat)(l:List Nat)(k:Nat):List Nat:=(mF 5).map λj=>if j<k then f j else l[j]!
theorem mx_len(f:Nat->Nat)(l:List Nat)(k:Nat):(mx f l k).length=5:=by simp [mx]
theorem mx_zero(f:Nat->Nat){l:List Nat}(h:l.length=5):mx f l 0=l:=by
 obtain⟨a0,a1,a2,a3,a4,rfl⟩:=oF h
 rfl
theorem mx_get(f:Nat->Nat)(l:List Nat){k:Nat}(h:k<5):(mx f l k)[k]! = l[k]!:=by
 rw [getElem!_pos _ k (by rw [mx_len];exact h)]
 simp [mx]
theorem mx_set(f:Nat->Nat)(l:List Nat){k:Nat}:(mx f l k).set k (f k)=mx f l (k+1):=by
 apply cJ (by simp [mx])
 intro j h1 h2
 rw [List.getElem_set];simp only [mx,List.getElem_map,List.getElem_range]
 by_cases hjk:k=j
 ·subst hjk
  simp
 ·rw [if_neg hjk]
  by_cases hlt:j<k
  ·rw [if_pos hlt,if_pos (by omega)]
  ·rw [if_neg hlt,if_neg (by omega)]
theorem eb_get{l:List Nat}{x:F}(h:EB l x){k:Nat}(hk:k<5):l[k]! < 2251799813947392 :=
 h.bnd _ (by rw [getElem!_pos l k (by rw [h.len];exact hk)];exact List.getElem_mem _)
def twl:List Nat:=[4503599627370458,4503599627370494,4503599627370494,4503599627370494,4503599627370494]
theorem twl_get{k:Nat}(h:k<5):4503599627370458<=twl[k]! /\ twl[k]! <= 4503599627370494:=by
 have h5:k=0\/k=1\/k=2\/k=3\/k=4:=by omega
 rcases h5 with rfl|rfl|rfl|rfl|rfl<;>decide
structure Tw(w:World):Prop where
  cell:∀i,i<5->w.cell? ⟨3,i,none⟩=some (.int .u64 (twl[i]! : Nat))
  lt : 3 < w.heap.size
theorem Tw.below{w w':World} (h:Tw w)(hb:Below w.heap.size w w'):Tw w' :=
 ⟨λi hi=>(hb.cell (p:=⟨3,i,none⟩) h.lt).trans (h.cell i hi),b9 h.lt hb.size⟩
theorem Tw.at{w:World}(h:Tw w){k:Nat}(hk:k<5):w.cell? ⟨3,k,none⟩=some (.int .u64 (twl[k]! : Nat)):=h.cell k hk
theorem small_f(v:Nat)(hv:v<18446744073709551616)(w:World) :
  Calls Tryz.prog 145 #[.int .u64 v] w λe w'=>∃r,EB r (fof v)/\e = .returned (.agg (Us r).toArray)/\Below w.heap.size w w':=by
 go_enter Tryz.func145,Tryz.ntmps145
 go_wp2
 rw [maskW v hv]
 have hE:EB [v%2251799813685248,v/2251799813685248,0,0,0] (fof v):=EB.mk5 (by omega) (by omega) (by omega) (by omega) (by omega) (by
  congr 1
  rw [lv5]
  omega)
 refine bodyPost_ret (results_cell_row rfl _ _ w.heap.size 193 _ (0,0) _ rfl (heap_alloc_new w _) Tryz.underlying193 rfl (size_el _ rfl)) rfl ⟨_,hE,rfl,?_⟩;exact(Below.refl _ _).alloc (aF _) _
theorem and248(m:Nat)(h:m<256):bits .and .u8 (m:Int) 248=((m/8*8:Nat):Int):=by
 have key:∀m:Nat,m<256->bits .and .u8 (m:Int) 248=((m/8*8:Nat):Int):=by decide +kernel
 exact key m h
theorem or64(m:Nat)(h:m<256):bits .or .u8 ((m%128:Nat):Int) 64=((m%64+64:Nat):Int):=by
 have key:∀m:Nat,m<256->bits .or .u8 ((m%128:Nat):Int) 64=((m%64+64:Nat):Int):=by decide +kernel
 exact key m h
theorem cop_set{d:List UInt8}(h:d.length=32){k:Nat}(hk:k<32)(x:UInt8):(cop z64 0 d).set k x=cop z64 0 (d.set k x):=by
 simp only [cop,h,bQ,o7,gJ];rw [List.set_append_left _ _ (by omega)]
theorem cop_get{d:List UInt8}(h:d.length=32){k:Nat}(hk:k<32):(cop z64 0 d)[k]! = d[k]!:=by
 simp only [cop,o7,gJ];rw [getElem!_pos _ k (by rw [aB];omega),getElem!_pos _ k (by omega),List.getElem_append_left]
structure Ta(w:World):Prop where
  tw:Tw w
  sh:Tsh w
theorem Ta.below{w w':World}(h:Ta w)(hb:Below w.heap.size w w'):Ta w':=⟨h.tw.below hb,h.sh.below hb⟩
theorem mul_a(seed:List UInt8):fB (Ed.mul dd (le (jQ seed)%LL) base)=gE seed:=by
 unfold gE
 generalize le (jQ seed)=n;exact congrArg fB (Ed.mul_mod good gB order n).symm
theorem sgR_eq{seed m:List UInt8}:le (cE dK (oT seed++([]++m)))%LL=sgR seed m:=rfl
theorem sgR_lt(seed m:List UInt8):sgR seed m<LL:=iI _
theorem sgK_eq{R key m:List UInt8}:le (cE dK (R++(key++m)))%LL=sgK R key m:=rfl
theorem sgK_lt(R key m:List UInt8):sgK R key m<LL:=iI _
theorem sgS_eq{seed m:List UInt8}:(sgR seed m+sgK (nL seed m) (gE seed) m*(le (jQ seed)%LL)%LL)%LL=sgS seed m:=by
 rw [sgS,Nat.mul_mod_mod,Nat.add_mod_mod]
theorem sig_cop{seed m:List UInt8}:cop (cop z64 0 (nL seed m)) 32 (Nums.bytes 32 (sgS seed m))=jE seed m:=by
 have h1:=jF seed m;have h2:=bW 32 (sgS seed m)
 have e:cop z64 0 (nL seed m)=nL seed m++aA 32 0:=by
  rw [cop,h1]
  simp [z64]
 rw [e,cop,h2,List.take_append_of_le_length (by rw [h1];exact aF _),bG (by rw [h1];exact aF _),List.drop_of_length_le (by rw [aB,h1,bE];exact aF _),List.append_nil]
 rfl
open Classical in
noncomputable def rightB(key sig m:List UInt8):Bool:=decide (Right key sig m)
open Classical in
theorem rightB_no{key sig m:List UInt8}(h:¬ ∃A,Ed.On dd A/\fB A=key):rightB key sig m=false:=decide_eq_false λ⟨A,h1,h2,_⟩=>h ⟨A,h1,h2⟩
open Classical in
theorem rightB_small{A:Ed.Pt p}{sig m:List UInt8}(hA:Ed.On dd A)(h:Ed.mul dd 8 A=Ed.zero):rightB (fB A) sig m=false:=decide_eq_false λ⟨B,h1,h2,h3,_⟩=>h3 (by rw [nE h1 hA h2];exact h)
open Classical in
theorem rightB_great{key sig m:List UInt8}(h:¬le (sig.drop 32)<LL):rightB key sig m=false:=decide_eq_false λ⟨_,_,_,_,h4,_⟩=>h h4
theorem rightB_is{A:Ed.Pt p}{sig m:List UInt8}(hA:Ed.On dd A)(h8:Ed.mul dd 8 A≠Ed.zero)(hS:le (sig.drop 32)<LL) :
  rightB (fB A) sig m=decide (fB (Ed.add dd (Ed.mul dd (le (Nums.bytes 32 (le (sig.drop 32)))) base) (Ed.mul dd (le (Nums.bytes 32 (sgK (sig.take 32) (fB A) m))) (Ed.neg A)))=sig.take 32):=by
 rw [l9 hS,l9 (sgK_lt _ _ _),Ed.mul_neg good hA]
 unfold rightB
 rw [decide_eq_decide]
 constructor
 ·rintro⟨B,h1,h2,_,_,h5⟩
  obtain rfl:=nE h1 hA h2;exact h5
 ·exact λh=>⟨A,hA,rfl,h8,hS,h⟩
theorem small_dec{A:Ed.Pt p}(hA:Ed.On dd A):fB (Ed.mul dd 8 A)=fB Ed.zero↔Ed.mul dd 8 A=Ed.zero :=
 ⟨λh=>nE (Ed.fM good hA 8) Ed.j1 h,λh=>by rw [h]⟩
def zH:List UInt8:=aA 32 0
def keyH(d k:List UInt8):List UInt8:=cE bJ ([[3],d,k]:List (List UInt8)).flatten
def dH(ks:List (List UInt8)):List UInt8:=ks.foldl keyH zH
def valH(ks:List (List UInt8)):List UInt8:=cE bJ ([[2],be8 ks.length,dH ks]:List (List UInt8)).flatten
theorem dig_len(m:List UInt8):(cE bJ m).length=32:=digest256_len m
theorem dH_len(ks:List (List UInt8)):(dH ks).length=32:=by
 unfold dH
 rw [List.foldl_eq_foldr_reverse]
 cases ks.reverse with
 | nil=>rfl
 | cons k r=>exact dig_len _
theorem dH_next{ks:List (List UInt8)}{i:Nat}{k:List UInt8}(h:ks[i]?=some k):dH (ks.take (i+1))=keyH (dH (ks.take i)) k:=by
 unfold dH
 rw [List.take_add_one,h,List.foldl_append]
 rfl
structure UV where
  id:List UInt8
  ver:Int
  key:List UInt8
  sig:List UInt8
def UV.parts(u:UV):List Pt:=[.agg 32 (By u.id).toArray,.one (.v (.int .i64 u.ver)),.agg 32 (By u.key).toArray,.agg 64 (By u.sig).toArray]
abbrev eU(u:UV):SQ:=.p u.parts
structure UV.Ok(u:UV):Prop where
  id:u.id.length=32
  key:u.key.length=32
  sig:u.sig.length=64
theorem UV.Ok.parts_ok{u:UV}(h:u.Ok):OkP u.parts:=λp hp=>by
 simp only [UV.parts,aL,lM,or_false] at hp
 rcases hp with rfl|rfl|rfl|rfl
 ·exact(eY_ok h.id).1 _ (aE.2 rfl)
 ·exact⟨trivial,rfl,rfl⟩
 ·exact(eY_ok h.key).1 _ (aE.2 rfl)
 ·exact(eY_ok h.sig).1 _ (aE.2 rfl)
theorem eU_ok{u:UV}(h:u.Ok):OkP (eU u).parts1/\(eU u).cl.length=129:=⟨h.parts_ok,by
 rw [SQ.cl,show(eU u).den.cells=catP u.parts from rfl,Array.length_toList,OkP.size h.parts_ok]
 rfl⟩
def u64N(z:Int):Nat:=(IntKind.u64.wrap z).toNat
theorem u64N_lt(z:Int):u64N z<18446744073709551616:=by
 unfold u64N
 rw [u64_is]
 omega
theorem u64N_is(z:Int):IntKind.u64.wrap z=(u64N z:Int):=by
 unfold u64N
 rw [u64_is]
 omega
def bodyH(v:Int)(k:List UInt8):List UInt8:=be8 (u64N v)++k
theorem bodyH_len{v:Int}{k:List UInt8}(h:k.length=32):(bodyH v k).length=40:=by
 unfold bodyH
 rw [aB,be8_len,h]
noncomputable def signB(u:UV):Bool:=decide (1<=u.ver/\u.ver<=64)&&rightB u.id u.sig (msg 1 (bodyH u.ver u.key))
noncomputable def mkH(seed:List UInt8)(v:Int)(k:List UInt8):UV:=⟨gE seed,v,k,jE seed (msg 1 (bodyH v k))⟩
theorem mkH_ok(seed:List UInt8)(v:Int){k:List UInt8}(h:k.length=32):(mkH seed v k).Ok:=⟨nM _,h,pT _ _⟩
open Classical in
theorem right_made(seed:List UInt8)(m:List UInt8):rightB (gE seed) (jE seed m) m=true:=by
 unfold rightB
 exact decide_eq_true (s9 seed m)
theorem signB_made(seed:List UInt8)(v:Int)(k:List UInt8):signB (mkH seed v k)=decide (1<=v/\v<=64):=by
 unfold signB mkH
 dsimp only
 rw [right_made,Bool.and_true]
end Go.Proofs.YtlhlkofpjhpaoaaGreatDoor
namespace Nums
def cK(k:List UInt8)(n:Nat):Nat:=(k[n/8]!).toNat/2^(7-n%8)%2
def cU:List UInt8->List UInt8->Bool
  | a::az,b::bs=>if a=b then cU az bs else decide (a.toNat<b.toNat)
  | _,_=>false
abbrev PairT:=List UInt8×List UInt8
def dT:List PairT->PairT->List PairT
  | [],p=>[p]
  | q::r,p=>if cU q.1 p.1 then q::dT r p else if q.1=p.1 then p::r else p::q::r
def nB(l:List PairT)(k:List UInt8):Option (List UInt8):=(l.find? λq=>q.1==k).map (·.2)
def dJ:List UInt8:=aA 32 0
def g6(p:PairT):List UInt8:=cE bJ (0::(p.1++p.2))
def fF(a b:List UInt8):List UInt8:=cE bJ (1::(a++b))
def dX:Nat->List PairT->List UInt8
  | _,[]=>dJ
  | _,[p]=>g6 p
  | 0,_::_::_=>dJ
  | r+1,p::q::l=>fF (dX r ((p::q::l).filter λx=>cK x.1 (255-r)==0)) (dX r ((p::q::l).filter λx=>cK x.1 (255-r) != 0))
theorem cD:∀a:List UInt8,cU a a=false
 | []=>rfl
 | a::az=>by unfold cU;rw [if_pos rfl];exact cD az
theorem fK:∀{a b c:List UInt8},cU a b=true->cU b c=true->cU a c=true
 | [],_,_,h,_=>by cases ‹List UInt8› <;> cases h
 | _::_,[],_,h,_=>by cases h
 | _::_,_::_,[],_,h=>by cases h
 | a::az,b::bs,c::cs,h,k=>by
  unfold cU at h k ⊢
  by_cases e1:a=b
  ·subst e1
   rw [if_pos rfl] at h
   by_cases e2:a=c
   ·rw [if_pos e2] at k ⊢
    exact fK h k
   ·rw [if_neg e2] at k ⊢
    exact k
  ·rw [if_neg e1] at h
   have h:=of_decide_eq_true h
   by_cases e2:b=c
   ·subst e2
    rw [if_neg e1];exact decide_eq_true h
   ·rw [if_neg e2] at k
    have k:=of_decide_eq_true k
    have e3:a≠c:=λe=>by subst e;omega
    rw [if_neg e3];exact decide_eq_true (by omega)
theorem gQ:∀{a b:List UInt8},a.length=b.length->cU a b=false->a≠b->cU b a=true
 | [],[],_,_,h=>absurd rfl h
 | [],_::_,h,_,_=>by cases h
 | _::_,[],h,_,_=>by cases h
 | a::az,b::bs,hl,h,hn=>by
  unfold cU at h ⊢
  by_cases e:a=b
  ·subst e
   rw [if_pos rfl] at h ⊢;exact gQ (by simpa using hl) h λe=>hn (by rw [e])
  ·rw [if_neg e] at h
   rw [if_neg λx=>e x.symm];have h:=of_decide_eq_false h;have:a.toNat≠b.toNat:=λx=>e (qB.1 x);exact decide_eq_true (by omega)
theorem nZ{a b:List UInt8}(h:cU a b=true):cU b a=false:=by
 cases hb:cU b a with
 | false=>rfl
 | true=>have:=fK h hb;rw [cD] at this;cases this
def cV(l:List PairT):Prop:=l.Pairwise λp q=>cU p.1 q.1=true
def gL(l:List PairT):Prop:=∀p∈l,p.1.length=32
theorem cV.cons{p:PairT}{l:List PairT}:cV (p::l)↔(∀q∈l,cU p.1 q.1=true)/\cV l:=b6
theorem cV.filter{l:List PairT}(h:cV l)(f:PairT->Bool):cV (l.filter f):=List.Pairwise.filter f h
theorem gL.filter{l:List PairT}(h:gL l)(f:PairT->Bool):gL (l.filter f):=λp hp=>h p (List.mem_filter.1 hp).1
theorem cV.ext:∀{l m:List PairT},cV l->cV m->(∀p,p∈l↔p∈m)->l=m
 | [],[],_,_,_=>rfl
 | [],q::m,_,_,h=>absurd ((h q).2 aP) (by simp)
 | p::l,[],_,_,h=>absurd ((h p).1 aP) (by simp)
 | p::l,q::m,hl,hm,h=>by
  obtain⟨h1,h2⟩:=cV.cons.1 hl;obtain⟨k1,k2⟩:=cV.cons.1 hm
  have e:p=q:=by
   rcases aL.1 ((h p).1 aP) with e|hp
   ·exact e
   ·rcases aL.1 ((h q).2 aP) with e|hq
    ·exact e.symm
    ·have a:=h1 q hq
     rw [nZ (k1 p hp)] at a
     cases a
  subst e;refine congrArg (p :: ·) (cV.ext h2 k2 λx=>⟨λhx=>?_,λhx=>?_⟩)
  ·rcases aL.1 ((h x).1 (aJ _ hx)) with e|hx2
   ·subst e
    have a:=h1 x hx;rw [cD] at a
    cases a
   ·exact hx2
  ·rcases aL.1 ((h x).2 (aJ _ hx)) with e|hx2
   ·subst e
    have a:=k1 x hx;rw [cD] at a
    cases a
   ·exact hx2
theorem cV.key{l:List PairT}(h:cV l){p q:PairT}(hp:p∈l)(hq:q∈l)(e:p.1=q.1):p=q:=by
 induction l with
 | nil=>cases hp
 | cons x l ih =>
  obtain⟨h1,h2⟩:=cV.cons.1 h
  rcases aL.1 hp with e1|hp2<;>rcases aL.1 hq with e2|hq2
  ·rw [e1,e2]
  ·have:=h1 q hq2
   rw [<-e1,<-e,cD] at this
   cases this
  ·have:=h1 p hp2
   rw [<-e2,e,cD] at this
   cases this
  ·exact ih h2 hp2 hq2
theorem kH:∀{l:List PairT} {p:PairT},cV l->gL l->p.1.length=32->∀x,x∈dT l p↔x=p\/(x∈l/\x.1≠p.1)
 | [],p,_,_,_,x=>by simp [dT]
 | q::l,p,hs,hk,hp,x=>by
  obtain⟨h1,h2⟩:=cV.cons.1 hs;have hq:q.1.length=32:=hk q aP;have hkl:gL l:=λy hy=>hk y (aJ _ hy)
  unfold dT
  by_cases h:cU q.1 p.1=true
  ·rw [if_pos h,aL,kH h2 hkl hp x,aL]
   have hne:q.1≠p.1:=λe=>by rw [e,cD] at h;cases h
   constructor
   ·rintro(rfl|rfl|⟨a,b⟩)
    ·exact .inr ⟨.inl rfl,hne⟩
    ·exact .inl rfl
    ·exact .inr ⟨.inr a,b⟩
   ·rintro(rfl|⟨rfl|a,b⟩)
    ·exact .inr (.inl rfl)
    ·exact .inl rfl
    ·exact .inr (.inr ⟨a,b⟩)
  ·rw [if_neg h]
   by_cases e:q.1=p.1
   ·rw [if_pos e,aL,aL]
    constructor
    ·rintro(rfl|a)
     ·exact .inl rfl
     ·exact .inr ⟨.inr a,λe2=>by have:=h1 x a;rw [e,e2,cD] at this;cases this⟩
    ·rintro(rfl|⟨rfl|a,b⟩)
     ·exact .inl rfl
     ·exact absurd e b
     ·exact .inr a
   ·rw [if_neg e,aL,aL]
    have hgt:=gQ (by rw [hq,hp]) (by simpa using h) e
    constructor
    ·rintro(rfl|rfl|a)
     ·exact .inl rfl
     ·exact .inr ⟨.inl rfl,e⟩
     ·exact .inr ⟨.inr a,λe2=>by have:=fK hgt (h1 x a);rw [e2,cD] at this;cases this⟩
    ·rintro(rfl|⟨rfl|a,b⟩)
     ·exact .inl rfl
     ·exact .inr (.inl rfl)
     ·exact .inr (.inr a)
theorem kG:∀{l:List PairT} {p:PairT},cV l->gL l->p.1.length=32->cV (dT l p)
 | [],p,_,_,_=>by simp [dT,cV]
 | q::l,p,hs,hk,hp=>by
  obtain⟨h1,h2⟩:=cV.cons.1 hs;have hq:q.1.length=32:=hk q aP;have hkl:gL l:=λy hy=>hk y (aJ _ hy)
  unfold dT
  by_cases h:cU q.1 p.1=true
  ·rw [if_pos h]
   refine cV.cons.2 ⟨λx hx=>?_,kG h2 hkl hp⟩
   rcases(kH h2 hkl hp x).1 hx with rfl|hx
   ·exact h
   ·exact h1 x hx.1
  ·rw [if_neg h]
   by_cases e:q.1=p.1
   ·rw [if_pos e]
    exact cV.cons.2 ⟨λx hx=>by rw [<-e];exact h1 x hx,h2⟩
   ·rw [if_neg e]
    have hgt:=gQ (by rw [hq,hp]) (by simpa using h) e;refine cV.cons.2 ⟨λx hx=>?_,hs⟩
    rcases aL.1 hx with rfl|hx
    ·exact hgt
    ·exact fK hgt (h1 x hx)
theorem mA{l:List PairT}{k v:List UInt8}(hs:cV l):nB l k=some v↔(k,v)∈l:=by
 unfold nB
 constructor
 ·intro h
  cases hf:l.find? (λq=>q.1==k) with
  | none=>rw [hf] at h;cases h
  | some q =>
   rw [hf] at h;simp only [Option.map_some,aW] at h;have h1:=List.find?_some hf;have h2:=lB hf
   have e:q.1=k:=by simpa using h1
   subst e;subst h;exact h2
 ·intro h
  cases hf:l.find? (λq=>q.1==k) with
  | none =>
   have:=kQ.1 hf (k,v) h
   simp at this
  | some q =>
   have h1:=List.find?_some hf;have h2:=lB hf
   have e:q.1=k:=by simpa using h1
   have:=hs.key h2 h e;subst this
   rfl
theorem mB{l:List PairT}{k:List UInt8}:nB l k=none↔∀q∈l,q.1≠k:=by
 unfold nB
 rw [Option.map_eq_none_iff,kQ]
 simp
theorem lA(k:List UInt8)(n:Nat):cK k n<2:=cO _ (by decide)
theorem qA(a b:Nat)(ha:a<256)(hb:b<256)(h:∀j,j<8->a/2^(7-j)%2=b/2^(7-j)%2):a=b:=by
 have h0:=h 0 (by decide);have h1:=h 1 (by decide);have h2:=h 2 (by decide);have h3:=h 3 (by decide);have h4:=h 4 (by decide);have h5:=h 5 (by decide);have h6:=h 6 (by decide);have h7:=h 7 (by decide);simp only [fL,cI] at h0 h1 h2 h3 h4 h5 h6 h7
 omega
theorem tH(a b j:Nat)(ha:a<256)(hb:b<256)(hj:j<8)(h:∀i,i<j->a/2^(7-i)%2=b/2^(7-i)%2)(h0:a/2^(7-j)%2=0)(h1:b/2^(7-j)%2≠0):a<b:=by
 have hj8:j=0\/j=1\/j=2\/j=3\/j=4\/j=5\/j=6\/j=7:=by omega
 rcases hj8 with rfl|rfl|rfl|rfl|rfl|rfl|rfl|rfl
 ·simp only [fL,cI] at h0 h1;omega
 ·have e0:=h 0 (by decide);simp only [fL,cI] at h0 h1 e0;omega
 ·have e0:=h 0 (by decide);have e1:=h 1 (by decide);simp only [fL,cI] at h0 h1 e0 e1;omega
 ·have e0:=h 0 (by decide);have e1:=h 1 (by decide);have e2:=h 2 (by decide);simp only [fL,cI] at h0 h1 e0 e1 e2;omega
 ·have e0:=h 0 (by decide);have e1:=h 1 (by decide);have e2:=h 2 (by decide);have e3:=h 3 (by decide);simp only [fL,cI] at h0 h1 e0 e1 e2 e3;omega
 ·have e0:=h 0 (by decide);have e1:=h 1 (by decide);have e2:=h 2 (by decide);have e3:=h 3 (by decide);have e4:=h 4 (by decide);simp only [fL,cI] at h0 h1 e0 e1 e2 e3 e4;omega
 ·have e0:=h 0 (by decide);have e1:=h 1 (by decide);have e2:=h 2 (by decide);have e3:=h 3 (by decide);have e4:=h 4 (by decide);have e5:=h 5 (by decide);simp only [fL,cI] at h0 h1 e0 e1 e2 e3 e4 e5;omega
 ·have e0:=h 0 (by decide);have e1:=h 1 (by decide);have e2:=h 2 (by decide);have e3:=h 3 (by decide);have e4:=h 4 (by decide);have e5:=h 5 (by decide);have e6:=h 6 (by decide);simp only [fL,cI] at h0 h1 e0 e1 e2 e3 e4 e5 e6;omega
theorem jC(k:List UInt8)(i j:Nat)(hj:j<8):cK k (8*i+j)=(k[i]!).toNat/2^(7-j)%2:=by
 unfold cK
 rw [show(8*i+j)/8=i by omega,show(8*i+j)%8=j by omega]
def nR(d:Nat)(a b:List UInt8):Prop:=∀n,n<d->cK a n=cK b n
theorem nR.all{a b:List UInt8}(ha:a.length=32)(hb:b.length=32)(h:nR 256 a b):a=b:=by
 apply cJ (by rw [ha,hb])
 intro i h1 h2
 have e:=qA (a[i]!).toNat (b[i]!).toNat (cQ _) (cQ _) λj hj=>by
  rw [<-jC a i j hj,<-jC b i j hj];exact h _ (by omega)
 have e:=qB.1 e;rw [getElem!_pos a i h1,getElem!_pos b i h2] at e;exact e
theorem rF:∀(i:Nat) {a b:List UInt8},i<a.length->i<b.length->(∀j,j<i->a[j]! = b[j]!)->(a[i]!).toNat<(b[i]!).toNat->cU a b=true
 | _,[],_,h,_,_,_=>by cases h
 | _,_::_,[],_,h,_,_=>by cases h
 | 0,a::az,b::bs,_,_,_,h=>by
  have h:a.toNat<b.toNat:=h
  unfold cU
  rw [if_neg λe=>by subst e;omega];exact decide_eq_true h
 | i+1,a::az,b::bs,ha,hb,he,h=>by
  have e0:a=b:=he 0 (by omega)
  unfold cU
  rw [if_pos e0];exact rF i (by simpa using ha) (by simpa using hb) (λj hj=>he (j+1) (by omega)) h
theorem nR.less{d:Nat}{a b:List UInt8}(hd:d<256)(ha:a.length=32)(hb:b.length=32)(h:nR d a b)(h0:cK a d=0)(h1:cK b d≠0):cU a b=true:=by
 refine rF (d/8) (by omega) (by omega) (λi hi=>?_) ?_
 ·refine qB.1 (qA _ _ (cQ _) (cQ _) λj hj=>?_)
  rw [<-jC a i j hj,<-jC b i j hj];exact h _ (by omega)
 ·refine tH _ _ (d%8) (cQ _) (cQ _) (by omega) (λj hj=>?_) h0 h1
  rw [<-jC a (d/8) j (by omega),<-jC b (d/8) j (by omega)];exact h _ (by omega)
def dO(d:Nat)(l:List PairT):Prop:=∀p∈l,∀q∈l,nR d p.1 q.1
def bS(d:Nat)(l:List PairT):List PairT:=l.filter λx=>cK x.1 d==0
def bC(d:Nat)(l:List PairT):List PairT:=l.filter λx=>cK x.1 d != 0
theorem fG{d:Nat}{l:List PairT}{x:PairT}:x∈bS d l↔x∈l/\cK x.1 d=0:=by simp [bS]
theorem eF{d:Nat}{l:List PairT}{x:PairT}:x∈bC d l↔x∈l/\cK x.1 d≠0:=by simp [bC]
theorem dO.left{d:Nat}{l:List PairT}(h:dO d l):dO (d+1) (bS d l):=λp hp q hq n hn=>by
 obtain⟨hp,bp⟩:=fG.1 hp;obtain⟨hq,bq⟩:=fG.1 hq
 by_cases e:n=d
 ·subst e;rw [bp,bq]
 ·exact h p hp q hq n (by omega)
theorem dO.right{d:Nat}{l:List PairT}(h:dO d l):dO (d+1) (bC d l):=λp hp q hq n hn=>by
 obtain⟨hp,bp⟩:=eF.1 hp;obtain⟨hq,bq⟩:=eF.1 hq
 by_cases e:n=d
 ·subst e
  have:=lA p.1 n;have:=lA q.1 n
  omega
 ·exact h p hp q hq n (by omega)
theorem s7{d:Nat}{l:List PairT}(hd:d<256)(hs:cV l)(hk:gL l)(h:dO d l):bS d l++bC d l=l:=by
 refine cV.ext (List.pairwise_append.2 ⟨hs.filter _,hs.filter _,λp hp q hq=>?_⟩) hs λx=>?_
 ·obtain⟨hp,bp⟩:=fG.1 hp
  obtain⟨hq,bq⟩:=eF.1 hq;exact(h p hp q hq).less hd (hk p hp) (hk q hq) bp bq
 ·rw [bR,fG,eF]
  constructor
  ·rintro(h|h)<;>exact h.1
  ·intro hx
   by_cases e:cK x.1 d=0
   ·exact .inl ⟨hx,e⟩
   ·exact .inr ⟨hx,e⟩
theorem dO.one{l:List PairT}(hs:cV l)(hk:gL l)(h:dO 256 l):l.length<=1:=by
 match l,hs,hk,h with
 | [],_,_,_=>decide
 | [_],_,_,_=>exact aF _
 | p::q::l,hs,hk,h =>
  have e:=(h p (by simp) q (by simp)).all (hk p (by simp)) (hk q (by simp));have:=(cV.cons.1 hs).1 q (by simp);rw [e,cD] at this
  cases this
theorem l7{d:Nat}{l:List PairT}{p:PairT}(hs:cV l)(hk:gL l)(hp:p.1.length=32):bS d (dT l p)=if cK p.1 d=0 then dT (bS d l) p else bS d l:=by
 refine cV.ext ((kG hs hk hp).filter _) (by split;exact kG (hs.filter _) (hk.filter _) hp;exact hs.filter _) λx=>?_;rw [fG,kH hs hk hp]
 split
 ·rename_i e
  rw [kH (l:=bS d l) (hs.filter _) (hk.filter _) hp,fG]
  constructor
  ·rintro⟨rfl|⟨a,b⟩,c⟩
   ·exact .inl rfl
   ·exact .inr ⟨⟨a,c⟩,b⟩
  ·rintro(rfl|⟨⟨a,c⟩,b⟩)
   ·exact⟨.inl rfl,e⟩
   ·exact⟨.inr ⟨a,b⟩,c⟩
 ·rename_i e
  rw [fG]
  constructor
  ·rintro⟨rfl|⟨a,b⟩,c⟩
   ·exact absurd c e
   ·exact⟨a,c⟩
  ·rintro⟨a,c⟩
   exact⟨.inr ⟨a,λe2=>e (by rw [<-e2];exact c)⟩,c⟩
theorem k7{d:Nat}{l:List PairT}{p:PairT}(hs:cV l)(hk:gL l)(hp:p.1.length=32):bC d (dT l p)=if cK p.1 d=0 then bC d l else dT (bC d l) p:=by
 refine cV.ext ((kG hs hk hp).filter _) (by split;exact hs.filter _;exact kG (hs.filter _) (hk.filter _) hp) λx=>?_;rw [eF,kH hs hk hp]
 split
 ·rename_i e
  rw [eF]
  constructor
  ·rintro⟨rfl|⟨a,b⟩,c⟩
   ·exact absurd e c
   ·exact⟨a,c⟩
  ·rintro⟨a,c⟩
   exact⟨.inr ⟨a,λe2=>c (by rw [e2];exact e)⟩,c⟩
 ·rename_i e
  rw [kH (l:=bC d l) (hs.filter _) (hk.filter _) hp,eF]
  constructor
  ·rintro⟨rfl|⟨a,b⟩,c⟩
   ·exact .inl rfl
   ·exact .inr ⟨⟨a,c⟩,b⟩
  ·rintro(rfl|⟨⟨a,c⟩,b⟩)
   ·exact⟨.inl rfl,e⟩
   ·exact⟨.inr ⟨a,b⟩,c⟩
theorem kW{r:Nat}{l:List PairT}(h:2<=l.length):dX (r+1) l=fF (dX r (bS (255-r) l)) (dX r (bC (255-r) l)):=by
 match l,h with
 | p::q::l,_=>rfl
theorem kE(r:Nat):dX r []=dJ:=by cases r<;>rfl
theorem jA(r:Nat)(p:PairT):dX r [p]=g6 p:=by cases r<;>rfl
end Nums
namespace Nums
abbrev EntD:=List UInt8×List (List UInt8)
def bU(l:List EntD)(id:List UInt8):List (List UInt8):=match l.find? λe=>e.1==id with
  | some e=>e.2
  | none=>[]
def iB:List EntD->List UInt8->List (List UInt8)->List EntD
  | [],id,ks=>[(id,ks)]
  | e::l,id,ks=>if cU e.1 id then e::iB l id ks else if e.1=id then(id,ks)::l else(id,ks)::e::l
structure UD where
  id:List UInt8
  version:Int
  key:List UInt8
  signed:Bool
def okD(l:List EntD)(u:UD):Bool:=u.signed&&decide (u.version=(bU l u.id).length+1)
def iV(l:List EntD)(u:UD):List EntD:=if okD l u=true then iB l u.id (bU l u.id++[u.key]) else l
def fN(l:List EntD)(us:List UD):List EntD:=us.foldl iV l
structure DirOk(l:List EntD):Prop where
  sort:l.Pairwise λa b=>cU a.1 b.1=true
  ids:∀e∈l,e.1.length=32
  some:∀e∈l,e.2≠[]
  keys:∀e∈l,∀k∈e.2,k.length=32
theorem DirOk.nil:DirOk []:=⟨sV,by simp,by simp,by simp⟩
theorem DirOk.tail{e:EntD}{l:List EntD}(h:DirOk (e::l)):DirOk l:=⟨(b6.1 h.sort).2,λx hx=>h.ids x (.tail _ hx),λx hx=>h.some x (.tail _ hx),λx hx=>h.keys x (.tail _ hx)⟩
theorem kI:∀{l:List EntD} {id:List UInt8} {ks:List (List UInt8)} {x:EntD},x∈iB l id ks->x=(id,ks)\/x∈l
 | [],id,ks,x,h=>.inl (aE.1 h)
 | e::l,id,ks,x,h=>by
  unfold iB at h
  split at h
  ·rcases aL.1 h with h|h
   ·exact .inr (h ▸ .head _)
   ·exact(kI h).imp_right (.tail _)
  ·split at h
   ·rcases aL.1 h with h|h
    ·exact .inl h
    ·exact .inr (.tail _ h)
   ·exact(aL.1 h)
theorem pU:∀{l:List EntD} {id:List UInt8} {ks:List (List UInt8)},DirOk l->id.length=32->(iB l id ks).Pairwise λa b=>cU a.1 b.1=true
 | [],_,_,_,_=>List.pairwise_singleton _ _
 | e::l,id,ks,h,hi=>by
  have h1:=b6.1 h.sort
  unfold iB
  split
  ·rename_i hlt
   refine b6.2 ⟨λx hx=>?_,pU h.tail hi⟩
   rcases kI hx with rfl|hx
   ·exact hlt
   ·exact h1.1 x hx
  ·rename_i hlt
   split
   ·rename_i he
    exact b6.2 ⟨λx hx=>he▸h1.1 x hx,h1.2⟩
   ·rename_i he
    have h2:cU id e.1=true:=gQ (by rw [hi,h.ids e (.head _)]) (by simpa using hlt) he;refine b6.2 ⟨λx hx=>?_,h.sort⟩
    rcases aL.1 hx with rfl|hx
    ·exact h2
    ·exact fK h2 (h1.1 x hx)
theorem DirOk.put{l:List EntD}{id:List UInt8}{ks:List (List UInt8)}(h:DirOk l)(hi:id.length=32)(hk:ks≠[])(h32:∀k∈ks,k.length=32):DirOk (iB l id ks):=⟨pU h hi,λx hx=>by
 rcases kI hx with rfl|hx
 ·exact hi
 ·exact h.ids x hx,λx hx=>by
 rcases kI hx with rfl|hx
 ·exact hk
 ·exact h.some x hx,λx hx=>by
 rcases kI hx with rfl|hx
 ·exact h32
 ·exact h.keys x hx⟩
theorem cH(e:EntD)(l:List EntD)(id:List UInt8):bU (e::l) id=if e.1=id then e.2 else bU l id:=by
 unfold bU
 rw [List.find?_cons]
 by_cases h:e.1=id
 ·simp [h]
 ·have:(e.1==id)=false:=by simpa using h
  simp [this,h]
theorem nA{l:List EntD}{id:List UInt8}(h:∀e∈l,cU id e.1=true):bU l id=[]:=by
 unfold bU
 have:(l.find? λe=>e.1==id)=none:=kQ.2 λe he h2=>by
  have h3:e.1=id:=by simpa using h2
  have h4:=h e he;rw [h3,cD] at h4
  cases h4
 rw [this]
theorem kK:∀{l:List EntD} {id:List UInt8} {ks:List (List UInt8)},∀x,bU (iB l id ks) x=if x=id then ks else bU l x
 | [],id,ks,x=>by
  show bU [(id,ks)] x=_
  rw [cH]
  by_cases h:x=id
  ·simp [h]
  ·rw [if_neg (λh2=>h h2.symm),if_neg h]
 | e::l,id,ks,x=>by
  unfold iB
  split
  ·rename_i hlt
   have he:e.1≠id:=λh=>by
    rw [h,cD] at hlt
    cases hlt
   rw [cH,cH,kK x]
   by_cases hx:x=id
   ·subst hx
    rw [if_neg he,if_pos rfl,if_pos rfl]
   ·rw [if_neg hx,if_neg hx]
  ·split
   ·rename_i he
    rw [cH,cH]
    by_cases hx:x=id
    ·simp [hx]
    ·rw [if_neg (λh2=>hx h2.symm),if_neg hx,if_neg (λh2=>hx (h2.symm.trans he))]
   ·rw [cH]
    by_cases hx:x=id
    ·simp [hx]
    ·rw [if_neg (λh2=>hx h2.symm),if_neg hx]
theorem DirOk.ext:∀{l m:List EntD},DirOk l->DirOk m->(∀x,bU l x=bU m x)->l=m
 | [],[],_,_,_=>rfl
 | [],e::m,_,hm,h=>by
  have h1:=h e.1;rw [cH,if_pos rfl] at h1;exact absurd h1.symm (hm.some e (.head _))
 | e::l,[],hl,_,h=>by
  have h1:=h e.1;rw [cH,if_pos rfl] at h1;exact absurd h1 (hl.some e (.head _))
 | e::l,f::m,hl,hm,h=>by
  have sl:=b6.1 hl.sort;have sm:=b6.1 hm.sort
  have key:∀{a b:EntD} {p q:List EntD},DirOk (a::p)->DirOk (b::q)->(∀x,bU (a::p) x=bU (b::q) x)->cU a.1 b.1=true->False:=λ{a b p q} ha hb hx hlt=>by
   have h1:=hx a.1
   rw [cH,if_pos rfl,nA (l:=b::q) (λy hy=>by
    rcases aL.1 hy with rfl|hy
    ·exact hlt
    ·exact fK hlt ((b6.1 hb.sort).1 y hy))] at h1
   exact ha.some a (.head _) h1
  have he:e.1=f.1:=by
   by_cases h1:e.1=f.1
   ·exact h1
   ·cases h2:cU e.1 f.1 with
    | true=>exact(key hl hm h h2).elim
    | false=>exact(key hm hl (λx=>(h x).symm) (gQ (by rw [hl.ids e (.head _),hm.ids f (.head _)]) h2 h1)).elim
  have h2:e.2=f.2:=by
   have h1:=h e.1
   rwa [cH,if_pos rfl,cH,if_pos he.symm] at h1
  have h3:e=f:=Prod.ext he h2;subst h3;refine congrArg _ (DirOk.ext hl.tail hm.tail λx=>?_)
  by_cases hx:e.1=x
  ·subst hx
   rw [nA sl.1,nA sm.1]
  ·have h1:=h x
   rwa [cH,cH,if_neg hx,if_neg hx] at h1
theorem uU{l:List EntD}(h:DirOk l)(id:List UInt8):∀k∈bU l id,k.length=32:=by
 unfold bU
 split
 ·rename_i e he
  exact h.keys e (lB he)
 ·exact λk hk=>by cases hk
theorem DirOk.step{l:List EntD}{u:UD}(h:DirOk l)(hi:u.id.length=32)(hk:u.key.length=32):DirOk (iV l u):=by
 unfold iV
 split
 ·exact h.put hi (by simp) λk hk2=>by
   rcases bR.1 hk2 with h2|h2
   ·exact uU h _ k h2
   ·rw [aE.1 h2]
    exact hk
 ·exact h
structure tI(us:List UD):Prop where
  ids:∀u∈us,u.id.length=32
  keys:∀u∈us,u.key.length=32
theorem tI.tail{u:UD}{us:List UD}(h:tI (u::us)):tI us:=⟨λx hx=>h.ids x (.tail _ hx),λx hx=>h.keys x (.tail _ hx)⟩
theorem DirOk.apply:∀{us:List UD} {l:List EntD},DirOk l->tI us->DirOk (fN l us)
 | [],_,h,_=>h
 | u::us,l,h,hu=>DirOk.apply (us:=us) (l:=iV l u) (h.step (hu.ids u (.head _)) (hu.keys u (.head _))) hu.tail
theorem sA(l:List EntD)(us vs:List UD):fN l (us++vs)=fN (fN l us) vs:=List.foldl_append
def oE(id key:List UInt8):List EntD->Bool->List EntD
  | [],done=>if done then [] else [(id,[key])]
  | e::l,done=>(if !done&&cU id e.1 then [(id,[key])] else [])++(e.1,if e.1=id then e.2++[key] else e.2)::oE id key l (done||cU id e.1||decide (e.1=id))
theorem nO{id key:List UInt8}:∀{l:List EntD},(∀e∈l,e.1≠id)->oE id key l true=l
 | [],_=>rfl
 | e::l,h=>by
  show(e.1,if e.1=id then e.2++[key] else e.2)::oE id key l true=e::l
  rw [if_neg (h e (.head _)),nO λx hx=>h x (.tail _ hx)]
theorem oW{a b:List UInt8}(h:cU a b=true):b≠a:=λe=>by
 rw [e,cD] at h
 cases h
theorem q8{id key:List UInt8}(hi:id.length=32):∀{l:List EntD},DirOk l->oE id key l false=iB l id (bU l id++[key])
 | [],_=>rfl
 | e::l,h=>by
  have h1:=b6.1 h.sort
  by_cases a:cU e.1 id=true
  ·have b:=nZ a
   have c:e.1≠id:=(oW a).symm
   unfold oE iB
   have d:decide (e.1=id)=false:=decide_eq_false c;rw [b,if_pos a,if_neg c,d,cH,if_neg c,<-q8 hi h.tail]
   rfl
  ·by_cases c:e.1=id
   ·subst c
    unfold oE iB
    rw [cD,if_neg (by simp),if_pos rfl,if_pos rfl,cH,if_pos rfl];simp only [Bool.or_self,decide_true,Bool.or_true,Bool.false_eq_true,if_false,gJ];rw [nO λx hx=>oW (h1.1 x hx)]
   ·have b:cU id e.1=true:=gQ (by rw [hi,h.ids e (.head _)]) (by simpa using a) c
    unfold oE iB
    rw [b,if_neg a,if_neg c,if_neg c,nA (l:=e::l) (λx hx=>by
     rcases aL.1 hx with rfl|hx
     ·exact b
     ·exact fK b (h1.1 x hx))]
    show [(id,[key])]++(e.1,e.2)::oE id key l true=_
    rw [nO (l:=l) λx hx=>oW (fK b (h1.1 x hx))]
    rfl
def lX(z:List EntD)(es:List EntD):List EntD:=es.foldl (λz e=>if e.2=[] then z else iB z e.1 e.2) z
theorem pZ{l:List EntD}{x:List UInt8}(h:∀e∈l,e.1≠x):bU l x=[]:=by
 unfold bU
 rw [kQ.2 λe he h2=>h e he (by simpa using h2)]
theorem oX:∀{l:List EntD} {e:EntD},l.Pairwise (λa b=>a.1≠b.1)->e∈l->bU l e.1=e.2
 | [],_,_,h=>by cases h
 | a::l,e,hp,h=>by
  have h1:=b6.1 hp;rw [cH]
  rcases aL.1 h with rfl|h
  ·rw [if_pos rfl]
  ·rw [if_neg (h1.1 e h),oX h1.2 h]
theorem n6:∀{es:List EntD},es.Pairwise (λa b=>a.1≠b.1)->∀(z:List EntD) (x:List UInt8),bU (lX z es) x=if bU es x=[] then bU z x else bU es x
 | [],_,_,_=>rfl
 | e::es,hp,z,x=>by
  have h1:=b6.1 hp
  show bU (lX (if e.2=[] then z else iB z e.1 e.2) es) x=_
  rw [n6 h1.2,cH]
  by_cases hx:e.1=x
  ·subst hx
   rw [if_pos rfl,if_pos (pZ λy hy=>(h1.1 y hy).symm)]
   by_cases hn:e.2=[]
   ·rw [if_pos hn,if_pos hn]
   ·rw [if_neg hn,if_neg hn,kK,if_pos rfl]
  ·rw [if_neg hx]
   by_cases hn:e.2=[]
   ·rw [if_pos hn]
   ·have e2:(if x=e.1 then e.2 else bU z x)=bU z x:=if_neg λh=>hx h.symm
    rw [if_neg hn,kK,e2]
end Nums
namespace Go.Proofs.YtlhlkofpjhpaoaaGreatDoor
open Nums
def pairD(e:EntD):PairT:=(e.1,valH e.2)
def pairsD(l:List EntD):List PairT:=l.map pairD
theorem pairsD_put:∀(l:List EntD) (id:List UInt8) (ks:List (List UInt8)),pairsD (iB l id ks)=dT (pairsD l) (id,valH ks)
 | [],_,_=>rfl
 | e::l,id,ks=>by
  show pairsD (if cU e.1 id then e::iB l id ks else if e.1=id then(id,ks)::l else(id,ks)::e::l)=if cU e.1 id then pairD e::dT (pairsD l) (id,valH ks) else if e.1=id then(id,valH ks)::pairsD l else(id,valH ks)::pairD e::pairsD l
  rw [<-pairsD_put l id ks]
  split
  ·rfl
  ·split<;>rfl
theorem DirOk.pairs{l:List EntD}(h:DirOk l):cV (pairsD l)/\gL (pairsD l):=⟨List.pairwise_map.2 h.sort,λp hp=>by
 obtain⟨e,he,rfl⟩:=bP.1 hp
 exact h.ids e he⟩
theorem getT_pairs:∀{l:List EntD},DirOk l->∀id,nB (pairsD l) id=if bU l id=[] then none else some (valH (bU l id))
 | [],_,_=>rfl
 | e::l,h,id=>by
  have ih:=getT_pairs h.tail id;rw [cH]
  show((pairD e::pairsD l).find? λq=>q.1==id).map (·.2)=_
  rw [List.find?_cons]
  by_cases c:e.1=id
  ·have:((pairD e).1==id)=true:=by simpa [pairD] using c
   rw [this,if_pos c,if_neg (h.some e (.head _))]
   rfl
  ·have:((pairD e).1==id)=false:=by simpa [pairD] using c
   rw [this,if_neg c];exact ih
end Go.Proofs.YtlhlkofpjhpaoaaGreatDoor
namespace Go.Proofs.YtlhlkofpjhpaoaaGreatDoor
open Go.RowKit Go.IntWalk
section
variable{T:List TyR}{b:Base}{ops:Array Oper}{Q:Exit->Act->World->Prop}{N:Nat}{G:Nat->Nat}{S:Nat->Prop}{E:SE}{L:List LV}{R:List Res}{F M:World->Prop}{w0:World}{T':List Oper}{Fa:Told}{i k:Nat}{o:Oper}{rest:List (Nat×Oper)}
theorem h_alloc{ty:TypeId}(zs:Array Value)(hg:o.guard=none)(hd:o.dst=some k)(hk:aQ k N=true)(hf:farP i Fa=true)(ho:o.op = .alloc ty)(hz:(Tryz.prog.info? ty).bind (λi=>i.zero.map (·.cells))=some zs)
 (hn:∀g,hS Tryz.prog ops Q N T' G w0 rest ((k,.v (.pointer (some ⟨g,0,none⟩)))::E) ((i,λw=>w0.heap.size<=g/\Blk w g ty zs)::Fa)):hS Tryz.prog ops Q N T' G w0 ((i,o)::rest) E Fa:=λhE =>
 g_alloc zs w0.heap.size hg hd hk hf ho hz (λ_ h=>h.size) (λ_ _ _ h hb=>⟨h.1,h.2.later hb⟩) λg _ _ _ _=>hn g (hE.cons (v:=.v (.pointer (some ⟨g,0,none⟩))) trivial)
theorem h_endV(hst:StW b G S L R F M w0){g:Nat}{ty:TypeId}{ps:List Pt}(k i:Nat)(E':SE)(hi:lookP Fa i=some (λw=>w0.heap.size<=g/\Blk w g ty (catP ps)))(hk:lookS E k=some (.v (.pointer (some ⟨g,0,none⟩))))(hE':SubS E' E)(hfE:farE k E'=true)(hfL:farL k L=true)(hok:OkP ps)
 (h:lS Tryz.prog b ops Q N T' ⟨(k,.a k 0)::E',⟨k,none,ty,ps⟩::L,R,F,M⟩):hS Tryz.prog ops Q N T' G w0 [] E Fa:=λhE=>g_end λw hw hF=>λa ha=>by
 obtain⟨h1,h2⟩:=hF i _ hi
 have hfr:Fr N (denE (λj=>if j=k then g else G j) ((k,.a k 0)::E')) a:=ha.sub ⟨by
  rw [look_den,hk]
  show some (pD (some ⟨g,0,none⟩))=some (pD (some ⟨if k=k then g else G k,0,none⟩))
  rw [if_pos rfl],by rw [denE_far hfE];exact denE_sub hE'⟩
 have hst2:=hst.news (E:=E') (gs:=λ_=>g) hw [⟨k,none,ty,ps⟩] (by simp [freeV,hfE,hfL,farL]) (λu hu=>by rw [aE.1 hu];exact hok) (λ_ _=>h1) (λi j hi hj hne=>absurd (show i=j by simp at hi hj;omega) hne) λu hu=>by
  rw [aE.1 hu]
  show Blk w (if k=k then g else G k) ty (catP ps)
  rw [if_pos rfl];exact h2
 exact h a w ⟨_,S,hfr,OkE.cons (SubS.ok hE' hE) (v:=.a k 0) trivial,hst2⟩
theorem s_oneH{P:Program}{id:Nat}{l:List Oper}(n:Nat)(hn:n<=l.length)(hm:P.follows .mixedOrders=true)(hB:tailH l.toArray n (l.drop n).length=true)
 (h:∀G S w0,StW b G S L R F M w0->hS P l.toArray Q N (l.drop n) G w0 (idx 0 (l.take n)) E []):cS P b (.region id l.toArray true) Q N ⟨E,L,R,F,M⟩:=s_drawn n hn hm hB λG S w0 hst=>h G S w0 hst
end
theorem run_neqBoolW{N:Nat}{E:SE}{o:Oper}{x y:Operand}{t':TypeId}{u v:SV}{p q:Bool}(ho:o.op = .binOp .neq 4 x y t')(hx:evS E x=some u)(hy:evS E y=some v)(hu:∀G,u.den G = .bool p)(hv:∀G,v.den G = .bool q):∀(G:Nat->Nat) (a:Act) (w:World),Fr N (denE G E) a->(execOp a.eval o).run Tryz.prog w = .ok (.value ((SV.b (!(p==q))).den G)) w:=λG a w ha=>by
 have h1:a.eval x = .bool p:=(ha.eval (evS_ok hx)).trans (hu G);have h2:a.eval y = .bool q:=(ha.eval (evS_ok hy)).trans (hv G)
 unfold execOp
 simp only [ho,h1,h2]
 go_simp
 rfl
abbrev madeP(l:List UInt8):Post Nat:={ ret:=λg=>.v (.slice (some ⟨g,0,none⟩) l.length l.length),p:=λg=>Rd 1 eB (some ⟨g,0,none⟩) l.length l }
abbrev madeN(l:List UInt8):Post Nat:={ ret:=λg=>.v (.slice (some ⟨g,0,none⟩) l.length l.length),n:=λg=>Rd 1 eB (some ⟨g,0,none⟩) l.length l }
theorem Spec.p1{f:FuncId}{args:List Value}{F:World->Prop}{l:List UInt8}(h:Spec f args [] F (madeN l)):Spec f args [] F (madeP l):=λw S X hs hX hF=>by
 refine(h w S X hs hX hF).mono ?_
 rintro e w' ⟨x,S',h1,h2,h3,h4,h5,h6,h7⟩
 refine⟨x,S',h1,h2,h3,h4,h5,h7.less λk _ hk=>?_, zU⟩
 rcases hk with hk|hk
 ·exact .inl (hX k hk).1
 ·exact .inr hk
instance{l:List UInt8}{g:Nat}:Pst ((madeP l).p g):=inferInstanceAs (Pst (Rd 1 eB (some ⟨g,0,none⟩) l.length l))
instance pst_true:Pst (λ_:World=>True):=⟨λ_ _ _ _=>trivial⟩
instance{r:RV}{x:Unit}:Pst ((one r).p x):=⟨λ_ _ _ _=>trivial⟩
theorem madeP_rd{l:List UInt8}{x:Nat}{w:World}(h:∃y,((madeP l).ret x).den=((madeP l).ret y).den/\(madeP l).p y w):Rd 1 eB (some ⟨x,0,none⟩) l.length l w:=by
 obtain⟨y,e,hy⟩:=h;have e:Value.slice (some ⟨x,0,none⟩) l.length l.length = .slice (some ⟨y,0,none⟩) l.length l.length:=e
 injection e with e
 injection e with e
 injection e with e
 rw [e];exact hy
abbrev tellP(l:List UInt8):Post (Option Addr×Nat):={ ret:=λx=>.v (.slice x.1 l.length x.2),p:=λx=>Rd 1 eB x.1 x.2 l }
instance{l:List UInt8}{x:Option Addr×Nat}:Pst ((tellP l).p x):=inferInstanceAs (Pst (Rd 1 eB x.1 x.2 l))
end Go.Proofs.YtlhlkofpjhpaoaaGreatDoor
namespace Nums
def iX:List Nat->Nat
  | []=>0
  | x::r=>x+2*iX r
theorem oS:∀(d:List Nat) (j v:Nat),j<d.length->iX (d.set j v)+d[j]! * 2^j=iX d+v*2^j
 | [],_,_,h=>by simp at h
 | x::r,0,v,_=>by
  simp only [List.set_cons_zero,iX,lH,Nat.mul_one];have:(x::r)[0]! = x:=rfl;rw [this]
  omega
 | x::r,j+1,v,h=>by
  have ih:=oS r j v (by simpa using h)
  have e:(x::r)[j+1]! = r[j]!:=by simp
  rw [e,List.set_cons_succ,iX,iX,cN]
  have e1:r[j]! * (2^j*2)=2*(r[j]! * 2^j):=by rw [<-fQ,eN _ 2]
  have e2:v*(2^j*2)=2*(v*2^j):=by rw [<-fQ,eN _ 2]
  rw [e1,e2]
  omega
theorem sZ(n:Nat):iX (aA n 0)=0:=by
 induction n with
 | zero=>rfl
 | succ n ih=>rw [List.replicate_succ,iX,ih]
theorem s6{d:List Nat}{j:Nat}(h:j<d.length):iX (d.drop j)=d[j]! + 2*iX (d.drop (j+1)):=by
 rw [List.drop_eq_getElem_cons h,iX,getElem!_pos d j h]
structure DG(N i:Nat)(f:Int)(d:List Nat):Prop where
  len:d.length=256
  sum:iX d=N%2^i
  hi:∀j,i<=j->j<256->d[j]! = 0
  odd:∀j,j<256->d[j]! = 0\/(d[j]! % 2=1/\d[j]! < 16)
  last:f = -4\/∃m:Nat,f=m/\m<i/\d[m]! < 2^(i-m)/\d[m]! % 2=1
theorem uD(n j:Nat)(h:j<n):(aA n 0)[j]! = 0:=by
 rw [getElem!_pos _ j (by simpa using h)]
 simp
theorem DG.start(N:Nat):DG N 0 (-4) (aA 256 0) where
 len:=bE
 sum:=by rw [sZ,lH,Nat.mod_one]
 hi:=λj _ h=>uD 256 j h
 odd:=λj h=>.inl (uD 256 j h)
 last:=.inl rfl
theorem oV(N i:Nat):N%2^(i+1)=N%2^i+N/2^i%2*2^i:=by
 rw [cN,Nat.mod_mul,eN (2^i)]
theorem DG.zero{N i:Nat}{f:Int}{d:List Nat}(h:DG N i f d)(hb:N/2^i%2=0):DG N (i+1) f d where
 len:=h.len
 sum:=by rw [h.sum,oV,hb,Nat.zero_mul,eX]
 hi:=λj hj=>h.hi j (by omega)
 odd:=h.odd
 last:=h.last.imp id λ⟨m,h1,h2,h3,h4⟩=>⟨m,h1,by omega,b9 h3 (Nat.pow_le_pow_right (by decide) (by omega)),h4⟩
theorem nN{d:List Nat}{j v:Nat}(h:j<d.length):(d.set j v)[j]! = v:=by
 rw [getElem!_pos _ j (by simpa using h)]
 simp
theorem qH{d:List Nat}{j k v:Nat}(h:j≠k):(d.set j v)[k]! = d[k]!:=by
 simp only [List.getElem!_eq_getElem?_getD,List.getElem?_set_ne h]
theorem DG.fresh{N i:Nat}{f:Int}{d:List Nat}(h:DG N i f d)(hi:i<256)(hb:N/2^i%2=1):DG N (i+1) i (d.set i 1) where
 len:=by rw [bQ,h.len]
 sum:=by
  have h1:=oS d i 1 (by rw [h.len];exact hi);rw [h.hi i (aF _) hi,h.sum] at h1;rw [oV,hb]
  omega
 hi:=λj hj hj2=>by rw [qH (by omega)];exact h.hi j (by omega) hj2
 odd:=λj hj=>by
  by_cases e:i=j
  ·subst e
   rw [nN (by rw [h.len];exact hi)];exact .inr ⟨by decide,by decide⟩
  ·rw [qH e]
   exact h.odd j hj
 last:=.inr ⟨i,rfl,by omega,by rw [nN (by rw [h.len];exact hi),show i+1-i=1 from by omega];decide,by rw [nN (by rw [h.len];exact hi)]⟩
theorem DG.more{N i m:Nat}{d:List Nat}(h:DG N i m d)(hi:i<256)(hb:N/2^i%2=1)(hm:i<m+4):m<i/\d[m]! < 2^(i-m)/\DG N (i+1) m (d.set m (d[m]! + 2^(i-m))):=by
 obtain⟨m',h1,h2,h3,h4⟩:∃m':Nat,(m:Int)=m'/\m'<i/\d[m']! < 2^(i-m')/\d[m']! % 2=1:=by
  rcases h.last with h1|h1
  ·omega
  ·exact h1
 obtain rfl:m=m':=by omega
 have hml:m<d.length:=by rw [h.len];omega
 have hpe:2^(i+1-m)=2^(i-m)*2:=by rw [show i+1-m=i-m+1 from by omega,cN]
 have hk:i-m=1\/i-m=2\/i-m=3:=by omega
 have hpow:2^(i-m)*2<=16/\2^(i-m)%2=0:=by rcases hk with e|e|e<;>rw [e]<;>decide
 refine⟨h2,h3,⟨by rw [bQ,h.len],?_,λj hj hj2=>?_,λj hj=>?_,.inr ⟨m,rfl,by omega,?_,?_⟩⟩⟩
 ·have e1:=oS d m (d[m]! + 2^(i-m)) hml
  have e2:2^(i-m)*2^m=2^i:=by rw [<-Nat.pow_add];congr 1;omega
  rw [Nat.add_mul,e2,h.sum] at e1;rw [oV,hb]
  omega
 ·rw [qH (by omega)]
  exact h.hi j (by omega) hj2
 ·by_cases e:m=j
  ·subst e
   rw [nN hml];exact .inr ⟨by omega,by omega⟩
  ·rw [qH e]
   exact h.odd j hj
 ·rw [nN hml,hpe]
  omega
 ·rw [nN hml]
  omega
namespace Ed
variable{n:Nat}[NeZero n]{d:Fin n}
def tot(d:Fin n):List (Pt n)->Nat->(Nat->Nat)->Pt n
  | [],_,_=>zero
  | A::ps,i,f=>add d (mul d (f i) A) (tot d ps (i+1) f)
theorem nP(g:Good n d):∀{ps:List (Pt n)},(∀A∈ps,On d A)->∀i f,On d (tot d ps i f)
 | [],_,_,_=>j1
 | A::ps,h,i,f=>jG g (fM g (h A (by simp)) _) (nP g (λB hB=>h B (by simp [hB])) (i+1) f)
theorem l6:∀{ps:List (Pt n)} {i:Nat} {f f':Nat->Nat},(∀j,i<=j->j<i+ps.length->f j=f' j)->tot d ps i f=tot d ps i f'
 | [],_,_,_,_=>rfl
 | A::ps,i,f,f',h=>by
  rw [tot,tot,h i (aF _) (by simp),l6 (i:=i+1) (f:=f) (f':=f') λj h1 h2=>h j (by omega) (by simp;omega)]
theorem qW(g:Good n d):∀{ps:List (Pt n)} {i:Nat} {f:Nat->Nat},(∀j,i<=j->j<i+ps.length->f j=0)->tot d ps i f=zero
 | [],_,_,_=>rfl
 | A::ps,i,f,h=>by
  rw [tot,h i (aF _) (by simp),mZ,zero_add g,qW g λj h1 h2=>h j (by omega) (by simp;omega)]
theorem sH(g:Good n d):∀{ps:List (Pt n)},(∀A∈ps,On d A)->∀(i:Nat) (f:Nat->Nat),tot d ps i (λj=>2*f j)=add d (tot d ps i f) (tot d ps i f)
 | [],_,_,_=>(zero_add g zero).symm
 | A::ps,h,i,f=>by
  have hA:=h A (by simp);have hs:∀B∈ps,On d B:=λB hB=>h B (by simp [hB]);rw [tot,tot,sH g hs (i+1) f,Nat.two_mul,mul_add g hA,rJ g (fM g hA _) (fM g hA _) (nP g hs _ _) (nP g hs _ _)]
theorem qX(g:Good n d):∀{ps:List (Pt n)},(∀A∈ps,On d A)->∀(i j v:Nat) (f f':Nat->Nat) (A:Pt n),ps[j]?=some A->f' (i+j)=f (i+j)+v->(∀k,k≠i+j->f' k=f k) ->
  tot d ps i f'=add d (tot d ps i f) (mul d v A)
 | [],_,_,_,_,_,_,A,hj,_,_=>by simp at hj
 | B::ps,h,i,0,v,f,f',A,hj,h1,h2=>by
  simp only [List.getElem?_cons_zero,aW] at hj;subst hj;have hB:=h B (by simp);have hs:∀B∈ps,On d B:=λB hB=>h B (by simp [hB]);rw [tot,tot,l6 (ps:=ps) (i:=i+1) (f:=f') (f':=f) λk h3 _=>h2 k (by omega)];rw [eX] at h1;rw [h1,mul_add g hB,add_assoc g (fM g hB _) (fM g hB _) (nP g hs _ _),add_assoc g (fM g hB _) (nP g hs _ _) (fM g hB _),add_comm (mul d v B)]
 | B::ps,h,i,j+1,v,f,f',A,hj,h1,h2=>by
  have hB:=h B (by simp);have hs:∀B∈ps,On d B:=λB hB=>h B (by simp [hB]);have hA:On d A:=hs A (List.mem_of_getElem? (by simpa using hj))
  rw [tot,tot,qX g hs (i+1) j v f f' A (by simpa using hj) (by rw [Nat.add_right_comm,Nat.add_assoc];exact h1) (λk hk=>h2 k (by omega)),h2 i (by omega),
   add_assoc g (fM g hB _) (nP g hs _ _) (fM g hA _)]
end Ed
end Nums
namespace Go.Proofs.YtlhlkofpjhpaoaaGreatDoor
open Go.RowKit Go.IntWalk Nums
theorem whs_eq(l:List Nat)(u k:Nat):whs l u k=mx (λj=>(up2 l u j+l[j]!)%2251799813685248) l k:=rfl
theorem up1_le{l:List Nat}{x:F}(h:EB l x):∀k,k<=5->up1 l 19 k<=19
 | 0,_=>aF _
 | k+1,hk=>by
  have h1:=up1_le h k (by omega);have h2:=eb_get h (k:=k) (by omega)
  show(l[k]! + up1 l 19 k)/2251799813685248<=19
  omega
theorem up2_le{l:List Nat}{x:F}(h:EB l x){u:Nat}(hu:u<=361):∀k,k<=5->up2 l u k<=361
 | 0,_=>hu
 | k+1,hk=>by
  have h1:=up2_le h hu k (by omega);have h2:=eb_get h (k:=k) (by omega)
  show(up2 l u k+l[k]!)/2251799813685248<=361
  omega
theorem whole_f{a:List Nat}{x:F}(ha:EB a x)(w:World) :
  Calls Tryz.prog 176 #[.agg (Us a).toArray] w λe w'=>e = .returned (.agg (Us (whole a)).toArray)/\Below w.heap.size w w':=by
 have hW:whole a=whs a (up1 a 19 5*19) 5:=rfl;rw [hW];clear hW;generalize hq1:up1 a 19 5=q;generalize hu0:q*19=u0
 go_enter Tryz.func176,Tryz.ntmps176
 go_wp2
 go_loopw [6,3] (λi u wr=>∃k:Nat,k<=5/\i = .int .i64 k/\u = .int .u64 (up1 a 19 k:Nat)/\Blk wr w.heap.size 193 (Us a).toArray/\Blk wr (w.heap.size+1) 193 z5/\Below w.heap.size w wr) (λi _ _=>5-(intOf i).toNat)
 case atStart =>
  exact⟨0,by omega,rfl,rfl,heap_alloc2_old w _ _,heap_alloc2_new w _ _,((Below.refl _ _).alloc (aF _) _).alloc (by simp) _⟩
 case round =>
  obtain⟨k,hk,rfl,rfl,h0,h1,hbel⟩:=hrel
  by_cases hlt:k<5
  ·have hN:up1 a 19 (k+1)=(a[k]! + up1 a 19 k)/2251799813685248:=rfl
   have c0:=(h0.cell k).trans (Us_at (by rw [ha.len];exact hlt));have b0:=eb_get ha hlt;have b1:=up1_le ha k (by omega);generalize a[k]! = u at *;generalize up1 a 19 k=v at *
   have q1:IntKind.u64.wrap ((u:Int)+(v:Int))=((u+v:Nat):Int):=by rw [a8];omega
   have q2:(0:Int)<=(k:Int):=by omega
   have HK:=c9 (eO h0 (eO h1 (eO hbel hN)));clear h0 h1 hbel hN
   go_wp2
   go_roundw
   case rel =>
    obtain⟨h0,h1,hbel,hN⟩:=HK.out;exact⟨k+1,by omega,by go_num,by rw [hN];congr 1,h0,h1,hbel⟩
   case measure=>simp [intOf];omega
  ·obtain rfl:k=5:=by omega
   have b1:=up1_le ha 5 (by omega);rw [hq1] at b1 ⊢
   have hq:u0<=361:=by omega
   have q1:IntKind.u64.wrap ((q:Int)*19)=(u0:Int):=by rw [a8];omega
   clear hq1 hu0
   have hW0:whs a u0 0=a:=by rw [whs_eq,mx_zero _ ha.len]
   have HK:=c9 (eO h0 (eO h1 hbel));clear h0 h1 hbel
   go_wp2
   go_loopw [19,3] (λi u wq=>∃k:Nat,k<=5/\i = .int .i64 k/\u = .int .u64 (up2 a u0 k:Nat)/\Blk wq w.heap.size 193 (Us (whs a u0 k)).toArray/\Blk wq (w.heap.size+1) 193 z5/\Below w.heap.size w wq) (λi _ _=>5-(intOf i).toNat)
   case atStart =>
    obtain⟨h0,h1,hbel⟩:=HK.out;exact⟨0,by omega,rfl,rfl,by rw [hW0];exact h0,h1,hbel⟩
   case round =>
    obtain⟨k,hk,rfl,rfl,h0,h1,hbel⟩:=hrel;clear HK
    by_cases hlt:k<5
    ·have hN:up2 a u0 (k+1)=(up2 a u0 k+a[k]!)/2251799813685248:=rfl
     have hS:(whs a u0 k).set k ((up2 a u0 k+a[k]!)%2251799813685248)=whs a u0 (k+1):=mx_set (λj=>(up2 a u0 j+a[j]!)%2251799813685248) a;have hg:(whs a u0 k)[k]! = a[k]!:=mx_get _ a hlt;have c0:=(h0.cell k).trans (Us_at (by rw [whs_eq,mx_len];exact hlt));rw [hg] at c0;have hf:=h0.free k;have b0:=eb_get ha hlt;have b1:=up2_le ha hq k (by omega);generalize a[k]! = u at *;generalize up2 a u0 k=v at *
     have q2:IntKind.u64.wrap ((v:Int)+(u:Int))=((v+u:Nat):Int):=by rw [a8];omega
     have q3:=maskW (v+u) (by omega)
     have q4:(0:Int)<=(k:Int):=by omega
     have HK:=c9 (eO h0 (eO h1 (eO hbel (eO hN hS))));clear h0 h1 hbel hN hS hg;generalize hs:v+u=s at *
     go_wp2
     go_roundw
     case rel =>
      obtain⟨h0,h1,hbel,hN,hS⟩:=HK.out;have h4:=h0.set k (.int .u64 ((s%2251799813685248:Nat):Int));rw [Us_set,hS] at h4;exact⟨k+1,by omega,by go_num,by rw [hN];congr 1,h4,h1.far (by simp) _,hbel.setCell (by simp) _⟩
     case measure=>simp [intOf];omega
    ·obtain rfl:k=5:=by omega
     have hz:(Us (whs a u0 5)).toArray.size=5:=len_us (by rw [whs_eq,mx_len])
     go_wp2_with (first
      | (refine wpList_load_row rfl 193 _ rfl w.heap.size rfl 193 (Us (whs a u0 5)).toArray (0,0) _ h0 Tryz.underlying193 rfl (size_el _ hz) ?_)
      | (refine wpList_store_row rfl 193 _ _ rfl (w.heap.size+1) rfl (Us (whs a u0 5)).toArray rfl 193 _ h1 (size_el _ hz) (by rw [hz];rfl) (Us_one _) ?_))
     refine bodyPost_ret (results_cell_row rfl _ _ (w.heap.size+1) 193 (Us (whs a u0 5)).toArray (0,0) _ rfl (h1.row _) Tryz.underlying193 rfl (size_el _ hz)) rfl ⟨rfl,?_⟩;exact below_setRow hbel (by omega) _
def W2(s:Nat):Array Value:=(Us [s/18446744073709551616,s%18446744073709551616]).toArray
theorem W2_size(s:Nat):(W2 s).size=2:=rfl
theorem W2_one(s:Nat):∀u∈(W2 s).toList,u.oneCell'=true:=Us_one _
theorem plus_f(s a b:Nat)(ha:a<18446744073709551616)(hb:b<18446744073709551616)(hs:s+a*b<340282366920938463463374607431768211456)(w:World) :
  Calls Tryz.prog 172 #[.agg (W2 s),.int .u64 a,.int .u64 b] w λe w'=>e = .returned (.agg (W2 (s+a*b)))/\Below w.heap.size w w':=by
 refine(plus_any (s/18446744073709551616) (s%18446744073709551616) a b (by omega) (by omega) ha hb w).mono ?_
 rintro e w' ⟨rfl,hw⟩
 refine⟨?_,hw⟩
 unfold W2
 generalize a*b=m at *
 have e1:(s/18446744073709551616+m/18446744073709551616+(s%18446744073709551616+m%18446744073709551616)/18446744073709551616)%18446744073709551616=(s+m)/18446744073709551616:=by omega
 have e2:(s%18446744073709551616+m%18446744073709551616)%18446744073709551616=(s+m)%18446744073709551616:=by omega
 rw [e1,e2]
theorem low_f(s:Nat)(w:World) :
  Calls Tryz.prog 173 #[.agg (W2 s)] w λe w'=>e = .returned (.int .u64 ((s%2251799813685248:Nat):Int))/\Below w.heap.size w w':=by
 refine(low_any (s/18446744073709551616) (s%18446744073709551616) (by omega) w).mono ?_
 rintro e w' ⟨rfl,hw⟩
 refine⟨?_,hw⟩
 have e1:s%18446744073709551616%2251799813685248=s%2251799813685248:=by omega
 rw [e1]
theorem high_f(s:Nat)(hs:s<41538374868278621028243970633760768)(w:World) :
  Calls Tryz.prog 174 #[.agg (W2 s)] w λe w'=>e = .returned (.int .u64 ((s/2251799813685248:Nat):Int))/\Below w.heap.size w w':=by
 refine(high_any (s/18446744073709551616) (s%18446744073709551616) (by omega) (by omega) w).mono ?_
 rintro e w' ⟨rfl,hw⟩
 refine⟨?_,hw⟩
 have e1:s/18446744073709551616*8192+s%18446744073709551616/2251799813685248=s/2251799813685248:=by omega
 rw [e1]
theorem lv_take:∀(l:List Nat) {k:Nat},k<l.length->lv (l.take (k+1))=lv (l.take k)+2251799813685248^k*l[k]!
 | d::ds,0,_=>by simp [lv]
 | d::ds,k+1,h=>by
  have ih:=lv_take ds (k:=k) (by simpa using h)
  show d+2251799813685248*lv (ds.take (k+1))=d+2251799813685248*lv (ds.take k)+2251799813685248^(k+1)*ds[k]!
  rw [ih,cN]
  grind only
structure MM(a:List Nat)(y:F)(k c0 c1 c2 c3 c4 s0 s1 s2 s3 s4:Nat):Prop where
  cv:fof (lv [c0,c1,c2,c3,c4])=fof (2251799813685248^k)*y
  sv:fof (lv [s0,s1,s2,s3,s4])=fof (lv (a.take k))*y
  c0b:c0<42784196465000448
  c1b:c1<42784196465000448
  c2b:c2<42784196465000448
  c3b:c3<42784196465000448
  c4b:c4<42784196465000448
  c0u:k<=0->c0<2251799813947392
  c1u:k<=1->c1<2251799813947392
  c2u:k<=2->c2<2251799813947392
  c3u:k<=3->c3<2251799813947392
  c4u:k<=4->c4<2251799813947392
  s0b:s0<=k*96341445640026967064998646153216
  s1b:s1<=k*96341445640026967064998646153216
  s2b:s2<=k*96341445640026967064998646153216
  s3b:s3<=k*96341445640026967064998646153216
  s4b:s4<=k*96341445640026967064998646153216
theorem prod_le{v c:Nat}(hv:v<2251799813947392)(hc:c<42784196465000448):v*c<=96341445640026967064998646153216 :=
 Nat.le_trans (Nat.mul_le_mul (Nat.le_of_lt hv) (Nat.le_of_lt hc)) (by decide)
theorem MM.next{a:List Nat}{x y:F}{k c0 c1 c2 c3 c4 s0 s1 s2 s3 s4:Nat}(h:MM a y k c0 c1 c2 c3 c4 s0 s1 s2 s3 s4)(ha:EB a x)(hk:k<5) :
  MM a y (k+1) (19*c4) c0 c1 c2 c3 (s0+a[k]! * c0) (s1+a[k]! * c1) (s2+a[k]! * c2) (s3+a[k]! * c3) (s4+a[k]! * c4):=by
 obtain⟨cv,sv,g0,g1,g2,g3,g4,u0,u1,u2,u3,u4,t0,t1,t2,t3,t4⟩:=h;have hv:=eb_get ha hk;have p0:=prod_le hv g0;have p1:=prod_le hv g1;have p2:=prod_le hv g2;have p3:=prod_le hv g3;have p4:=prod_le hv g4
 have hm:(k+1)*96341445640026967064998646153216=k*96341445640026967064998646153216+96341445640026967064998646153216:=by omega
 have:=u4 (by omega);refine⟨?_,?_,by omega,g0,g1,g2,g3,by omega,by omega,by omega,by omega,by omega,by omega,by omega,by omega,by omega,by omega⟩
 ·rw [vH,cv,cN,dW]
  generalize fof (2251799813685248^k)=u;generalize fof 2251799813685248=v
  grind only
 ·rw [vW,iY,sv,dW,cv,lv_take a (by rw [ha.len];exact hk),iY,dW]
  generalize fof (lv (a.take k))=u;generalize fof (2251799813685248^k)=v;generalize fof (a[k]!)=z
  grind only
theorem MM.start{a:List Nat}{b0 b1 b2 b3 b4:Nat}{y:F}(h0:b0<2251799813947392)(h1:b1<2251799813947392)(h2:b2<2251799813947392)(h3:b3<2251799813947392)(h4:b4<2251799813947392)(hb:fof (lv [b0,b1,b2,b3,b4])=y) :
  MM a y 0 b0 b1 b2 b3 b4 0 0 0 0 0:=by
 refine⟨?_,?_,by omega,by omega,by omega,by omega,by omega,λ_=>h0,λ_=>h1,λ_=>h2,λ_=>h3,λ_=>h4,by omega,by omega,by omega,by omega,by omega⟩
 ·rw [hb,lH,gD]
  grind only
 ·have e1:fof (lv [0,0,0,0,0])=0:=kL
  have e2:fof (lv (a.take 0))=0:=kL;rw [e1,e2]
  grind only
theorem MM.fin{a:List Nat}{x y:F}{c0 c1 c2 c3 c4 s0 s1 s2 s3 s4:Nat}(h:MM a y 5 c0 c1 c2 c3 c4 s0 s1 s2 s3 s4)(ha:EB a x) :
  fof (lv (crd s0 s1 s2 s3 s4))=x*y/\s0<41538374868278621028243970633760768/\s1<41538374868278621028243970633760768/\s2<41538374868278621028243970633760768/\s3<41538374868278621028243970633760768/\s4<41538374868278621028243970633760768 /\
   s0/2251799813685248<400000000000000000/\s1/2251799813685248<400000000000000000/\s2/2251799813685248<400000000000000000/\s3/2251799813685248<400000000000000000/\s4/2251799813685248<400000000000000000:=by
 have e:a.take 5=a:=bG (by rw [ha.len];omega);obtain⟨cv,sv,g0,g1,g2,g3,g4,u0,u1,u2,u3,u4,t0,t1,t2,t3,t4⟩:=h;rw [e,ha.val] at sv;exact⟨by rw [vA,sv],by omega,by omega,by omega,by omega,by omega,by omega,by omega,by omega,by omega,by omega⟩
theorem own_low:Own 173:=λ_ _=>by go_simp
theorem own_high:Own 174:=λ_ _=>by go_simp
theorem own_carried:Own 175:=λ_ _=>by go_simp
theorem own_whole:Own 176:=λ_ _=>by go_simp
theorem own_elmul:Own 142:=λ_ _=>by go_simp
theorem own_eladd:Own 149:=λ_ _=>by go_simp
theorem own_elsub:Own 147:=λ_ _=>by go_simp
theorem own_hash:Own 143:=λ_ _=>by go_simp
theorem own_small:Own 145:=λ_ _=>by go_simp
section
variable{ops:Array Oper}{C0:World->Prop}{Q:Act->Prop}{a:Act}{o:Oper}{rest:List Oper}
theorem b_el{l:List Nat}(g:Nat)(hl:l.length=5)(x:Operand)(hg:aO o (yielded ops a.tmps)=true)(ho:o.op = .load 193 x)(hx:a.eval x = .pointer (some ⟨g,0,none⟩))
 (hc:∀w,C0 w->Blk w g 193 (Us l).toArray)(hk:wpB Tryz.prog ops C0 Q rest (a.put o.dst (.agg (Us l).toArray))):wpB Tryz.prog ops C0 Q (o::rest) a :=
 b_mid hg 193 x ho g 0 hx (Us l) _ (λw h=>(hc w h).range) Tryz.underlying193 rfl (size_el (Us l).toArray (by rw [aT,Us_len,hl])) hk
end
theorem wd_limbs{l:List Nat}(hl:l.length=5)(hb:∀y∈l,y<2251799813685248){k:Nat}(hk:k<4) :
  bits .or .u64 ((l[64*k/51]! : Nat)/2^(64*k%51):Int) (IntKind.u64.wrap ((l[64*k/51+1]! : Nat)*2^(51-64*k%51):Int))=((wd (lv l) k:Nat):Int):=by
 obtain⟨a0,a1,a2,a3,a4,rfl⟩:=oF hl;have h0:=hb a0 (by simp);have h1:=hb a1 (by simp);have h2:=hb a2 (by simp);have h3:=hb a3 (by simp);have h4:=hb a4 (by simp)
 unfold wd
 rw [lv5]
 have h4':k=0\/k=1\/k=2\/k=3:=by omega
 have key:∀(i x y r t L:Nat),y*2^t%18446744073709551616%2^i=0->x/2^r<2^i->x/2^r<18446744073709551616->y*2^t%18446744073709551616+x/2^r=L ->
   bits .or .u64 ((x:Nat)/2^r:Int) (IntKind.u64.wrap ((y:Nat)*2^t:Int))=(L:Int):=by
  intro i x y r t L e1 e2 e3 e4
  have f1:((x:Int)/2^r)=((x/2^r:Nat):Int):=by simp
  have f2:IntKind.u64.wrap ((y:Int)*2^t)=((y*2^t%18446744073709551616:Nat):Int):=by
   rw [a8]
   simp
  rw [f1,f2,<-e4,u64_or_nat _ _ e3 (by omega),Nat.or_comm,nat_join i _ _ e1 e2]
 rcases h4' with rfl|rfl|rfl|rfl
 ·exact key 51 a0 a1 0 51 _ (by omega) (by omega) (by omega) (by simp only [cI];omega)
 ·exact key 38 a1 a2 13 38 _ (by omega) (by omega) (by omega) (by simp only [cI];omega)
 ·exact key 25 a2 a3 26 25 _ (by omega) (by omega) (by omega) (by simp only [cI];omega)
 ·exact key 12 a3 a4 39 12 _ (by omega) (by omega) (by omega) (by simp only [cI];omega)
end Go.Proofs.YtlhlkofpjhpaoaaGreatDoor
namespace Go.Proofs.YtlhlkofpjhpaoaaGreatDoor
open Go.RowKit Go.IntWalk
section
variable{P:Program}{ops:Array Oper}{Q:Exit->Act->World->Prop}{Inv:World->Prop}
def wpAnyP(P:Program)(ops:Array Oper)(Q:Exit->Act->World->Prop)(Inv:World->Prop)(p:Nat->Bool)(Fin:Array Bool->Act->World->Prop):Nat->Array Bool->Act->World->Prop
  | 0,listed,a,w=>(∀j∈aV .any ops listed,∀i,p i=true->waitsT .any ops ops.size j i=true)/\Fin listed a w
  | fuel+1,listed,a,w=>aV .any ops listed≠[]/\∀i∈aV .any ops listed,wpOp P ops Q i (λa' w'=>Inv w'/\wpAnyP P ops Q Inv p Fin fuel (listed.setIfInBounds i true) a' w') a w
abbrev FinA(P:Program)(ops:Array Oper)(Q:Exit->Act->World->Prop)(m:Nat):Array Bool->Act->World->Prop:=λlisted a w=>wpAny P .any ops Q m listed a w
theorem wpAny_of_P{p:Nat->Bool}{m:Nat}:∀(fuel:Nat) (listed:Array Bool) (a:Act) (w:World),wpAnyP P ops Q Inv p (FinA P ops Q m) fuel listed a w->wpAny P .any ops Q (m+fuel) listed a w
 | 0,_,_,_,h=>h.2
 | fuel+1,_,_,_,h=>⟨λh0=>absurd h0 h.1,λi hi=>wpOp_mono (λa' w' h'=>wpAny_of_P fuel _ a' w' h'.2) (h.2 i hi)⟩
theorem P_first{p:Nat->Bool}{Fin:Array Bool->Act->World->Prop}{i:Nat}{oi:Oper}{v:Value}(hin:p i=true)(hi:ops[i]?=some oi)(hst:stillG oi.op=true)(hsel:∀(j:Nat) (o:Oper) cs b,ops[j]?=some o->o.op ≠ .select cs b)(hQ:∀c a d v w,Q (.panic c) (a.put d v) w->Q (.panic c) a w) :
  ∀(fuel:Nat) (listed:Array Bool) (a:Act) (w:World),Inv w->Closed .any ops listed ->
   (∀j oj,ops[j]?=some oj->j≠i->listed.getD j true=false->(∀e∈oj.after,cL .any e=true->e.on≠i)->oi.apart ops oj=true) ->
   i∈aV .any ops listed->YieldsB P ops Inv oi (· = v) a->wpAnyP P ops Q Inv p Fin fuel (listed.setIfInBounds i true) (a.put oi.dst v) w->wpAnyP P ops Q Inv p Fin (fuel+1) listed a w:=by
 intro fuel
 induction fuel with
 | zero =>
  intro listed a w hC hcs _ hr hy H
  refine⟨λh=>(by rw [h] at hr;cases hr),λj hj=>?_⟩
  by_cases hji:j=i
  ·subst hji
   exact still_wpOp hi hst hy hC ⟨hC,H⟩
  ·have h1:=H.1 j (ready_mono hj hji) i hin
   obtain⟨_,oj,hoj,hall⟩:=mem_ready.1 hj;have h6:=hcs.waits _ j i oj hoj hall h1;rw [getD_ready hr] at h6
   cases h6
 | succ fuel ih =>
  intro listed a w hC hcs hfree hr hy H
  refine⟨λh=>(by rw [h] at hr;cases hr),λj hj=>?_⟩
  by_cases hji:j=i
  ·subst hji
   exact still_wpOp hi hst hy hC ⟨hC,H⟩
  ·obtain⟨hjun,oj,hoj,hall⟩:=mem_ready.1 hj
   have hnot:∀e∈oj.after,cL .any e=true->e.on≠i:=λe he hb heq=>by
    have h1:=hall e he hb;rw [heq,getD_ready hr] at h1
    cases h1
   have h2:=wpOp_putB (V:=(· = v)) hoj (hfree j oj hoj hji hjun hnot) (λcs b=>hsel i oi cs b hi) (λcs b=>hsel j oj cs b hoj) ⟨v,rfl⟩ (.inr ⟨v,λ_ h=>h⟩) hQ hy (λu hu=>by
    subst hu
    exact H.2 j (ready_mono hj hji))
   have hun':∀k,(listed.setIfInBounds j true).getD k true=false->listed.getD k true=false:=λk hun=>by
    by_cases hjk:j=k
    ·subst hjk;exact hjun
    ·rw [getD_set_ne true hjk] at hun;exact hun
   refine wpOp_mono (λa' w' h3=>?_) h2;obtain⟨hy',h4⟩:=h3;obtain⟨hC',h5⟩:=h4 v rfl;refine⟨hC',ih (listed.setIfInBounds j true) a' w' hC' (hcs.set hj) (λk ok hk hki hun hno=>hfree k ok hk hki (hun' k hun) hno) (ready_mono hr (Ne.symm hji)) hy' ?_⟩;rw [Array.setIfInBounds_comm _ _ hji];exact h5
end
def pS(P:Program)(b:Base)(Q:Exit->Act->World->Prop)(N:Nat)(ops:Array Oper)(Inv:World->Prop)(p:Nat->Bool)(Fin:Array Bool->Act->World->Prop)(fuel:Nat)(listed:Array Bool)(e:Env):Prop:=Closed .any ops listed->∀a w,St b N e a w->Inv w->wpAnyP P ops (NoPanic Q) Inv p Fin fuel listed a w
def frontP(ops:Array Oper)(p:Nat->Bool)(i:Nat)(listed:Array Bool):Bool:=p i&&(aV .any ops listed).contains i&&Region.free .any ops listed i&&Region.noSelect ops
section
variable{P:Program}{T:List TyR}{b:Base}{ops:Array Oper}{Q:Exit->Act->World->Prop}{N fuel:Nat}{p:Nat->Bool}{Fin:Array Bool->Act->World->Prop}{listed:Array Bool}{E:SE}{L L0:List LV}{R:List Res}{F M:World->Prop}{Inv:World->Prop}{e:Env}
theorem panic_putP:∀c (a:Act) d v w,NoPanic Q (.panic c) (a.put d v) w->NoPanic Q (.panic c) a w:=λ_ _ _ _ _ h=>h
theorem p_front{o:Oper}{k:Nat}{v:SV}(hT:OkT P T)(i:Nat)(hc:frontP ops p i listed=true)(ho:ops[i]?=some o)(hg:o.guard=none)(hd:o.dst=some k)(hk:aQ k N=true)(hs:stillG o.op=true)(hv:stepS T E L0 o.op=some v)(hsub:∀x∈L0,x∈L)
 (hn:pS P b Q N ops (InvL L0) p Fin fuel (listed.setIfInBounds i true) ⟨(k,v)::E,L,R,F,M⟩):pS P b Q N ops (InvL L0) p Fin (fuel+1) listed ⟨E,L,R,F,M⟩:=λhcs a w hst hI=>by
 obtain⟨G,S,h1,h2,h3⟩:=hst;simp only [frontP,aN] at hc;obtain⟨⟨⟨hin,hr⟩,hfr⟩,hsel⟩:=hc
 have hr':i∈aV .any ops listed:=by simpa using hr
 obtain⟨h4,h5⟩:=stepS_ok hT h2 (λx hx=>(h3.var x (hsub x hx)).2.1) hv;have h6:=hn (hcs.set hr') (a.put (some k) (v.den G)) w ⟨G,S,h1.put hk _,h2.cons h4,h3⟩ hI;refine P_first hin ho hs (eG hsel) panic_putP fuel listed a w hI hcs (gU ho hfr) hr' (v:=v.den G) (.inl ⟨by simp [aO,hg],λw' hw'=>?_⟩) (by rw [hd];exact h6)
 unfold atB
 rw [h5 h1 λx hx=>by
  obtain⟨g,e1,e2⟩:=hw' x hx;rw [(h3.var x (hsub x hx)).2.2 g e1]
  exact e2]
 exact⟨rfl,rfl⟩
theorem p_frontO{o:Oper}{k:Nat}(v:SV)(hvo:v.Ok)(i:Nat)(hc:frontP ops p i listed=true)(ho:ops[i]?=some o)(hg:o.guard=none)(hd:o.dst=some k)(hk:aQ k N=true)(hs:stillG o.op=true)(hv:∀(G:Nat->Nat) (a:Act) (w:World),Fr N (denE G E) a->(execOp a.eval o).run P w = .ok (.value (v.den G)) w)
 (hn:pS P b Q N ops Inv p Fin fuel (listed.setIfInBounds i true) ⟨(k,v)::E,L,R,F,M⟩):pS P b Q N ops Inv p Fin (fuel+1) listed ⟨E,L,R,F,M⟩:=λhcs a w hst hI=>by
 obtain⟨G,S,h1,h2,h3⟩:=hst;simp only [frontP,aN] at hc;obtain⟨⟨⟨hin,hr⟩,hfr⟩,hsel⟩:=hc
 have hr':i∈aV .any ops listed:=by simpa using hr
 have h6:=hn (hcs.set hr') (a.put (some k) (v.den G)) w ⟨G,S,h1.put hk _,h2.cons hvo,h3⟩ hI;refine P_first hin ho hs (eG hsel) panic_putP fuel listed a w hI hcs (gU ho hfr) hr' (v:=v.den G) (.inl ⟨by simp [aO,hg],λw' _=>?_⟩) (by rw [hd];exact h6)
 unfold atB
 rw [hv G a w' h1];exact⟨rfl,rfl⟩
theorem p_weak{e':Env}(hw:Weak e e')(h:pS P b Q N ops Inv p Fin fuel listed e'):pS P b Q N ops Inv p Fin fuel listed e:=λhcs a w hst hI=>h hcs a w (hst.weak hw) hI
theorem p_step{o:Oper}(i:Nat)(hr:aV .any ops listed=[i])(ho:ops[i]?=some o)(h:∀K:Act->World->Prop,(∀e',(∀a w,St b N e' a w->Inv w)->pS P b Q N ops Inv p Fin fuel (listed.setIfInBounds i true) e'->kS b K N e')->lS P b ops (Exit.then K (NoPanic Q)) N [o] e):pS P b Q N ops Inv p Fin (fuel+1) listed e:=λhcs a w hst _ =>
 ⟨by rw [hr];simp,λj hj=>by
  rw [hr,aE] at hj;subst hj;have hcs':=hcs.set (i:=j) (by rw [hr];simp)
  exact wpOp_of_list ho (h (λa' w'=>Inv w'/\wpAnyP P ops (NoPanic Q) Inv p Fin fuel (listed.setIfInBounds j true) a' w') (λe' hI' ha a' w' hs'=>⟨hI' a' w' hs',ha hcs' a' w' hs' (hI' a' w' hs')⟩) a w hst)⟩
theorem p_step2{o o':Oper}(i i':Nat)(hr:aV .any ops listed=[i,i'])(ho:ops[i]?=some o)(ho':ops[i']?=some o')
 (h:∀K:Act->World->Prop,(∀e',(∀a w,St b N e' a w->Inv w)->pS P b Q N ops Inv p Fin fuel (listed.setIfInBounds i true) e'->kS b K N e')->lS P b ops (Exit.then K (NoPanic Q)) N [o] e)
 (h':∀K:Act->World->Prop,(∀e',(∀a w,St b N e' a w->Inv w)->pS P b Q N ops Inv p Fin fuel (listed.setIfInBounds i' true) e'->kS b K N e')->lS P b ops (Exit.then K (NoPanic Q)) N [o'] e):pS P b Q N ops Inv p Fin (fuel+1) listed e:=λhcs a w hst _ =>
 ⟨by rw [hr];simp,λj hj=>by
  rw [hr] at hj
  have key:∀(i:Nat) (o:Oper),i∈aV .any ops listed->ops[i]?=some o->(∀K:Act->World->Prop,(∀e',(∀a w,St b N e' a w->Inv w)->pS P b Q N ops Inv p Fin fuel (listed.setIfInBounds i true) e'->kS b K N e')->lS P b ops (Exit.then K (NoPanic Q)) N [o] e)->wpOp P ops (NoPanic Q) i (λa' w'=>Inv w'/\wpAnyP P ops (NoPanic Q) Inv p Fin fuel (listed.setIfInBounds i true) a' w') a w:=λi o hi ho h =>
   wpOp_of_list ho (h (λa' w'=>Inv w'/\wpAnyP P ops (NoPanic Q) Inv p Fin fuel (listed.setIfInBounds i true) a' w') (λe' hI' ha a' w' hs'=>⟨hI' a' w' hs',ha (hcs.set hi) a' w' hs' (hI' a' w' hs')⟩) a w hst)
  rcases aL.1 hj with rfl|hj
  ·exact key _ o (by rw [hr];simp) ho h
  ·rw [aE] at hj
   subst hj
   exact key _ o' (by rw [hr];simp) ho' h'⟩
theorem p_frontI{o:Oper}{k:Nat}(v:SV)(hvo:v.Ok)(i:Nat)(hc:frontP ops p i listed=true)(ho:ops[i]?=some o)(hg:o.guard=none)(hd:o.dst=some k)(hk:aQ k N=true)(hs:stillG o.op=true)(hv:∀(G:Nat->Nat) (a:Act) (w:World),Fr N (denE G E) a->Inv w->(execOp a.eval o).run P w = .ok (.value (v.den G)) w)
 (hn:pS P b Q N ops Inv p Fin fuel (listed.setIfInBounds i true) ⟨(k,v)::E,L,R,F,M⟩):pS P b Q N ops Inv p Fin (fuel+1) listed ⟨E,L,R,F,M⟩:=λhcs a w hst hI=>by
 obtain⟨G,S,h1,h2,h3⟩:=hst;simp only [frontP,aN] at hc;obtain⟨⟨⟨hin,hr⟩,hfr⟩,hsel⟩:=hc
 have hr':i∈aV .any ops listed:=by simpa using hr
 have h6:=hn (hcs.set hr') (a.put (some k) (v.den G)) w ⟨G,S,h1.put hk _,h2.cons hvo,h3⟩ hI;refine P_first hin ho hs (eG hsel) panic_putP fuel listed a w hI hcs (gU ho hfr) hr' (v:=v.den G) (.inl ⟨by simp [aO,hg],λw' hw'=>?_⟩) (by rw [hd];exact h6)
 unfold atB
 rw [hv G a w' h1 hw'];exact⟨rfl,rfl⟩
theorem p_frontS{o:Oper}{k:Nat}{v:SV}(hT:OkT P T)(i:Nat)(hc:frontP ops p i listed=true)(ho:ops[i]?=some o)(hg:o.guard=none)(hd:o.dst=some k)(hk:aQ k N=true)(hs:stillG o.op=true)(hv:stepS T E L0 o.op=some v)(hsub:∀x∈L0,x∈L)(hI:∀w,Inv w->InvL L0 w)
 (hn:pS P b Q N ops Inv p Fin fuel (listed.setIfInBounds i true) ⟨(k,v)::E,L,R,F,M⟩):pS P b Q N ops Inv p Fin (fuel+1) listed ⟨E,L,R,F,M⟩:=λhcs a w hst hI0=>by
 obtain⟨G,S,h1,h2,h3⟩:=hst;simp only [frontP,aN] at hc;obtain⟨⟨⟨hin,hr⟩,hfr⟩,hsel⟩:=hc
 have hr':i∈aV .any ops listed:=by simpa using hr
 obtain⟨h4,h5⟩:=stepS_ok hT h2 (λx hx=>(h3.var x (hsub x hx)).2.1) hv;have h6:=hn (hcs.set hr') (a.put (some k) (v.den G)) w ⟨G,S,h1.put hk _,h2.cons h4,h3⟩ hI0;refine P_first hin ho hs (eG hsel) panic_putP fuel listed a w hI0 hcs (gU ho hfr) hr' (v:=v.den G) (.inl ⟨by simp [aO,hg],λw' hw'=>?_⟩) (by rw [hd];exact h6)
 unfold atB
 rw [h5 h1 λx hx=>by
  obtain⟨g,e1,e2⟩:=hI w' hw' x hx;rw [(h3.var x (hsub x hx)).2.2 g e1]
  exact e2]
 exact⟨rfl,rfl⟩
theorem p_frontA{o:Oper}{k:Nat}(v:SV)(hvo:v.Ok)(i:Nat)(hc:frontP ops p i listed=true)(ho:ops[i]?=some o)(hg:o.guard=none)(hd:o.dst=some k)(hk:aQ k N=true)(hs:stillG o.op=true)(hsub:∀x∈L0,x∈L)(hI:∀w,Inv w->InvL L0 w)
 (hv:∀(G:Nat->Nat) (a:Act) (w:World),Fr N (denE G E) a->LAt G L0 w->(execOp a.eval o).run P w = .ok (.value (v.den G)) w)
 (hn:pS P b Q N ops Inv p Fin fuel (listed.setIfInBounds i true) ⟨(k,v)::E,L,R,F,M⟩):pS P b Q N ops Inv p Fin (fuel+1) listed ⟨E,L,R,F,M⟩:=λhcs a w hst hI0=>by
 obtain⟨G,S,h1,h2,h3⟩:=hst;simp only [frontP,aN] at hc;obtain⟨⟨⟨hin,hr⟩,hfr⟩,hsel⟩:=hc
 have hr':i∈aV .any ops listed:=by simpa using hr
 have h6:=hn (hcs.set hr') (a.put (some k) (v.den G)) w ⟨G,S,h1.put hk _,h2.cons hvo,h3⟩ hI0;refine P_first hin ho hs (eG hsel) panic_putP fuel listed a w hI0 hcs (gU ho hfr) hr' (v:=v.den G) (.inl ⟨by simp [aO,hg],λw' hw'=>?_⟩) (by rw [hd];exact h6)
 unfold atB
 rw [hv G a w' h1 λx hx=>by
  obtain⟨g,e1,e2⟩:=hI w' hw' x hx;rw [(h3.var x (hsub x hx)).2.2 g e1]
  exact e2]
 exact⟨rfl,rfl⟩
theorem runO_ldL{o:Oper}{t:TypeId}{x:Operand}{j off:Nat}{d:TypeDesc}{ps:List Pt}(v:Value)(ho:o.op = .load t x)(hx:evS E x=some (.a j off))(hl:lookL L0 j=some ps)(hv:(catP ps)[off]?=some v)(hu:P.underlying t=some d)(hr:d.isRow=false) :
  ∀(G:Nat->Nat) (a:Act) (w:World),Fr N (denE G E) a->LAt G L0 w->(execOp a.eval o).run P w = .ok (.value ((SV.v v).den G)) w:=λG a w ha hw=>by
 have h1:a.eval x = .pointer (some ⟨G j,off,none⟩):=ha.eval (evS_ok hx);obtain⟨u,hu2,rfl,hps⟩:=lookL_mem hl;have h2:=(hw u hu2).cell off;rw [hps,hv] at h2;have h3:=run_load_cell hu hr h2
 unfold execOp
 simp only [ho,h1,Sem.run_bind,h3,Result.andThen_ok,Sem.run_pure]
 rfl
theorem p_ldO{o:Oper}{k:Nat}{t ty:TypeId}{x:Operand}{g off:Nat}{ps:List Pt}{q:SQ}(hT:OkT P T)(i:Nat)(hc:frontP ops p i listed=true)(ho:ops[i]?=some o)(hg:o.guard=none)(hd:o.dst=some k)(hk:aQ k N=true)(hop:o.op = .load t x)(hx:evS E x=some (.v (.pointer (some ⟨g,off,none⟩))))(hl:loadS T ps t off=some q)(hok:OkP ps)(hI:∀w,Inv w->ObjF g ty ps w)
 (hn:pS P b Q N ops Inv p Fin fuel (listed.setIfInBounds i true) ⟨(k,.q q)::E,L,R,F,M⟩):pS P b Q N ops Inv p Fin (fuel+1) listed ⟨E,L,R,F,M⟩ :=
 p_frontI (.q q) (loadS_at hT hok hl).1 i hc ho hg hd hk (by rw [hop];rfl) (λ_ _ w ha hw=>(load_obj hT hop hx hl ha (hI w hw)).2) hn
theorem inv_two{E':SE}{L':List LV}{R':List Res}{F' M':World->Prop}{p:World->Prop}(hsub:∀x∈L0,x∈L'/\x.g.isSome=true)(hp:∀w,F' w->M' w->p w):∀a w,St b N ⟨E',L',R',F',M'⟩ a w->InvL L0 w/\p w:=λa w hst=>by
 refine⟨?_,?_⟩
 ·obtain⟨G,S,_,_,h3⟩:=hst
  intro x hx
  obtain⟨h1,h2⟩:=hsub x hx;obtain⟨g,hg⟩:=Option.isSome_iff_exists.1 h2;have h4:=h3.var x h1;refine⟨g,hg,?_⟩;rw [<-h4.2.2 g hg];exact h4.1
 ·obtain⟨G,S,_,_,h3⟩:=hst
  exact hp w h3.view.fact h3.view.fresh
def forcedJ(ops:Array Oper):List Nat->Array Bool->Bool
  | [],listed=>(aV .any ops listed).isEmpty
  | k::ks,listed=>decide (aV .any ops listed=[k])&&forcedJ ops ks (listed.setIfInBounds k true)
def opsJ(l:List Oper):List Nat->List Oper
  | []=>[]
  | k::ks=>match l[k]? with
    | some o=>o::opsJ l ks
    | none=>[]
theorem wpAny_forcedJ{l:List Oper}:∀(ks:List Nat) (listed:Array Bool) (a:Act) (w:World),(∀k∈ks,k<l.length)->forcedJ l.toArray ks listed=true ->
  wpList P l.toArray Q (opsJ l ks) a w->wpAny P .any l.toArray Q ks.length listed a w
 | [],_,_,_,_,hB,h=>⟨by simpa [forcedJ] using hB,h⟩
 | k::ks,listed,a,w,hl,hB,h=>by
  obtain⟨o,ho⟩:∃o,l[k]?=some o:=⟨_,List.getElem?_eq_getElem (hl k aP)⟩
  have h0:l.toArray[k]?=some o:=by simpa using ho
  simp only [forcedJ,aN,decide_eq_true_eq] at hB;obtain⟨hr,hB'⟩:=hB
  unfold opsJ at h
  rw [ho] at h
  dsimp only at h
  refine⟨λe=>(by rw [hr] at e;cases e),λi hi=>?_⟩;rw [hr,aE] at hi;subst hi;have hl':∀j∈ks,j<l.length:=λj hj=>hl j (aJ _ hj)
  unfold wpOp
  simp only [h0]
  unfold wpList at h
  split
  ·rename_i hw
   simp only [hw,if_true] at h;exact h.imp (Oper.wp_mono λa' w' h'=>wpAny_forcedJ ks _ a' w' hl' hB' h') id
  ·rename_i hw
   simp only [hw] at h;exact wpAny_forcedJ ks _ _ _ hl' hB' (by simpa using h)
def memJ(ks:List Nat)(i:Nat):Bool:=ks.any λk=>Nat.beq k i
theorem p_tail{ks:List Nat}(js:List Nat){l l':List Oper}(hB:((aV .any l.toArray listed).all (λj=>ks.all λi=>waitsT .any l.toArray l.toArray.size j i)&&js.all (λk=>decide (k<l.length))&&forcedJ l.toArray js listed)=true)(hl:opsJ l js=l')(h:lS P b l.toArray (NoPanic Q) N l' e) :
  pS P b Q N l.toArray Inv (memJ ks) (FinA P l.toArray (NoPanic Q) js.length) 0 listed e:=λ_ a w hst _=>by
 subst hl;simp only [aN,List.all_eq_true,decide_eq_true_eq] at hB;refine⟨λj hj i hi=>?_,wpAny_forcedJ js listed a w hB.1.2 hB.2 (h a w hst)⟩;obtain⟨k,hk,e⟩:=List.any_eq_true.1 hi;obtain rfl:=Nat.eq_of_beq_eq_true e;exact hB.1.1 j hj k hk
theorem s_anyP{l:List Oper}{id:Nat}(ks:List Nat)(n m:Nat)(Inv:World->Prop)(hm:P.follows .mixedOrders=true)(hn:m+n=l.length)(h0:∀a w,St b N e a w->Inv w)(h:pS P b Q N l.toArray Inv (memJ ks) (FinA P l.toArray (NoPanic Q) m) n (Array.replicate l.toArray.size false) e):cS P b (.region id l.toArray true) Q N e:=λa w hst=>by
 refine wp_region_noPanic (wp_region_any hm ?_);obtain⟨G,S,h1,h2,h3⟩:=hst;have hd:St b N e a w.drew:=⟨G,S,h1,h2,h3.drew⟩;have h4:=wpAny_of_P n _ a w.drew (h (Closed.none _) a w.drew hd (h0 a _ hd))
 have e1:m+n=l.toArray.size:=by simpa using hn
 rw [e1] at h4;exact h4
end
end Go.Proofs.YtlhlkofpjhpaoaaGreatDoor
