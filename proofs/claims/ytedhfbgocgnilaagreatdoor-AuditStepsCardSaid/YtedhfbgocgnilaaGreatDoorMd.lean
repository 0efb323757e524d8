import Derived.Test.YtedhfbgocgnilaaGreatDoorMc
import Derived.Test.YtedhfbgocgnilaaGreatDoorMa
import Derived.Test.YtedhfbgocgnilaaGreatDoorMb
import Derived.StillTailTactics
import Derived.Deep.OwnRows
import Derived.OwnWalk
open Go.Lib renaming hid->iB
open Go.Addr renaming add_mid->lf
open Prod.mk renaming injEq->nS
open Option renaming map_some->kF
open Option.some renaming injEq->iv,inj->jm
open Bool renaming and_eq_true->dJ
open Go.Sem renaming run_bind->bI,run_pure->bM
open Go renaming Oper->yk,Program->ym,TypeId->yn,Operand->yo,World->yp
set_option linter.defProp false
open Go.Proofs.Tryz
set_option maxRecDepth 100000
set_option maxHeartbeats 2000000
open And renaming intro->fP
open Go.Builtin renaming zeroCells->kH,clear_->sB
open Go.Instr renaming index->tO
open Go.IntKind renaming signed->mO,bits->oB,wrap->rB,wrap_u64->jN,wrap_u8'->HV
open Go.Next renaming value->oO
open Go.Region renaming wanted->aU,ready->bC,binds->dE,noSelect_spec->Ac,free_spec->Fo
open Go.Result renaming ok->pE,andThen_ok->bS
open Go.Value renaming int->bQ,pointer->rC
open List renaming replicate->aB,range->dV,find?_eq_none->mM,mem_of_find?_eq_some->mW,append_nil->fj,length_append->aV,mem_singleton->bU,getElem?_eq_getElem->da,mem_cons->bT,getElem?_eq_some_iff->eY,mem_cons_of_mem->dS,mem_of_getElem?->eg,mem_cons_self->eh,length_take->du,append_assoc->ei,mem_map->dv,length_cons->fL,map_cons->eZ,take_append_drop->oN,pairwise_cons->qu,length_drop->k7,nil_append->lD,ext_getElem->qv,getElem?_take->uq,map_set->oW,drop_eq_nil_of_le->Lb,take_zero->DG,cons_append->AO,length_map->dL,size_toArray->fx,take_of_length_le->kE,length_set->jO,not_mem_nil->xG,getElem_mem->AD,map_append->jl,length_replicate->nb,take_length->kW,take_add_one->qw,flatten_cons->wE,length_reverse->BI,take_succ_eq_append_getElem->Eu,getElem_set->Fq,getElem_range->HU,getElem_map->H5,getElem_reverse->Qm,drop_of_length_le->um,drop_eq_getElem_cons->z9,set_append_right->yF,take_append_of_le_length->KU,drop_zero->Dv,length_nil->Fu,getElem_append_left->PH
open List.Pairwise renaming nil->qE
open Nat renaming blt->aW,reducePow->fH,mul_mod_mod->oP,div_eq_of_lt->r9,or_comm->sK,zero_add->dI,le_refl->aQ,le_of_ble_eq_true->cL,zero_le->bl,lt_of_lt_of_le->nP,lt_of_le_of_lt->nc,add_zero->jP,lt_irrefl->ze,add_comm->zh,pow_mul->AK,le_trans->fo,mod_lt->ke,min_eq_left->pq,mul_comm->oV,one_mul->qI,le_of_eq->vF,add_mul->zj,mod_eq_of_lt->gm,pow_succ->k8,div_le_self->qA,mul_assoc->vk,mul_le_mul->yJ,div_div_eq_div_mul->C9,add_mul_mod_self_left->GV,pow_le_pow_right->Ex,pow_zero->xW,pow_add->wV,mul_zero->AB,add_mod->AE,mul_mod->Cm,div_lt_of_lt_mul->Lq,mul_add->Cw,div_one->IJ,le_of_lt->Mv,sub_self->si,add_mul_div_left->Qn,pow_pos->MA
open UInt8 renaming ofNat->bX,toNat_lt->ur,toNat_inj->Q3
namespace Go.Proofs.Q
open Go.RowKit Go.IntWalk Nums
def awM:Own 161:=λ_ _=>by go_simp
def atX{l:ae}{i:Nat}(h:i+4<=l.length):le (l.drop i)=(l[i]!).toNat+256*(l[i+1]!).toNat+65536*(l[i+2]!).toNat+16777216*(l[i+3]!).toNat+4294967296*le (l.drop (i+4)):=by
 have e:∀k k',k<l.length->k'=k+1->le (l.drop k)=(l[k]!).toNat+256*le (l.drop k'):=λk k' hk h=>by rw [h,z9 hk,getElem!_pos l k hk];rfl
 have e0:=e i (i+1) (by omega) rfl;have e1:=e (i+1) (i+2) (by omega) rfl;have e2:=e (i+2) (i+3) (by omega) rfl;have e3:=e (i+3) (i+4) (by omega) rfl;rw [e0,e1,e2,e3];omega
def U2(i x y:Nat)(hx:x<2^i)(hy:y%2^i=0)(h1:x<18446744073709551616)(h2:y<18446744073709551616):bits .or .u64 (x:Int) (y:Int)=((x+y:Nat):Int):=by rw [u64_or_nat x y h1 h2,sK,nat_join i y x hy hx,zh]
def aFJ(X h L:Nat):(4294967296*(X%L)+1*h)%L=(h+4294967296*X)%L:=by rw [qI,zh h,AE,oP,<-AE]
def ax7:Own 160:=λ_ _=>by go_simp
def auR(x Y u v L:Nat):(4294967296*((4294967296*(x*Y%L)+x*u)%L)+x*v)%L=x*(18446744073709551616*Y+(4294967296*u+v))%L:=by
 have e:x*(18446744073709551616*Y+(4294967296*u+v))=4294967296*(4294967296*(x*Y)+x*u)+x*v:=by grind only
 rw [e,AE,oP,<-AE];have e2:(4294967296*(x*Y%L)+x*u)%L=(4294967296*(x*Y)+x*u)%L:=by rw [AE,oP,<-AE]
 rw [AE (4294967296*(4294967296*(x*Y%L)+x*u)),Cm,e2,<-Cm,<-AE]
def awZ:Own 132:=λ_ _=>by go_simp
theorem le_zero:∀n,le (aB n 0)=0
 | 0=>rfl
 | n+1=>by show(0:UInt8).toNat+256*le (aB n 0)=0;rw [le_zero n];rfl
def XZ{b:ae}(hb:b.length=32):(eM (aB 64 0) 0 b).length=64/\le (eM (aB 64 0) 0 b)=le b:=by
 have e:eM (aB 64 0) 0 b=b++aB 32 0:=by simp [eM,hb]
 rw [e];refine⟨by simp [hb],?_⟩;rw [Du,le_zero,AB,jP]
abbrev kr(n:Nat):aL:=.p [.agg 4 (av (ws n)).toArray]
def Ad(n:Nat):ch [.agg 4 (av (ws n)).toArray]:=BH (AG n)
def UH(n:Nat):n%cd<cd:=ke _ (by decide)
def avI:1<cd:=by decide
def GG:rX 174 4:=⟨_,Qf,by kernel_rfl⟩
def w64:iX .u64 64:=.inl ⟨rfl,rfl⟩
def QI{l:ae}{m:Nat}(off n:Nat):((a7 [.agg m (By l).toArray]).toList.drop off).take n=By ((l.drop off).take n):=by simp [a7,bz.cells,By,List.map_take,List.map_drop]
def CT{l:ae}{n:Nat}(h:l.length=n):(l.drop 0).take n=l:=by rw [Dv,kE (vF h)]
section
variable{b:bO}{ops:aZ}{Q:bK}{N:Nat}{E:aG}{L:aH}{R:bF}{F M:aE}{rest:aN}{k:Nat}{o:yk}
def OT{d s:yo}{j off n c j2 off2 n2 c2 m:Nat}{z:ae}{ai:cJ}(l:ae)(hq:di o k N)(ho:o.op = .call { callee:=.builtin .copy,args:=#[d,s],argTypes:=#[39,39] })
 (hx:aP E d=some (.s j off n c))(hy:aP E s=some (.s j2 off2 n2 c2))(hl:mJ L j=some [.agg m (By z).toArray])(iJ:mJ L j2=some ai)(hs:((a7 ai).toList.drop off2).take l.length=By l)(hz:z.length=m)(Hn:l.length=n2)(h1:l.length<=n)(h2:off+l.length<=m)
 (hn:a9 prog b ops Q N rest ⟨(k,.v (.int .i64 (l.length:Int)))::E,rj L j [.agg m (By (eM z off l)).toArray],R,F,M⟩):a9 prog b ops Q N (o::rest) ⟨E,L,R,F,M⟩:=λa w ⟨G,S,g1,g2,g3⟩=>by
 subst Hn;have e1:a.eval d = .slice (some ⟨G j,off,none⟩) n c:=g1.eval (bH hx);have e2:a.eval s = .slice (some ⟨G j2,off2,none⟩) l.length c2:=g1.eval (bH hy);obtain⟨u,hu,rfl,hps⟩:=tR hl;obtain⟨u2,Cf,rfl,ar6⟩:=tR iJ;have hb:=g3.at u hu;have jz:=g3.at u2 Cf;rw [hps] at hb;rw [ar6] at jz
 have bx:ch [bz.agg m (By (eM z off l)).toArray]:=λp hp=>by rw [bU.1 hp];exact⟨by rw [fx,dH,Nm (by omega),hz],qp _⟩
 refine wpList_copy_own (eB hq) d s 39 39 ho 5 mP xb (G u.j) off n c ⟨G u2.j,off2,none⟩ l.length c2 e1 e2 (By z).toArray u.t hb (By l) (by rw [dH];exact(pq h1).symm) ?_ (by rw [dH,fx,dH];omega) (qp l) ?_
 .intro i v ab
  rw [lf,jz.cell];rw [<-hs,uq] at ab;split at ab
  .rw [List.getElem?_drop] at ab;simpa using ab
  .cases ab
 .have e:(By z).toArray.toList.take off++(By l++(By z).toArray.toList.drop (off+(By l).length))=By (eM z off l):=by
   simp [eM,By]
  rw [e,(eC hq),dH];exact hn _ _ ⟨G,S,g1.put (dQ hq) _,g2.cons trivial,g3.set (Ic hl) bx⟩
end
section
variable{F:aE}[dc F]
omit [dc F] in
def UO{A B h:Nat}(hA:A<cd)(aF:B<cd)(hh:h<4294967296):cV F 161 [kr A,kr B,.c (.v (.int .u64 (h:Int)))] (one (.q (kr ((4294967296*A+B*h)%cd)))):=⟨awM,Spec.pure (Ad _) λw _=>av1 hA aF hh w⟩
def or4{a b c d:Nat}(ha:a<256)(hb:b<256)(hc:c<256)(hd:d<256):bits .or .u64 (bits .or .u64 (bits .or .u64 (IntKind.u64.wrap (a:Int)) (IntKind.u64.wrap (IntKind.u64.wrap (b:Int)*2^min 8 IntKind.u64.bits))) (IntKind.u64.wrap (IntKind.u64.wrap (c:Int)*2^min 16 IntKind.u64.bits))) (IntKind.u64.wrap (IntKind.u64.wrap (d:Int)*2^min 24 IntKind.u64.bits))=((a+256*b+65536*c+16777216*d:Nat):Int):=by
 rw [mU a (by omega),mU b (by omega),mU c (by omega),mU d (by omega)];rw [show((b:Int)*2^min 8 IntKind.u64.bits)=((b*256:Nat):Int) from rfl,show((c:Int)*2^min 16 IntKind.u64.bits)=((c*65536:Nat):Int) from rfl,show((d:Int)*2^min 24 IntKind.u64.bits)=((d*16777216:Nat):Int) from rfl,mU _ (by omega),mU _ (by omega),mU _ (by omega),
  U2 8 _ _ (by omega) (by omega) (by omega) (by omega),U2 16 _ _ (by omega) (by omega) (by omega) (by omega),U2 24 _ _ (by omega) (by omega) (by omega) (by omega)]
 exact congrArg _ (by omega)
omit [dc F] in
def WN{l:ae}(hl:l.length=64):cV F 126 [aw 64 l] (one (.q (kr (le l%cd)))):=⟨ad7,by
 refine bA [aw 64 l] 41 func126 rfl (ab:=iG (cq hl).1) λB=>ag rfl (ag rfl (ao λK1 aS=>ag rfl (a8 ?_)));let V:Nat×Int->Env:=λs=>⟨[(4,.v (.int .i64 s.2)),(1,.a 1 0),(2,.a 2 0),(3,.a 3 0)],[⟨3,none,176,[.agg 4 (av (ws (le (l.drop (64-4*s.1))%cd))).toArray]⟩,⟨2,none,176,[.agg 4 (av [0,0,0,0]).toArray]⟩,⟨1,none,66,[.agg 64 (By l).toArray]⟩],[],F,λ_=>True⟩;have e0:le (l.drop (64-4*0))%cd=0:=by rw [Lb (by omega)];rfl
 have e3:(some ⟨3,none,176,[.agg 4 (av [0,0,0,0]).toArray]⟩:Option mn)=some ⟨3,none,176,[.agg 4 (av (ws (le (l.drop (64-4*0))%cd))).toArray]⟩:=by rw [e0];rfl
 refine cI (e':=V (0,60)) ⟨dB rfl, ⟨e3,rfl,rfl,rfl,rfl,rfl,trivial⟩,.refl _,λ_ h _=>h, au⟩ (cY (λs=>16-s.1) V (λs=>s.1<=16/\s.2=60-4*(s.1:Int)) ?_ (0,60) ⟨bl _,rfl⟩);rintro⟨j,z⟩ ⟨hj,hz⟩;dsimp only at hj hz;refine ao λK2 aM=>ag rfl ?_;refine bn (z>=0) rfl (λcW=>?_) (λal=>?_)
 .obtain⟨q,rfl⟩:∃q:Nat,z=(q:Int):=⟨z.toNat,by omega⟩
  have hq:q=64-4*(j+1):=by omega
  have rd:∀i,i<64->(a7 [.agg 64 (By l).toArray])[0+i]?=some (.int .u8 ((l[i]!).toNat:Int)):=λi hi=>by rw [dI];exact ub (by omega)
  have Z3:=atX (l:=l) (i:=q) (by omega);rw [show q+4=64-4*j by omega] at Z3;refine aR (aM _ (ao λK3 bu=>a8 (eU 26 [] λK hK G S w0 aa=>cw aa rfl (g8 aa rfl BB (by show q<64;omega) (.int .u8 ((l[q]!).toNat:Int)) (rd q (by omega)) (cw aa rfl (fb 15 ((q+1:Nat):Int) rfl (gv q 1 (by omega)) (g8 aa rfl BB (by show q+1<64;omega) (.int .u8 ((l[q+1]!).toNat:Int)) (rd (q+1) (by omega)) (cw aa rfl (fb 22 ((q+2:Nat):Int) rfl (gv q 2 (by omega)) (g8 aa rfl BB (by show q+2<64;omega) (.int .u8 ((l[q+2]!).toNat:Int)) (rd (q+2) (by omega)) (cw aa rfl (fb 29 ((q+3:Nat):Int) rfl (gv q 3 (by omega)) (g8 aa rfl BB (by show q+3<64;omega) (.int .u8 ((l[q+3]!).toNat:Int)) (rd (q+3) (by omega)) (cw aa rfl (fb 5 _ rfl (or4 (ur _) (ur _) (ur _) (ur _)) (fz aa rfl hK rfl ?_))))))))))))))));have h0:=ur l[q]!;have h1:=ur l[q+1]!;have h2:=ur l[q+2]!;have h3:=ur l[q+3]!;have e1:(4294967296*(le (l.drop (64-4*j))%cd)+1*((l[q]!).toNat+256*(l[q+1]!).toNat+65536*(l[q+2]!).toNat+16777216*(l[q+3]!).toNat))%cd=le (l.drop (64-4*(j+1)))%cd:=by rw [aFJ,<-hq,Z3]
  refine ef (dP rfl (zn (.p [.agg 4 (av [1,0,0,0]).toArray]) (BH rfl) (λG S w C0 Q' _ _ hQ=>C3 [(0,.int .u64 1)] (av [1,0,0,0]).toArray rfl rfl rfl (by kernel_rfl) hQ) rfl (cX (UO (UH _) avI (by omega)) (λ_=>rfl) rfl λ_=>?_)));rw [e1];refine kz rfl (bu _ (cE rfl ?_));exact cH (j+1,(q:Int)-4) ⟨by show j+1<=16;omega,by show(q:Int)-4=60-4*((j+1:Nat):Int);omega⟩ (by show 16-(j+1)<16-j;omega) ⟨⟨congrArg (λx=>some (aq.v (.int .i64 x))) (by show IntKind.i64.wrap ((q:Int)-4)=_;rw [i64_left,wrap64_in _ (by omega)]),rfl,rfl,rfl,trivial⟩,c8 rfl rfl, .refl _,λ_ h _=>h,λ_ h=>h⟩
 .obtain rfl:j=16:=by omega
  refine cG (a6 (a6 (cF (aS _ (ag rfl (aJ ?_))))));exact bE () rfl aD λ_ _=>trivial⟩
omit [dc F] in
def aAX{x y:Nat}(hx:x<cd)(hy:y<cd):cV F 122 [kr x,kr y] (one (.q (kr ((x+y)%cd)))):=⟨awW,by
 have hL:cd<2^253:=by decide
 have hs:(x+y)%(2^256)=x+y:=gm (by omega);obtain⟨a,b,c,d,e1,e2,ha,hb,hc,hd⟩:=IA (n:=x+y) (by omega);refine bA [kr x,kr y] 21 func122 rfl (ab:=dZ (Ad x) (Ad y)) λB=>ag rfl ?_;have c1:cV F 159 [kr x,kr y] (one (.q (CZ 4 [a,b,c,d]))):=⟨ax8,Spec.pure (BH rfl) λw _=>by have h:=aiZ (A:=x) (B:=y) (by omega) (by omega) w;rw [hs,e2] at h;exact h⟩;have c2:cV F 160 [CZ 5 [a,b,c,d,0]] (one (.q (kr ((x+y)%cd)))):=⟨ax7,Spec.pure (Ad _) λw _=>by have h:=aeR ha hb hc hd (u:=0) (by decide) w;rw [AB,jP,<-e1] at h;exact h⟩;refine ck λK hK=>cX c1 (λ_=>rfl) rfl λ_=>cR hK rfl (ck λK hK=>lp rfl GG (cL rfl) (.int .u64 (a:Int)) rfl (lp rfl GG (cL rfl) (.int .u64 (b:Int)) rfl (lp rfl GG (cL rfl) (.int .u64 (c:Int)) rfl (lp rfl GG (cL rfl) (.int .u64 (d:Int)) rfl (zn (.p [.agg 5 (av [a,b,c,d,0]).toArray]) (BH rfl) (λG S w C0 Q' _ _ hQ=>C3 ([a,b,c,d].zipIdx.map λx=>(x.2,.int .u64 ((x.1:Nat):Int))) (av [a,b,c,d,0]).toArray rfl rfl rfl (by kernel_rfl) hQ) rfl (cX c2 (λ_=>rfl) rfl λ_=>cR hK rfl (aJ ?_)))))));exact bE () rfl aD λ_ _=>trivial⟩
def aB0{x y:Nat}(hx:x<cd)(hy:y<cd):cV F 123 [kr x,kr y] (one (.q (kr (x*y%cd)))):=⟨awY,by
 have hL:cd<2^253:=by decide
 refine bA [kr x,kr y] 28 func123 rfl (ab:=dZ (Ad x) (Ad y)) λB=>ag rfl (ag rfl (ao λK1 aS=>ag rfl (a8 ?_)));let R:aK:=λj=>x*(y/18446744073709551616^j)%cd;let V:Nat×Int->Env:=λs=>⟨[(6,.v (.int .i64 s.2)),(2,.a 2 0),(3,.a 3 0),(4,.a 4 0),(5,.a 5 0)],[⟨5,none,176,[.agg 4 (av (ws (R s.1))).toArray]⟩,⟨4,none,176,[.agg 4 (av [0,0,0,0]).toArray]⟩,⟨3,none,176,[.agg 4 (av (ws y)).toArray]⟩,⟨2,none,176,[.agg 4 (av (ws x)).toArray]⟩],[],F,λ_=>True⟩;have e4:R 4=0:=by show x*(y/18446744073709551616^4)%cd=0;rw [r9 (nP hy (by decide)),AB,Nat.zero_mod]
 have e5:(some ⟨5,none,176,[.agg 4 (av [0,0,0,0]).toArray]⟩:Option mn)=some ⟨5,none,176,[.agg 4 (av (ws (R 4))).toArray]⟩:=by rw [e4];rfl
 refine cI (e':=V (4,3)) ⟨dB rfl, ⟨e5,rfl,rfl,rfl,rfl,rfl,rfl,rfl,trivial⟩,.refl _,λ_ h _=>h, au⟩ (cY (λs=>s.1) V (λs=>s.1<=4/\s.2=(s.1:Int)-1) ?_ (4,3) ⟨aQ _,rfl⟩);rintro⟨j,z⟩ ⟨hj,hz⟩;dsimp only at hj hz;refine ao λK2 aM=>ag rfl ?_;refine bn (z>=0) rfl (λcW=>?_) (λal=>?_)
 .obtain⟨q,rfl⟩:∃q,j=q+1:=⟨j-1,by omega⟩
  obtain rfl:z=(q:Int):=by omega
  have hw:(ws y)[q]! = wd y q:=aiX y (by omega);obtain⟨v,ab⟩:∃v,v=wd y q:=⟨_,rfl⟩;have sE:v<18446744073709551616:=ab▸ke _ (by decide);have rd:(a7 [.agg 4 (av (ws y)).toArray])[0+q]?=some (.int .u64 (v:Int)):=(xp (by rw [AG];omega)).trans (by rw [hw,ab]);have hY:y/18446744073709551616^q=18446744073709551616*(y/18446744073709551616^(q+1))+v:=by rw [ab,k8,<-C9];unfold wd;omega
  have hR:(4294967296*((4294967296*R (q+1)+x*(v/4294967296))%cd)+x*(v%4294967296))%cd=R q:=by show(4294967296*((4294967296*(x*(y/18446744073709551616^(q+1))%cd)+x*(v/4294967296))%cd)+x*(v%4294967296))%cd=x*(y/18446744073709551616^q)%cd;rw [auR,hY,show 4294967296*(v/4294967296)+v%4294967296=v by omega]
  refine aR (aM _ (ao λK3 bu=>a8 (eU 8 [] λK hK G S w0 aa=>cw aa rfl (g8 aa rfl GG (by show q<4;omega) (.int .u64 (v:Int)) rd (cw aa rfl (fb 17 ((v/4294967296:Nat):Int) rfl (w64.shr 32 (by decide)) (bR aa (UO (UH _) hx (by omega)) rfl λ_=>fz aa rfl hK rfl (w7 8 λG S w0 aa=>cw aa rfl (g8 aa rfl GG (by show q<4;omega) (.int .u64 (v:Int)) rd ?_)))))))));have hm:v%4294967296<4294967296:=ke _ (cL rfl);refine cw aa rfl (fb 25 ((v%4294967296:Nat):Int) rfl (Pb v sE) (bR aa (UO (UH _) hx hm) rfl λ_=>?_));rw [hR];refine sS aa rfl (kz rfl (bu _ (cE rfl ?_)));exact cH (q,(q:Int)-1) ⟨by show q<=4;omega,rfl⟩ (Nat.lt_succ_self q) ⟨⟨congrArg (λx=>some (aq.v (.int .i64 x))) (by show IntKind.i64.wrap ((q:Int)-1)=_;rw [i64_left,wrap64_in _ (by omega)]),rfl,rfl,rfl,rfl,trivial⟩,c8 rfl rfl, .refl _,λ_ h _=>h,λ_ h=>h⟩
 .obtain rfl:j=0:=by omega
  have e6:R 0=x*y%cd:=by show x*(y/18446744073709551616^0)%cd=_;rw [xW,IJ]
  refine cG (a6 (a6 (cF (aS _ (ag rfl (aJ ?_))))));rw [<-e6];exact bE () rfl aD λ_ _=>trivial⟩
omit [dc F] in
def Mj{n:Nat}:cV F 124 [kr n] (one (.q (aw 32 (Nums.bytes 32 n)))):=⟨awX,Spec.pure (cq (ld _ _)).1 λw _=>aAY n w⟩
def ag2{b:ae}(hb:b.length=32):cV F 132 [aw 32 b] (one (.t [kr (if le b<cd then le b else 0),.c (.v (.bool (decide (le b<cd))))])):=⟨awZ,by
 have hl:=XZ hb;obtain⟨c,hc⟩:∃c,c=eM kT 0 b:=⟨_,rfl⟩;have h1:c.length=64:=hc▸hl.1;have h2:le c=le b:=hc▸hl.2;refine bA [aw 32 b] 17 func132 rfl (ab:=iG (cq hb).1) λB=>ag rfl (ag rfl (eU 2 [] λK hK G S w0 aa=>sS aa rfl (OT (z:=kT) (ai:=[.agg 32 (By b).toArray]) b rfl rfl rfl rfl rfl rfl ((QI 0 _).trans (congrArg By (CT rfl))) rfl hb (by rw [hb];exact cL rfl) (by rw [hb];exact cL rfl) (kz rfl (hK _ ?_)))));rw [<-hc];refine ck λK hK=>cX (WN h1) (λ_=>rfl) rfl λ_=>?_;rw [h2];refine cR hK rfl (ao λK1 aS=>eU 4 [] λK hK G S w0 aa=>bR aa Mj rfl λ_=>cw aa rfl (vH aa (.b (!decide (Nums.bytes 32 (le b%cd)=b))) rfl (F7 rfl rfl rfl dp (by kernel_rfl) (ld _ _) hb) ?_));rw [aEL hb];refine fz aa rfl hK rfl ?_;refine pD (!decide (le b<cd)) rfl (λh=>?_) (λh=>?_)
 .have hq:¬le b<cd:=λhq=>by rw [decide_eq_true hq] at h;cases h
  refine ag rfl (aJ ?_);rw [decide_eq_false hq,if_neg hq];exact bE () rfl aD λ_ _=>trivial
 .have hq:le b<cd:=of_decide_eq_true (by rw [Bool.not_eq_false'] at h;exact h);rw [gm hq];refine aR (aS _ (ag rfl (aJ ?_)));rw [decide_eq_true hq,if_pos hq];exact bE () rfl aD λ_ _=>trivial⟩
end
def aFI{l:ae}(hl:l.length=64)(w:yp):Calls prog 126 #[.agg (By l).toArray] w λe w'=>e = .returned (.agg (av (ws (le l%cd))).toArray)/\Below w.heap.size w w' :=
 haveI:dc λ_:yp=>True:=⟨λ_ _ h _=>h⟩
 (WN (F:=λ_=>True) hl).row trivial
section
variable{b:bO}{ops:aZ}{Q:bK}{N:Nat}{E:aG}{L:aH}{R R':bF}{F M F':aE}{o:yk}{rest:aN}{k:Nat}{α:Type}{post:fm α}{own:bF}{f:FuncId}{y:yo}{xs:na}{ats:mX}{svs:nH}{caps:cU}
def XQ{G:aK}{a:Act}{w:yp}(hf:Own f)(ho:o.op = .call { callee:=.value y,args:=xs,argTypes:=ats })(hy:aP E y=some (.v (.func (.func f) #[] caps.toArray)))(hx:lg E xs.toList=some svs)(ha:Fr N (bG G E) a) :
  (execOp a.eval o).run prog w = .ok (.enter f (svs.map (aq.den G)++caps).toArray) w:=by
 have h1:a.eval y = .func (.func f) #[] caps.toArray:=ha.eval (bH hy);have h2:=ya (args:=(svs.map (aq.den G)).toArray) (ha.Af _ _ (by rw [vh hx]));have h3:=hf (svs.map (aq.den G)++caps).toArray w
 have e:(svs.map (aq.den G)).toArray++caps.toArray=(svs.map (aq.den G)++caps).toArray:=by simp
 obtain⟨dst,op,ty,pos,af,gd⟩:=o;simp only at ho;subst ho
 unfold execOp
 simp only [resolve,h1,h2,Deferred.ofValue,bI,bM,bS,invoke]
 simp [e,h3]
def Us(args:cU)(hq:di o k N)(hf:Own f)(ho:o.op = .call { callee:=.value y,args:=xs,argTypes:=ats })(hy:aP E y=some (.v (.func (.func f) #[] caps.toArray)))(hx:lg E xs.toList=some svs)
 (ha:∀G:aK,(∀x∈L,∀g,x.g=some g->G x.j=g)->svs.map (aq.den G)++caps=args)(hs:Spec f args own F' post)(hF:∀w,F w->M w->F' w)
 (hn:∀x,a9 prog b ops Q N rest ⟨(k,(post.ret x).eJ)::E,L,post.own x++R',λw=>post.p x w/\F w,λw=>post.n x w/\M w⟩):a9 prog b ops Q N (o::rest) ⟨E,L,own++R',F,M⟩:=λa w ⟨G,S,h1,h2,h3⟩=>by
 have hr:=XQ (w:=w) hf ho hy hx h1;rw [ha G λx hx=>(h3.var x hx).2.2] at hr
 unfold wpList
 rw [if_pos (by simp [aU,(eB hq)])];refine .inl ?_
 unfold Oper.wp
 rw [hr];simp only [Oper.upon,(eC hq)];refine(h3.RZ hs hF).mono ?_
 rintro e w' ⟨x,S',rfl,bx,h4⟩
 have h5:=h1.put (dQ hq) (post.ret x).den;rw [<-cM.ql _ G] at h5;have h6:=hn x _ w' ⟨G,S',h5,h2.cons bx,h4⟩;rw [cM.ql] at h6;exact h6
def VR{fn:Fn}{vals:cU}(ho:o.op = .makeFunc fn #[] xs)(hx:lg E xs.toList=some svs)(ab:∀G:aK,svs.map (aq.den G)=vals) :
  ∀(G:aK) (a:Act) (w:yp),Fr N (bG G E) a->(execOp a.eval o).run prog w = .ok (.value ((aq.v (.func fn #[] vals.toArray)).den G)) w:=λG a w ha=>by
 have h2:=ya (args:=(svs.map (aq.den G)).toArray) (ha.Af _ _ (by rw [vh hx]));rw [ab G] at h2
 unfold execOp
 simp only [ho]
 simp [h2,Instr.makeFunc]
 rfl
end
def aB6{w:yp}{g t:Nat}{cs:ct}(h:bB w g t cs):w.setRow g cs=w:=setRow_self w g cs t (0,0) h
def qz(z:ae)(o:Nat):ae:=z.take o++aB (z.length-o) 0
def amI{z:ae}{o:Nat}(h:o<=z.length):(qz z o).length=z.length:=by simp [qz];omega
def aFW{ops:aZ}{rest:aN}{op:yk}{a:Act}{w:yp}{Q:bK}(x:yo)(kN:op.guard=none)(ho:op.op = .call { callee:=.builtin .clear,args:=#[x],argTypes:=#[39] })
 (g o n c:Nat)(A:aO)(hx:a.eval x = .slice A n c)(hA:0<n->A=some ⟨g,o,none⟩)(z:ae)(t:Nat)(hz:bB w g t (By z).toArray)(hn:o+n=z.length)
 (z':ae)(hz':Hid (qz z o=z'))(h:wpList prog ops Q rest (a.put op.dst (.tuple #[])) (w.setRow g (By z').toArray)):wpList prog ops Q (op::rest) a w:=by
 rw [<-hz'.out] at h;refine wpList_plain kN λK hK=>?_
 have iy:(sB #[39] op.type #[.slice A n c]).run prog w = .ok (.tuple #[]) (w.setRow g (By (qz z o)).toArray):=by
  by_cases h0:n=0
  .subst h0
   have e:qz z o=z:=by unfold qz;rw [<-hn,jP,si,List.replicate_zero,fj,kE (by omega)]
   rw [e,aB6 hz];have hu:=mP;cases A<;>simp [sB,run_underlying hu]
  .obtain rfl:=hA (by omega)
   have aa:=run_storeCells_at (P:=prog) g o t (aB n (.int .u8 0)) 0 (By z).toArray w hz (by rw [nb,fx,dH];omega) (by intro v ab;rw [List.eq_of_mem_replicate ab];rfl);have e:((By z).toArray.toList.take (o+0)++aB n (.int .u8 0)++(By z).toArray.toList.drop (o+0+(aB n (bQ .u8 0)).length))=By (qz z o):=by have hd:(By z).drop (o+n)=[]:=Lb (by rw [dH];omega);simp only [nb,jP,hd,fj];unfold qz;rw [MP,<-hn,Nat.add_sub_cancel_left];simp [By]
   rw [e] at aa;have Ua:(kH #[.int .u8 0] n).toList=aB n (.int .u8 0):=by
    simp [kH];apply qv
    .simp
    .intro i h1 h2;simp [Nat.mod_one]
   obtain⟨m,rfl⟩:∃m,n=m+1:=⟨n-1,by omega⟩;have hu:=mP;simp [sB,run_underlying hu,Value.cells,Ua,aa]
 unfold Oper.wp
 simp [execOp,ho,resolve,invoke,builtin,hx,iy,Result.andThen]
 exact hK _ _ h
abbrev yB(g ty n:Nat)(b:ae):fS:=rq g ty [.agg n (By b).toArray]
section
variable{b:bO}{ops:aZ}{Q:bK}{N n m k c c2 g ty off:Nat}{E:aG}{L:aH}{R:bF}{F M:aE}{rest:aN}{o o1 o2:yk}{t e:yn}{x y z:yo}{K:IntKind}{bb:ae}
def Ni(p:bz):a7 [p]=p.cells:=by rw [lE];exact Array.append_empty
def UW{w:yp}{S:cn}(h:(yB g ty n bb).holds w S):bB w g ty (By bb).toArray:=by
 have h1:=h.1.1
 rwa [show a7 [.agg n (By bb).toArray]=(By bb).toArray from Ni _] at h1
def ab0(i j:Nat)(v:UInt8)(hi:R[i]?=some (yB g ty n bb))(hlen:bb.length=n)(h1:(o1.guard,o1.dst,o1.op)=(none,some k,.indexAddr t x y))(h2:(o2.guard,o2.dst,o2.op)=(none,none,.store e (.tmp k) z))(hk:aW k N=true)(hx:aP E x=some (.v (cj g n c)))(hy:aP E y=some (.v (.int K (j:Int))))(hz:aP E z=some (.v (.int .u8 (v.toNat:Int))))(hf:dG E k=none)(ht:prog.underlying t=some (.slice e))(he:(prog.info? e).map (·.size)=some 1)(hj:j<n)
 (hn:a9 prog b ops Q N rest ⟨(k,.v (.pointer (some ⟨g,0+1*j,none⟩)))::E,L,R.set i (yB g ty n (bb.set j v)),F,M⟩):a9 prog b ops Q N (o1::o2::rest) ⟨E,L,R,F,M⟩:=by
 simp only [nS] at h1 h2;refine b6 (.v (.pointer (some ⟨g,0+1*j,none⟩))) (lu h1.1 h1.2.1 hk) (lO j h1.2.2 ht he hx hy hj) λa w ⟨G,S,f1,f2,f3⟩=>?_;obtain⟨S1,y7,ix⟩:=f3.put hi;have hb:=UW y7
 have e1:a.eval (.tmp k) = .pointer (some ⟨g,j,none⟩):=by have e:=f1.get k _ (by rw [bG,uK,if_pos rfl]);rw [dI,qI] at e;exact e
 have e2:a.eval z = .int .u8 (v.toNat:Int):=f1.eval (bH (Yw hf hz));have bx:ch [bz.agg n (By (bb.set j v)).toArray]:=(cq (by rw [jO,hlen])).1;have aa:=D0 (P:=prog) (t:=e) (v:=.int .u8 (v.toNat:Int)) (off:=j) hb (by rw [he];rfl) (by show j+1<=_;rw [fx,dH];omega) (λu hu=>by rw [bU.1 hu];rfl)
 have ec:((By bb).toArray.toList.take j++(bQ .u8 (v.toNat:Int)).cells.toList++(By bb).toArray.toList.drop (j+(bQ .u8 (v.toNat:Int)).cells.size)).toArray=a7 [.agg n (By (bb.set j v)).toArray]:=by rw [Ni];apply Array.ext';show(By bb).take j++[_]++(By bb).drop (j+1)=By (bb.set j v);rw [By,By,oW,List.set_eq_take_append_cons_drop,if_pos (by rw [dL,hlen];exact hj)];simp
 rw [ec] at aa;obtain⟨S'',h6⟩:=ix (yB g ty n (bb.set j v)) (w.setRow g (a7 [.agg n (By (bb.set j v)).toArray])) S1 ((dO.row w g _).mono λk _ hk=>(y7.2 k).2 hk) ⟨⟨hb.row _,bx⟩,y7.2⟩ (λk hk _=>hk)
 refine CI (w':=w.setRow g (a7 [.agg n (By (bb.set j v)).toArray])) (lr h2.1) (by unfold execOp;simp only [h2.2.2,e1,e2,aa,bI,bM,bS]) ?_
 rw [h2.2.1];exact hn _ _ ⟨G,S'',f1,f2,h6⟩
def aaX{A:aO}(i:Nat)(hi:R[i]?=some (yB g ty n bb))(hlen:bb.length=n)(h1:(o.guard,o.dst,o.op)=(none,none,.call { callee:=.builtin .clear,args:=#[x],argTypes:=#[39] }))(hx:aP E x=some (.v (.slice A m c)))(hA:0<m->A=some ⟨g,off,none⟩)(hm:off+m=n)
 (hn:a9 prog b ops Q N rest ⟨E,L,R.set i (yB g ty n (qz bb off)),F,M⟩):a9 prog b ops Q N (o::rest) ⟨E,L,R,F,M⟩:=λa w ⟨G,S,f1,f2,f3⟩=>by
 simp only [nS] at h1;obtain⟨S1,y7,ix⟩:=f3.put hi;have hb:=UW y7;have bx:ch [bz.agg n (By (qz bb off)).toArray]:=(cq (by rw [amI (by omega),hlen])).1;obtain⟨S'',h6⟩:=ix (yB g ty n (qz bb off)) (w.setRow g (By (qz bb off)).toArray) S1 ((dO.row w g _).mono λk _ hk=>(y7.2 k).2 hk) ⟨⟨by rw [show a7 [.agg n (By (qz bb off)).toArray]=(By (qz bb off)).toArray from Ni _];exact hb.row _,bx⟩,y7.2⟩ (λk hk _=>hk);refine aFW x h1.1 h1.2.2 g off m c A (f1.eval (bH hx)) hA bb ty hb (by rw [hlen];exact hm) (qz bb off) (iB rfl) ?_;rw [h1.2.1];exact hn _ _ ⟨G,S'',f1,f2,h6⟩
def asY{A:aO}{l:ae}(i:Nat)(hi:R[i]?=some (yB g ty n bb))(hlen:bb.length=n)(h1:(o.guard,o.dst,o.op)=(none,some k,.call { callee:=.builtin .copy,args:=#[x,y],argTypes:=#[39,39] }))(hk:aW k N=true)(hx:aP E x=some (.v (.slice (some ⟨g,off,none⟩) m c)))(hy:aP E y=some (.v (.slice A l.length c2)))(hm:off+m=n)(h0:0<l.length)(gA:∀G S w,View G S L R F M w->ar 1 aY A c2 l w)
 (hn:a9 prog b ops Q N rest ⟨(k,.v (.int .i64 ((min l.length m:Nat):Int)))::E,L,R.set i (yB g ty n (eM bb off (l.take m))),F,M⟩):a9 prog b ops Q N (o::rest) ⟨E,L,R,F,M⟩:=λa w ⟨G,S,f1,f2,f3⟩=>by
 simp only [nS] at h1;have hR:=gA G S w f3.view;obtain⟨S1,y7,ix⟩:=f3.put hi;have hb:=UW y7
 have hl:(l.take m).length=min l.length m:=by rw [du,Nat.min_comm]
 have hle:off+(l.take m).length<=bb.length:=by rw [hl];omega
 have bx:ch [bz.agg n (By (eM bb off (l.take m))).toArray]:=(cq (by rw [Nm hle,hlen])).1;obtain⟨S'',h6⟩:=ix (yB g ty n (eM bb off (l.take m))) (w.setRow g (By (eM bb off (l.take m))).toArray) S1 ((dO.row w g _).mono λk _ hk=>(y7.2 k).2 hk) ⟨⟨by rw [show a7 [.agg n (By (eM bb off (l.take m))).toArray]=(By (eM bb off (l.take m))).toArray from Ni _];exact hb.row _,bx⟩,y7.2⟩ (λk hk _=>hk);obtain⟨bk,oo,rfl,_,p9⟩:=hR.2.2.2.2 h0;refine wpList_copy_own h1.1 x y 39 39 h1.2.2 5 mP xb g off m c ⟨bk,oo,none⟩ l.length c2 (f1.eval (bH hx)) (f1.eval (bH hy)) (By bb).toArray ty hb (By (l.take m)) (by rw [dH,hl]) ?_ (by rw [dH,fx,dH];exact hle) (qp _) ?_
 .intro j v ab
  obtain⟨x,rK,rfl⟩:=Rr ab;rw [uq] at rK;split at rK
  .have:=p9 j x rK 0 (.int .u8 (x.toNat:Int)) rfl;rw [lf];simpa using this
  .cases rK
 .have e:(By bb).toArray.toList.take off++(By (l.take m)++(By bb).toArray.toList.drop (off+(By (l.take m)).length))=By (eM bb off (l.take m)):=by
   simp [eM,By]
  rw [e,h1.2.1,dH,hl];exact hn _ _ ⟨G,S'',f1.put hk _,f2.cons trivial,h6⟩
end
def Nb(v:Nat):(mH v).length=8:=by unfold mH;rw [BI,ld]
def RR(v:Nat):mH (v%18446744073709551616)=mH v:=by unfold mH;congr 1;refine FN (by rw [ld,ld]) ?_;rw [Dx,Dx];exact Nat.mod_mod _ _
def alB{v i:Nat}(h:i<8):((mH v)[7-i]!).toNat=v/256^i%256:=by
 have hl:(Nums.bytes 8 v).length=8:=ld _ _;have e:(mH v)[7-i]! = (Nums.bytes 8 v)[i]!:=by unfold mH;rw [getElem!_pos _ _ (by rw [BI,hl];omega),Qm,getElem!_pos _ i (by rw [hl];exact h)];congr 1;rw [hl];omega
 rw [e,El _ _ h]
def pt(c e:ae)(n i:Nat):ae:=c.take (n-i)++e.drop (8-i)
def Sg{c e:ae}{n i:Nat}(hc:c.length=n)(he:e.length=8)(hi:i<=8)(hn:8<=n):(pt c e n i).length=n:=by unfold pt;rw [aV,du,k7];omega
def anJ{c e:ae}{n:Nat}(hc:c.length=n)(he:e.length=8):pt c e n 0=c:=by unfold pt;rw [kE (by omega),um (by omega),fj]
def anI{c e:ae}{n i:Nat}(hc:c.length=n)(he:e.length=8)(hi:i<8)(hn:8<=n):(pt c e n i).set (n-1-i) e[7-i]! = pt c e n (i+1):=by
 unfold pt;have h1:c.take (n-i)=c.take (n-(i+1))++[c[n-(i+1)]!]:=by rw [show n-i=n-(i+1)+1 by omega,Eu (by omega),getElem!_pos c _ (by omega)]
 have h2:e.drop (8-(i+1))=e[7-i]! :: e.drop (8-i):=by
  rw [z9 (by omega),getElem!_pos e _ (by omega)];congr 1
  .congr 1;omega
  .congr 1;omega
 have hl:(c.take (n-(i+1))).length=n-(i+1):=by rw [du];omega
 rw [h1,h2,ei,yF _ _ (by omega),hl,show n-1-i-(n-(i+1))=0 by omega];rfl
def amJ{b:ae}{n r:Nat}(hb:b.length=n)(hr:r<n):qz (b.set r 128) (r+1)=b.take r++128::aB (n-1-r) 0:=by
 unfold qz;rw [jO,hb];have h1:(b.set r 128).take (r+1)=b.take r++[128]:=by rw [Eu (by rw [jO];omega),List.getElem_set_self,List.take_set_of_le (aQ r)]
 rw [h1,ei,show n-(r+1)=n-1-r by omega];rfl
def amH(c:ae):qz c 0=aB c.length 0:=by unfold qz;simp
def anP{s:gX}{b:ae}{n r v:Nat}{o:dr}(hn:64<=n)(hb:b.length=n)(hr:r<n)(h:r+1<=n-n/8) :
  mx s o (pt (b.take r++128::aB (n-1-r) 0) (mH v) n 8)=gK s n o (b.take r++kh n r v):=by
 have h8:n/8*8<=n:=Nat.div_mul_le_self n 8
 have h9:2<=n/8:=by omega
 have e:pt (b.take r++128::aB (n-1-r) 0) (mH v) n 8=b.take r++kh n r v:=by
  unfold pt kh;have hl:(b.take r).length=r:=by rw [du];omega
  rw [if_pos h,List.take_append,hl,kE (by omega),ei,si,Dv];congr 1;rw [show n-8-r=(n-9-r)+1 by omega,List.take_succ_cons,List.take_replicate,pq (by omega),AO]
 rw [e]
 have hl:(b.take r++kh n r v).length=n:=by rw [<-e,Sg (by rw [aV,du,fL,nb];omega) (Nb _) (aQ _) (by omega)]
 have h0:=Dp (s:=s) (B:=n) (o:=o) (b:=b.take r++kh n r v) (l:=[]) (by omega) hl;rw [fj] at h0;rw [h0,C6 (by simp only [Fu];omega)]
def anQ{s:gX}{b:ae}{n r v:Nat}{o:dr}(hn:64<=n)(hb:b.length=n)(hr:r<n)(h:¬r+1<=n-n/8) :
  mx s (mx s o (b.take r++128::aB (n-1-r) 0)) (pt (aB n 0) (mH v) n 8)=gK s n o (b.take r++kh n r v):=by
 have qc:(b.take r++128::aB (n-1-r) 0).length=n:=by rw [aV,du,fL,nb];omega
 have iJ:(pt (aB n 0) (mH v) n 8).length=n:=Sg (nb) (Nb _) (aQ _) (by omega)
 have e:b.take r++kh n r v=(b.take r++128::aB (n-1-r) 0)++pt (aB n 0) (mH v) n 8:=by unfold kh pt;rw [if_neg h,ei,AO,si,Dv,List.take_replicate,pq (by omega),<-ei (aB _ 0),List.replicate_append_replicate];congr 4;omega
 have h0:=Dp (s:=s) (B:=n) (o:=mx s o (b.take r++128::aB (n-1-r) 0)) (b:=pt (aB n 0) (mH v) n 8) (l:=[]) (by omega) iJ;rw [fj] at h0;rw [e,Dp (by omega) qc,h0,C6 (by simp only [Fu];omega)]
end Go.Proofs.Q
namespace Nums
def aGC{t r b:ae}{n:Nat}(ht:b.take t.length=t):(Go.Proofs.Q.eM b t.length (r.take (n-t.length))).take (t.length+min r.length (n-t.length))=t++r.take (n-t.length):=by
 unfold Go.Proofs.Q.eM;rw [ht,<-ei];have hl:(t++r.take (n-t.length)).length=t.length+min r.length (n-t.length):=by rw [aV,du,Nat.min_comm]
 rw [<-hl,List.take_left]
def aET{s:gX}{n k:Nat}{o:dr}{a z:ae}(hn:0<n)(ha:a.length=k*n)(hz:z.length=n):mx s (gK s n o a) z=gK s n o (a++z):=by rw [OR hn k ha];have h:=Dp (s:=s) (B:=n) (o:=gK s n o a) (b:=z) (l:=[]) hn hz;rw [fj] at h;have h2:=C6 (s:=s) (B:=n) (o:=mx s (gK s n o a) z) (l:=[]) (by simpa using hn);rw [h,h2]
def aGI{s:gX}{n k:Nat}{o:dr}{a t x:ae}(hn:0<n)(ha:a.length=k*n):gK s n (gK s n o a) (t++x)=gK s n o ((a++t)++x):=by rw [ei,OR hn k ha]
def aDM(n r v:Nat):kh n r (8*(v%18446744073709551616))=kh n r (8*v):=by
 unfold kh;have e:mH (8*(v%18446744073709551616))=mH (8*v):=by have h1:=Go.Proofs.Q.RR (8*(v%18446744073709551616));have h2:=Go.Proofs.Q.RR (8*v);rw [<-h1,<-h2];congr 1;omega
 rw [e]
end Nums
namespace Go.Proofs.Q
open Go.RowKit Go.IntWalk Nums
structure u7 where
  s:gX
  n:Nat
  th:yn
  tb:yn
  eo:dr->cJ
  f:FuncId
abbrev u7.R(k:u7)(gh gb:Nat)(o:dr)(b:ae):bF:=[rq gh k.th (k.eo o),yB gb k.tb k.n b]
abbrev pQ(g:Nat):Value:=.pointer (some ⟨g,0,none⟩)
abbrev u7.take(k:u7)(gh gb:Nat):Value:=.func (.func k.f) #[] [pQ gh,pQ gb].toArray
abbrev u7.post(k:u7)(gh gb:Nat)(o:dr):fm {b:ae // b.length=k.n}:={ ret:=λ_=>.t [],own:=λb=>k.R gh gb o b.1 }
structure u7.aI(k:u7):Prop where
  n64:64<=k.n
  n128:k.n<=128
  own:Own k.f
  qn:∀{gh gb:Nat} {o:dr} {b:ae},gH k.s.w o->b.length=k.n->Spec k.f [pQ gh,pQ gb] (k.R gh gb o b) s8 { ret:=λ_:Unit=>.t [],own:=λ_=>k.R gh gb (mx k.s o b) b }
section
variable{k:u7}{gh gb:Nat}
def anN(hk:k.aI){r v:Nat}{o:dr}{b:ae}(ho:gH k.s.w o)(hb:b.length=k.n)(hr:r<k.n) :
  Spec 190 [cj gb k.n k.n,.int .i64 (r:Int),.int .u64 (v:Int),k.take gh gb] (k.R gh gb o b) s8 (k.post gh gb (gK k.s k.n o (b.take r++kh k.n r (8*v)))):=by
 have h64:=hk.n64;have h128:=hk.n128;refine bA [.c (.v (cj gb k.n k.n)),.c (.v (.int .i64 (r:Int))),.c (.v (.int .u64 (v:Int))),.c (.v (k.take gh gb))] 48 func190 rfl λB=>ck λK hK=>aj rfl (ab0 1 r 128 rfl hb rfl rfl rfl rfl rfl rfl rfl mP xb hr (cR hK rfl ?_))
 have ux:pT (some ⟨gb,0,none⟩) k.n (r+1)=some ⟨gb,r+1,none⟩\/k.n-(r+1)=0:=by
  unfold pT;by_cases h:k.n=r+1
  .exact .inr (by omega)
  .rw [if_neg h];exact .inl (by rw [kF,lf,dI])
 refine ck λK hK=>aj rfl (ca 15 ((r+1:Nat):Int) rfl (gv r 1 (by omega)) (b6 (.v (.slice (pT (some ⟨gb,0,none⟩) k.n (r+1)) (k.n-(r+1)) (k.n-(r+1)))) rfl (Mf (by omega) (aQ _) (λh=>by cases h) rfl rfl rfl) (aaX (off:=r+1) 1 rfl (by rw [jO,hb]) rfl rfl (λh=>ux.resolve_right (by omega)) (by omega) ?_)));rw [amJ hb hr];refine cR hK rfl ?_
 have hlen:∀c:ae,(b.take r++128::c).length=r+1+c.length:=λc=>by rw [aV,du,fL,hb];omega
 have he:=Nb (8*v);generalize hP:gK k.s k.n o (b.take r++kh k.n r (8*v))=P
 let V:dr->ae->aG->Env:=λo c E=>⟨E++[(0,.v (cj gb k.n k.n)),(2,.v (.int .u64 (v:Int))),(3,.v (k.take gh gb))],[],k.R gh gb o c,s8,λ_=>True⟩
 refine ao λK1 aS=>?_;have go:∀(o:dr) (c:ae),gH k.s.w o->c.length=k.n->mx k.s o (pt c (mH (8*v)) k.n 8)=P->∀e,gj e (V o c [])->cl B K1 48 e:=λo c ho hc n7 e hw=>ft hw (aS _ ?_)
 .refine ck λK hK=>aj rfl ?_
  refine me 25 (.b (decide (r+1>k.n-k.n/8))) rfl ?_ (ah (hK _ ?_))
  .show aq.b (decide (IntKind.i64.wrap ((r:Int)+((1:Nat):Int))>IntKind.i64.wrap ((k.n:Int)-IntKind.i64.wrap ((k.n:Int).tdiv ((8:Nat):Int)))))=_;rw [gv r 1 (by omega),I6 k.n 8 (by omega),rU k.n (k.n/8) (by omega) (by omega)];exact congrArg aq.b (decide_eq_decide.2 (by omega))
  refine bn (r+1>k.n-k.n/8) rfl (λEM=>?_) (λhle=>?_)
  .have sx:(b.take r++128::aB (k.n-1-r) 0).length=k.n:=by rw [hlen,nb];omega
   refine ck λK hK=>aj rfl (Us (own:=k.R gh gb o (b.take r++128::aB (k.n-1-r) 0)) (R':=[]) [pQ gh,pQ gb] rfl hk.own rfl rfl rfl (λ_ _=>rfl) (hk.qn ho (by rw [hlen,nb];omega)) (λw h _=>h) λ_=>dz (k.R gh gb (mx k.s o (b.take r++128::aB (k.n-1-r) 0)) (b.take r++128::aB (k.n-1-r) 0)) rfl (cR hK rfl (ef (aj rfl (aaX (off:=0) 1 rfl (by rw [hlen,nb];omega) rfl rfl (λ_=>rfl) (dI _) ?_)))));rw [amH,sx];exact kz rfl (go _ _ (gH.mx _ _ _) nb (by rw [anQ h64 hb hr (by omega)];exact hP) _ (fC rfl rfl rfl λ_ h _=>h.2))
  .exact aR (go _ _ ho (by rw [hlen,nb];omega) (by rw [anP h64 hb hr (by omega)];exact hP) _ (hv rfl rfl rfl))
 .refine ck λK hK=>aj rfl (ca 8 (((8*v)%18446744073709551616:Nat):Int) rfl (by
   show IntKind.u64.wrap ((v:Int)*8)=_;rw [jN];omega) (ah (hK _ ?_)))
  have EG:=RR (8*v);rw [<-EG] at n7;generalize (8*v)%18446744073709551616=u at *;have Tk:=Nb u;have An:∀i,i<=8->(pt c (mH u) k.n i).length=k.n:=λi hi=>Sg hc Tk hi (by omega);refine ao λK2 aM=>ag rfl (a8 ?_);let W:Nat->Env:=λi=>⟨[(31,.aT i),(8,.v (.int .u64 ((u/256^i:Nat):Int))),(0,.v (cj gb k.n k.n)),(3,.v (k.take gh gb))],[],k.R gh gb o (pt c (mH u) k.n i),s8,λ_=>True⟩;refine cI (e':=W 0) ⟨⟨rfl,congrArg (λx:Nat=>some (aq.v (.int .u64 (x:Int)))) (by rw [xW,IJ]),rfl,rfl,trivial⟩,trivial,.of_eq (congrArg (k.R gh gb o) (anJ hc Tk).symm),λ_ h _=>h,λ_ h=>h⟩ (cY (λi=>8-i) W (λi=>i<=8) ?_ 0 (bl _));rintro i hi;refine ag rfl (ao λK3 bu=>?_);refine bn ((i:Int)<8) rfl (λal=>?_) (λcW=>?_)
  .have al:i<8:=by omega
   refine aR (bu _ (ao λK4 bW=>a8 (ag rfl ?_)));refine ck λK hK=>aj rfl (ca 39 ((k.n-1-i:Nat):Int) rfl (by
    show IntKind.i64.wrap (IntKind.i64.wrap ((k.n:Int)-((1:Nat):Int))-(i:Int))=_;rw [rU k.n 1 (by omega) (by omega),rU (k.n-1) i (by omega) (by omega)]) (ca 41 (((mH u)[7-i]!).toNat:Int) rfl (by
    show IntKind.u8.wrap ((u/256^i:Nat):Int)=_;rw [HV,alB al];omega) ?_))
   refine ab0 1 (k.n-1-i) ((mH u)[7-i]!) rfl (An i (by omega)) rfl rfl rfl rfl rfl rfl rfl mP xb (by omega) ?_;rw [anI hc Tk al (by omega)];refine cR hK rfl (ef (dP rfl (ca 8 ((u/256^(i+1):Nat):Int) rfl (by show Int.fdiv ((u/256^i:Nat):Int) (2^min 8 IntKind.u64.bits)=_;rw [oq.shr 8 (by decide),C9,show(256:Nat)^i*2^8=256^(i+1) from rfl]) (ah (bW _ (cE rfl ?_))))));exact cH (i+1) al (by omega) ⟨⟨congrArg (λx=>some (aq.v (.int .i64 x))) (gv i 1 (by omega)),rfl,rfl,rfl,trivial⟩,trivial,.refl _,λ_ h _=>h,λ_ h=>h⟩
  .obtain rfl:i=8:=by omega
   refine cG (a6 (a6 (cF (aM _ (ef (aj rfl (Us (own:=k.R gh gb o (pt c (mH u) k.n 8)) (R':=[]) [pQ gh,pQ gb] rfl hk.own rfl rfl rfl (λ_ _=>rfl) (hk.qn ho (An 8 (aQ _))) (λw h _=>h) λ_=>dz (k.R gh gb P (pt c (mH u) k.n 8)) (by rw [<-n7];rfl) (kz rfl ?_))))))));exact bE ⟨pt c (mH u) k.n 8,An 8 (aQ _)⟩ rfl aD λ_ _=>trivial
end
structure zU(k:u7)(o0:dr)(m:ae)(o:dr)(c:ae)(f:Nat):Prop where
  len:c.length=k.n
  ob:gH k.s.w o
  lt:f<k.n
  so:∃a j,m=a++c.take f/\a.length=j*k.n/\o=gK k.s k.n o0 a
section
variable{k:u7}{o0 o:dr}{m c r:ae}{f f':Nat}
def zU.more(h:zU k o0 m o c f)(hq:f+min r.length (k.n-f)=f'):(eM c f (r.take (k.n-f))).length=k.n/\(eM c f (r.take (k.n-f))).take f'=c.take f++r.take (k.n-f):=by
 have h1:(c.take f).length=f:=by rw [du,h.len];have:=h.lt;omega
 have h2:=aGC (t:=c.take f) (r:=r) (b:=c) (n:=k.n) (by rw [h1]);rw [h1,hq] at h2;exact⟨by rw [Nm (by rw [du,h.len];have:=h.lt;omega),h.len],h2⟩
def ah4(r:ae)(n:Nat):r.take (min r.length n)=r.take n:=by
 rcases Nat.le_total r.length n with h|h
 .rw [pq h,kW,kE h]
 .rw [Nat.min_eq_right h]
def zU.part(h:zU k o0 m o c f)(hq:f+min r.length (k.n-f)≠k.n):zU k o0 (m++r.take (min r.length (k.n-f))) o (eM c f (r.take (k.n-f))) (f+min r.length (k.n-f)):=by obtain⟨h1,h2⟩:=h.more (r:=r) rfl;obtain⟨a,j,rfl,e2,e3⟩:=h.so;refine⟨h1,h.ob,by have:=h.lt;omega,a,j,?_,e2,e3⟩;rw [h2,ah4,ei]
def zU.full(h:zU k o0 m o c f)(hk:k.aI)(hq:f+min r.length (k.n-f)=k.n):zU k o0 (m++r.take (min r.length (k.n-f))) (mx k.s o (eM c f (r.take (k.n-f)))) (eM c f (r.take (k.n-f))) 0:=by
 have h64:=hk.n64;obtain⟨h1,h2⟩:=h.more (r:=r) hq;rw [kE (by omega)] at h2;obtain⟨a,j,rfl,e2,e3⟩:=h.so;refine⟨h1,gH.mx _ _ _,by omega,a++eM c f (r.take (k.n-f)),j+1,?_,?_,?_⟩
 .rw [ah4,DG,fj,h2,ei]
 .rw [aV,e2,h1,zj,qI]
 .rw [e3];exact aET (by omega) e2 h1
end
def YA{k:u7}(hk:k.aI){gh gb:Nat}{P:aO}{cx:Nat}{ss:lU}{o0:dr}{b:ae}(ho:gH k.s.w o0)(hb:b.length=k.n)(hn:ss.length<=9223372036854775807) :
  Spec 144 [cj gb k.n k.n,.slice P ss.length cx,k.take gh gb] (k.R gh gb o0 b) (λw=>s8 w/\Bt P cx ss w) (k.post gh gb (gK k.s k.n o0 ((ss.map cC.l).flatten++kh k.n ((ss.map cC.l).flatten.length%k.n) (8*(ss.map cC.l).flatten.length)))):=by
 have h64:=hk.n64;have h128:=hk.n128;refine bA [.c (.v (cj gb k.n k.n)),.c (.v (.slice P ss.length cx)),.c (.v (k.take gh gb))] 48 func144 rfl λB=>ag rfl (ao λK1 aS=>ag rfl (a8 ?_))
 let m:Nat->ae:=λi=>((ss.take i).map cC.l).flatten
 let sz:Nat->Value:=λi=>.int .u64 (((m i).length%18446744073709551616:Nat):Int)
 let V:Nat×Nat×dr×ae->Env:=λs=>⟨[(13,.aT s.1),(12,.aT ss.length),(11,.v (.slice P ss.length cx)),(6,.aT s.2.1),(7,.v (sz s.1)),(0,.v (cj gb k.n k.n)),(2,.v (k.take gh gb))],[],k.R gh gb s.2.2.1 s.2.2.2,λw=>s8 w/\Bt P cx ss w,λ_=>True⟩
 refine cI (e':=V (0,0,o0,b)) (hv rfl rfl rfl) (cY (λs=>ss.length-s.1) V (λs=>s.1<=ss.length/\zU k o0 (m s.1) s.2.2.1 s.2.2.2 s.2.1) ?_ (0,0,o0,b) ⟨bl _,hb,ho,by show 0<k.n;omega,[],0,rfl,(Nat.zero_mul _).symm,(C6 (by show 0<k.n;omega)).symm⟩)
 rintro⟨i,f,o,c⟩ ⟨hi,hI⟩
 dsimp only at hi hI
 refine ag rfl (ao λK2 aM=>?_);refine bn ((i:Int)<(ss.length:Int)) rfl (λal=>?_) (λcW=>?_)
 .have al:i<ss.length:=by omega
  obtain⟨s,hs⟩:∃s,ss[i]?=some s:=⟨_,da al⟩;have Tv:m i++s.l=m (i+1):=Wj hs;refine aR (aM _ (ao λK3 bu=>a8 (ck λK hK=>jh (fe:=kg) (x:=s) an rfl rfl rfl i rfl hs rfl rfl (λ_ _ _ ab=>ab.fact.2.1 (by omega)) (cR hK rfl (ck λK hK=>aj rfl (ca 7 (((m (i+1)).length%18446744073709551616:Nat):Int) rfl (by show IntKind.u64.wrap ((((m i).length%18446744073709551616:Nat):Int)+IntKind.u64.wrap (s.l.length:Int))=_;rw [aiU,oq.sum,<-aV,Tv]) (ah (hK _ (a8 ?_)))))))));let W:aO×Nat×ae×Nat×dr×ae->Env:=λs=>⟨[(9,.v (.slice s.1 s.2.2.1.length s.2.1)),(13,.aT i),(12,.aT ss.length),(11,.v (.slice P ss.length cx)),(6,.aT s.2.2.2.1),(7,.v (sz (i+1))),(0,.v (cj gb k.n k.n)),(2,.v (k.take gh gb))],[],k.R gh gb s.2.2.2.2.1 s.2.2.2.2.2,λw=>(s8 w/\Bt P cx ss w)/\ar 1 aY s.1 s.2.1 s.2.2.1 w,λ_=>True⟩;refine cI (e':=W (s.A,s.c,s.l,f,o,c)) ⟨dB rfl, trivial, .refl _,λ_ h _=>⟨h,h.2.2 s (eg hs)⟩,λ_ h=>h⟩ (cY (λs=>s.2.2.1.length) W (λs=>∃d,d++s.2.2.1=m (i+1)/\zU k o0 d s.2.2.2.2.1 s.2.2.2.2.2 s.2.2.2.1) ?_ (s.A,s.c,s.l,f,o,c) ⟨_,Tv,hI⟩);clear hI Tv;rintro⟨A,c2,r,f,o,c⟩ ⟨d,hd,hI⟩;dsimp only at hd hI;have hf:=hI.lt;refine ao λK4 bW=>ag rfl ?_;refine bn ((r.length:Int)>0) rfl (λEM=>?_) (λhle=>?_)
  .have h0:0<r.length:=by omega
   have ux:pT (some ⟨gb,0,none⟩) k.n f=some ⟨gb,f,none⟩\/False:=by unfold pT;rw [if_neg (by omega)];exact .inl (by rw [kF,lf,dI])
   refine aR (bW _ (a8 (ck λK hK=>aj rfl (b6 (.v (.slice (pT (some ⟨gb,0,none⟩) k.n f) (k.n-f) (k.n-f))) rfl (Mf (by omega) (aQ _) (λh=>by cases h) rfl rfl rfl) (me 27 (.v (.slice (some ⟨gb,f,none⟩) (k.n-f) (k.n-f))) rfl (by rw [ux.resolve_right id]) (aj rfl (asY (off:=f) 1 rfl hI.len rfl rfl rfl rfl (by omega) h0 (dX λw h _=>h.2) (cR hK rfl ?_))))))));refine lQ (r.length<=c2/\(A=none->c2=0)) (λw h _=>⟨h.2.1,h.2.2.2.1⟩) λ⟨n6,hA⟩=>?_;have hq:min r.length (k.n-f)<=r.length:=Nat.min_le_left _ _;have vB:0<min r.length (k.n-f):=by omega
   have Au:min r.length (k.n-f)<=k.n-f:=Nat.min_le_right _ _;have rI:=λh=>hI.part (r:=r) h;have yV:=λh=>hI.full (r:=r) hk h;generalize aIE:min r.length (k.n-f)=q at *;generalize eM c f (r.take (k.n-f))=c' at *;have hd':(d++r.take q)++r.drop q=m (i+1):=by rw [ei,oN,hd]
   have G8:(r.drop q).length=r.length-q:=k7;refine ck λK hK=>aj rfl (b6 (.v (.slice (pT A c2 q) (r.length-q) (c2-q))) rfl (Mf hq n6 hA rfl rfl rfl) (aj rfl (ah (hK _ (ck λK hK=>aj rfl (ca 6 ((f+q:Nat):Int) rfl (gv f q (by omega)) (ah (hK _ (ag rfl ?_)))))))));refine bn (((f+q:Nat):Int)=(k.n:Int)) rfl (λhe=>?_) (λb8=>?_)
   .have h2:=yV (by omega);refine ck λK hK=>aj rfl (Us (own:=k.R gh gb o c') (R':=[]) [pQ gh,pQ gb] rfl hk.own rfl rfl rfl (λ_ _=>rfl) (hk.qn hI.ob h2.len) (λw h _=>h.1.1) λ_=>dz (k.R gh gb (mx k.s o c') c') rfl (cR hK rfl (cE rfl ?_)));exact cH (pT A c2 q,c2-q,r.drop q,0,mx k.s o c',c') ⟨_,hd',h2⟩ (by show(r.drop q).length<r.length;omega) ⟨⟨congrArg (λx:Nat=>some (aq.v (.slice (pT A c2 q) x (c2-q)))) G8.symm,rfl,rfl,rfl,rfl,rfl,rfl,rfl,trivial⟩,trivial,.refl _,λ_ h _=>⟨h.2.1,h.2.2.part hq⟩,λ_ h=>trivial⟩
   .refine aR ?_;exact cH (pT A c2 q,c2-q,r.drop q,f+q,o,c') ⟨_,hd',rI (by omega)⟩ (by show(r.drop q).length<r.length;omega) ⟨⟨congrArg (λx:Nat=>some (aq.v (.slice (pT A c2 q) x (c2-q)))) G8.symm,rfl,rfl,rfl,rfl,rfl,rfl,rfl,trivial⟩,trivial,.refl _,λ_ h _=>⟨h.1,h.2.part hq⟩,λ_ h=>h⟩
  .obtain rfl:r=[]:=List.eq_nil_of_length_eq_zero (by omega);rw [fj] at hd;subst hd;refine cG (a6 (a6 (cF (bu _ (cE rfl ?_)))));exact cH (i+1,f,o,c) ⟨al,hI⟩ (by show ss.length-(i+1)<ss.length-i;omega) ⟨⟨congrArg (λx=>some (aq.v (.int .i64 x))) (gv i 1 (by omega)),rfl,rfl,rfl,rfl,rfl,rfl,trivial⟩,trivial,.refl _,λ_ h _=>h.1,λ_ h=>h⟩
 .obtain rfl:i=ss.length:=by omega
  obtain⟨a,j,e1,e2,e3⟩:=hI.so;have hM:m ss.length=(ss.map cC.l).flatten:=by show((ss.take ss.length).map cC.l).flatten=_;rw [kW]
  have hf:(ss.map cC.l).flatten.length%k.n=f:=by rw [<-hM,e1,aV,du,hI.len,e2,pq (Mv hI.lt),zh,Nat.add_mul_mod_self_right,gm hI.lt]
  have n7:gK k.s k.n o (c.take f++kh k.n f (8*((m ss.length).length%18446744073709551616)))=gK k.s k.n o0 ((ss.map cC.l).flatten++kh k.n ((ss.map cC.l).flatten.length%k.n) (8*(ss.map cC.l).flatten.length)):=by rw [aDM,hf,e3,aGI (by omega) e2,<-e1,hM]
  refine cG (a6 (a6 (cF (aS _ (ef (aj rfl (er (own:=k.R gh gb o c) (R':=[]) [cj gb k.n k.n,.int .i64 (f:Int),sz ss.length,k.take gh gb] rfl (anN hk hI.ob hI.len hI.lt) (λw h _=>h.1) λb'=>dz (k.R gh gb (gK k.s k.n o0 ((ss.map cC.l).flatten++kh k.n ((ss.map cC.l).flatten.length%k.n) (8*(ss.map cC.l).flatten.length))) b'.1) (by rw [<-n7];rfl) (kz rfl ?_))))))));exact bE b' rfl aD λ_ _=>trivial
end Go.Proofs.Q
namespace Nums
def mg(D:ae)(p:Nat->Bool):ae:=(dV D.length).map λm=>if p m then D[m]! else 0
def aiB(D:ae)(p:Nat->Bool):(mg D p).length=D.length:=by simp [mg]
def PI{D:ae}{p q:Nat->Bool}(h:∀m,m<D.length->p m=q m):mg D p=mg D q:=by
 apply qv (by simp [mg]);intro i h1 h2;have hi:i<D.length:=by simpa [mg] using h1
 simp [mg,h i hi]
def aiA{D:ae}{p q:Nat->Bool}{k:Nat}(h:∀m,m<D.length->q m=(p m||decide (m=k))):(mg D p).set k D[k]! = mg D q:=by
 apply qv (by simp [mg]);intro i h1 h2;have hi:i<D.length:=by simpa [mg] using h2
 rw [Fq];by_cases e:k=i
 .subst e;simp [mg,h k hi]
 .rw [if_neg e];have e2:decide (i=k)=false:=decide_eq_false (λh=>e h.symm);simp [mg,h i hi,e2]
def aiC{D:ae}{p:Nat->Bool}(h:∀m,m<D.length->p m=true):mg D p=D:=by apply qv (by simp [mg]);intro i h1 h2;simp [mg,h i h2,h2]
def ahO{D:ae}{p:Nat->Bool}(h:∀m,m<D.length->p m=false):mg D p=aB D.length 0:=by
 apply qv (by simp [mg]);intro i h1 h2;have hi:i<D.length:=by simpa [mg] using h1
 simp [mg,h i hi]
theorem flat_get{n:Nat}(f:Nat->ae)(hf:∀x,(f x).length=n):∀(l:aC) {i j:Nat},i<l.length->j<n->((l.map f).flatten)[n*i+j]! = (f l[i]!)[j]!
 | [],i,_,h,_=>absurd h (by simp)
 | x::l,0,j,_,hj=>by
  rw [eZ,wE,AB,dI];have h1:j<(f x).length:=by rw [hf];exact hj
  rw [getElem!_pos (f x++(l.map f).flatten) j (by rw [aV];omega),PH h1];exact(getElem!_pos (f x) j h1).symm
 | x::l,i+1,j,h,hj=>by
  have ih:=flat_get f hf l (i:=i) (j:=j) (by simpa using h) hj;have e:((x::l).map f).flatten=f x++(l.map f).flatten:=by rw [eZ,wE]
  have e2:(x::l)[i+1]! = l[i]!:=rfl;rw [e2,<-ih,e];have hx:=hf x;have hi:n*(i+1)+j=(f x).length+(n*i+j):=by rw [hx,Cw];omega
  rw [hi];by_cases hb:n*i+j<(l.map f).flatten.length
  .rw [getElem!_pos (l.map f).flatten _ hb,getElem!_pos (f x++(l.map f).flatten) _ (by rw [aV];omega),List.getElem_append_right (by omega)];congr 1;omega
  .rw [getElem!_neg (l.map f).flatten _ hb,getElem!_neg (f x++(l.map f).flatten) _ (by rw [aV];omega)]
theorem Lo{n:Nat}(f:Nat->ae)(hf:∀x,(f x).length=n):∀(l:aC),((l.map f).flatten).length=n*l.length
 | []=>rfl
 | x::l=>by rw [eZ,wE,aV,hf,Lo f hf l,fL,Cw];omega
def Ii(s:gX)(x:Nat):(mb s x).length=s.w/8:=by unfold mb;rw [BI,ld]
end Nums
namespace Go.Proofs.Q
open Go.RowKit Go.IntWalk Nums
def ab6{s:gX}{x j:Nat}(h:j<s.w/8):((mb s x)[s.w/8-1-j]!).toNat=x/256^j%256:=by
 have hl:(Nums.bytes (s.w/8) x).length=s.w/8:=ld _ _;have e:(mb s x)[s.w/8-1-j]! = (Nums.bytes (s.w/8) x)[j]!:=by unfold mb;rw [getElem!_pos _ _ (by rw [BI,hl];omega),Qm,getElem!_pos _ j (by rw [hl];exact h)];congr 1;rw [hl];omega
 rw [e,El _ _ h]
def V4(cs:ct)(h:cs.size=64):(prog.info? 66).map (·.size)=some cs.size:=by rw [h];kernel_rfl
def MM:ae:=aB 64 0
def ajC:(prog.info? 66).bind (λi=>i.zero.map (·.cells))=some (By MM).toArray:=by kernel_rfl
structure Gu(w wr:yp)(cs:ct)(m:ae):Prop where
  b0:bB wr w.heap.size 267 cs
  b1:bB wr (w.heap.size+1) 66 (By MM).toArray
  b2:bB wr (w.heap.size+1+1) 66 (By m).toArray
  be:Below w.heap.size w wr
def Gu.set{w wr:yp}{cs:ct}{m:ae}(h:Gu w wr cs m)(k:Nat)(x:UInt8):Gu w (wr.setCell ⟨w.heap.size+1+1,k,none⟩ (.int .u8 (x.toNat:Int))) cs (m.set k x) where
 b0:=h.b0.nh (by show w.heap.size≠w.heap.size+1+1;omega) _
 b1:=h.b1.nh (by show w.heap.size+1≠w.heap.size+1+1;omega) _
 b2:=by have h4:=h.b2.set k (.int .u8 (x.toNat:Int));rw [Rt] at h4;exact h4
 be:=h.be.setCell (by show w.heap.size<=w.heap.size+1+1;omega) _
def atM{l:aC}(hl:l.length=8)(hw:∀x∈l,x<18446744073709551616)(w:yp) :
  Calls prog 164 #[.agg (av l).toArray] w λe w'=>e = .returned (.agg (By (l.map (mb eQ)).flatten).toArray)/\Below w.heap.size w w':=by
 have hD:=Lo (mb eQ) (n:=8) (λx=>Ii eQ x) l;rw [hl] at hD
 have hg:∀i j,i<8->j<8->(((l.map (mb eQ)).flatten)[8*i+7-j]!).toNat=l[i]! / 256^j%256:=λi j hi hj=>by have h1:=flat_get (mb eQ) (n:=8) (λx=>Ii eQ x) l (i:=i) (j:=7-j) (by omega) (by omega);rw [show 8*i+7-j=8*i+(7-j) by omega,h1];exact ab6 (s:=eQ) (j:=j) hj
 have tA:(av l).toArray.size=8:=by rw [fx,nM,hl]
 have Hg:∀i,i<8->∀w1,(tO 267 (.agg (av l).toArray) (.int .i64 ((i:Nat):Int))).run prog w1 = .ok (.int .u64 (l[i]! : Nat)) w1:=λi hi w1=>by
  have h0:(av l).toArray[i]?=some (.int .u64 (l[i]! : Nat)):=xo (by omega);have h1:((i:Nat):Int)<8:=by omega
  have h2:(0:Int)<=(i:Nat):=by omega
  generalize l[i]! = c at *;generalize (av l).toArray=cs at *;unfold tO Go.part;go_simp;obtain⟨_,h⟩:=Array.getElem?_eq_some_iff.1 h0;exact h
 have wR:∀i,i<8->l[i]! < 18446744073709551616:=λi hi=>by rw [getElem!_pos l i (by omega)];exact hw _ (AD _)
 generalize (l.map (mb eQ)).flatten=D at *;generalize (av l).toArray=cs at *
 go_enter func164,ntmps164
 refine wp_seq_k λK hK=>wp_region_lit (aiT cs rfl rfl rfl (I4 (zs:=(By MM).toArray) rfl rfl ajC (D9 ?_)))
 go_simp
 refine hK _ _ ?_;clear hK K;refine wp_seq_k λK hK=>wp_region_lit (I4 (zs:=(By MM).toArray) rfl rfl ajC (D9 ?_))
 go_simp
 refine hK _ _ ?_;clear hK K;refine WU (λW=>Gu w W cs MM) ⟨Nf w _ _ _ _,Ek w _ _ _ _,Ju w _ _ _ _,(((Below.refl _ _).alloc (aQ _) _).alloc (by simp) _).alloc (by simp;omega) _⟩ ?_
 intro W hW
 have k0:=hW.b0;have HW:=iB hW;clear hW
 go_wp2_with (refine wpList_load_row rfl 267 _ rfl w.heap.size rfl 267 cs (0,0) _ k0 Qe rfl (agK _ tA) ?_)
 clear k0
 go_loopw [8] (λi wr=>∃t:Nat,t<=8/\i = .int .i64 t/\Gu w wr cs (mg D λm=>decide (m<8*t))) (λi _=>8-(intOf i).toNat)
 case atStart =>
  refine⟨0,by omega,rfl,?_⟩;rw [ahO (λm _=>decide_eq_false (by omega)),hD];exact HW.out
 case round =>
  clear HW;obtain⟨t,ht,rfl,bm⟩:=hrel
  by_cases qg:t<8
  .have hi:=Hg t qg
   have hx:=wR t qg;have BR:=λj hj=>hg t j qg hj;generalize l[t]! = x at *;have g4:(0:Int)<=(t:Int):=by omega
   have xj:=iB bm;clear bm hg Hg wR;go_wp2;go_loopw [12,5] (λj v wq=>∃n:Nat,n<=8/\j = .int .i64 n/\v = .int .u64 ((x/256^n:Nat):Int)/\Gu w wq cs (mg D λm=>decide (m<8*t\/8*t+8-n<=m/\m<8*t+8))) (λj _ _=>8-(intOf j).toNat)
   case atStart =>
    refine⟨0,by omega,rfl,by rw [xW,IJ],?_⟩;rw [PI (q:=λm=>decide (m<8*t)) (λm _=>decide_eq_decide.2 (by omega))];exact xj.out
   case round =>
    clear xj;obtain⟨n,hn,rfl,rfl,bm⟩:=hrel
    by_cases Ar:n<8
    .have hN:=bm.set (8*t+7-n) D[8*t+7-n]!
     rw [aiA (q:=λm=>decide (m<8*t\/8*t+8-(n+1)<=m/\m<8*t+8)) (λm _=>by rw [<-Bool.decide_or];exact decide_eq_decide.2 (by omega))] at hN;have hb:=BR n Ar;have hdiv:x/256^(n+1)=x/256^n/256:=by rw [k8,C9]
     have hle:x/256^n<18446744073709551616:=nc (qA _ _) hx;have c2:=(bm.b2.cell (8*t+7-n)).trans (ub (by rw [aiB,hD];omega));have f2:=bm.b2.free (8*t+7-n);generalize x/256^n=y at *;have q4:IntKind.u8.wrap (y:Int)=((D[8*t+7-n]!).toNat:Int):=by rw [HV,hb];omega
     have g5:(0:Int)<=(n:Int):=by omega
     have q5:(y:Int)/256=((y/256:Nat):Int):=by omega
     have HN:=iB (fP hN hdiv);clear bm hN hdiv hb BR hi;generalize (D[8*t+7-n]!).toNat=v at *;generalize ((mg D λm=>decide (m<8*t\/8*t+8-n<=m/\m<8*t+8))[8*t+7-n]!).toNat=eS at *;generalize y/256=y2 at *;go_wp2;go_roundw
     case rel =>
      obtain⟨hN,hdiv⟩:=HN.out;refine⟨n+1,by omega,by go_num,by rw [hdiv],hN⟩
     case measure=>simp [intOf];omega
    .obtain rfl:n=8:=by omega
     rw [PI (q:=λm=>decide (m<8*(t+1))) (λm _=>decide_eq_decide.2 (by omega))] at bm;have xj:=iB bm;clear bm;go_wp2;go_roundw
     case rel=>exact⟨t+1,by omega,by go_num,xj.out⟩
     case measure=>simp [intOf];omega
  .obtain rfl:t=8:=by omega
   rw [aiC (λm hm=>decide_eq_true (by omega))] at bm;obtain⟨b0,b1,b2,be⟩:=bm;have hz:(By D).toArray.size=64:=by rw [fx,dH,hD]
   clear b0;go_wp2_with (first
    | (refine wpList_load_row rfl 66 _ rfl (w.heap.size+1+1) rfl 66 (By D).toArray (0,0) _ b2 AZ rfl (V4 _ hz) ?_)
    | (refine wpList_store_row rfl 66 _ _ rfl (w.heap.size+1) rfl (By D).toArray rfl 66 _ b1 (V4 _ hz) (by rw [hz];rfl) (qp _) ?_))
   refine bodyPost_ret (results_cell_row rfl _ _ (w.heap.size+1) 66 (By D).toArray (0,0) _ rfl (b1.row _) AZ rfl (V4 _ hz)) rfl ⟨rfl,?_⟩;exact below_setRow be (by omega) _
def Is:Own 63:=λ_ _=>by go_simp
def HP{A:aO}{c:Nat}(ss:lU)(ht:(ss.map cC.l).flatten.length<=281474976710656):Spec 63 [.slice A ss.length c] [] (λw=>ar 1 kg A c ss w/\∀s∈ss,s.rd w)
  { ret:=λg:Nat=>.v (cj g (ss.map cC.l).flatten.length (ss.map cC.l).flatten.length),n:=λg=>ar 1 aY (some ⟨g,0,none⟩) (ss.map cC.l).flatten.length (ss.map cC.l).flatten }:=λw S X bm _ hF=>by
 obtain⟨h1,h2⟩:=hF.now;have hj:=aaN A (ss.map cC.l) c w.heap.size w (axM h1 h2) (aQ _) (by rw [dL];exact h1.1) h1.2.1 ht;rw [dL] at hj;refine hj.mono ?_
 rintro e w' ⟨he,ho,hb⟩
 refine⟨w.heap.size,S,he,trivial,dO.wW hb,bm.fO λk hk=>hb.block k (bm.lt k hk),λ_ h _=>h,λ_ _=>trivial,?_⟩;have h3:(bL w.heap.size 5 1 aY (some ⟨w.heap.size,0,none⟩) (ss.map cC.l).flatten.length (ss.map cC.l).flatten).holds w' λj=>(some (⟨w.heap.size,0,none⟩:Addr)).map (·.block)=some j:=⟨mK _,by rw [JS];exact ho,λ_=>Iff.rfl⟩;have h4:=bL.rd h3
 intro w2 ln
 refine h4.fO ln.size λb' e al=>ln.block b' al ?_;simp only [kF,iv] at e;subst e
 rintro(h5|h5)
 .exact ze _ h5
 .exact ze _ (bm.lt _ h5)
def rpW(A:aO)(c:Nat)(s:cf):cJ:=[.one (.v (.slice A s.1.length c)),.one (.v (.int .i64 (s.2:Int)))]
abbrev eF(g:Nat)(A:aO)(c:Nat)(s:cf):fS:=rq g 208 (rpW A c s)
abbrev ak7:=aO×Nat×aO×Nat
abbrev wg:=aO×Nat
def PV:Own 109:=λ_ _=>by go_simp
def QT(g:Nat){A:aO}{c:Nat}(s:cf)(k:Nat):Spec 109 [ptr g,.int .i64 (k:Int)] [eF g A c s] (ar 1 aY A c s.1)
  { ret:=λx:ak7=>.v (.slice x.1 (lS k s).length x.2.1),own:=λx=>[eF g x.2.2.1 x.2.2.2 (rl k s)],p:=λx w=>ar 1 aY x.1 x.2.1 (lS k s) w/\ar 1 aY x.2.2.1 x.2.2.2 (rl k s).1 w }:=by
 refine bA [.c (.v (ptr g)),.c (.v (.int .i64 (k:Int)))] 41 func109 rfl λb=>?_;refine lQ (s.1.length<=c/\(A=none->c=0)/\c<=9223372036854775807) (λw h _=>⟨h.1,h.2.2.1,h.2.1⟩) λ⟨N9,hA,hcm⟩=>?_;refine ag rfl (ao λK hK=>aA rfl λK1 aS=>gE rfl (sT 0 rfl) (aj rfl (ah (aS _ ?_))));refine bn ((s.2:Int)≠0) rfl (λh0=>?_) (λh0=>?_)
 .have h0:s.2≠0:=by omega
  obtain⟨e1,e2⟩:=Bk (k:=k) h0;refine ag rfl ?_;exact aJ (dk an (none,0,A,c) rfl rfl (by rw [e1];rfl) (by rw [e2]) (λw hF _=>by rw [e1,e2];exact⟨ar.nil _ _ _,hF⟩) au)
 have h0:s.2=0:=by omega
 refine aR (hK _ (ao λK2 aM=>aA rfl λK3 bu=>gE rfl (sT 0 rfl) (aj rfl (ah (bu _ ?_)))));refine bn ((k:Int)>(s.1.length:Int)) rfl (λh1=>?_) (λh1=>?_)
 .obtain⟨e1,e2⟩:=Wm (k:=k) h0 (by omega);refine aA rfl λK4 bW=>FD an 0 rfl rfl rfl rfl rfl rfl rfl (ah (bW _ (ag rfl ?_)));exact aJ (dk an (none,0,A,c) rfl rfl (by rw [e1];rfl) (by rw [e2];rfl) (λw hF _=>by rw [e1,e2];exact⟨ar.nil _ _ _,hF⟩) au)
 have fI:k<=s.1.length:=by omega
 obtain⟨e1,e2⟩:=QY (k:=k) h0 fI;refine aR (aM _ (aA rfl λK5 bN=>gE rfl (sT 0 rfl) (aj rfl (b6 (.v (.slice A k c)) rfl (Me (sz:=1) rfl (by omega) hA rfl mP rfl rfl) (aj rfl (ah (bN _ (aA rfl λK6 cr=>gE rfl (sT 0 rfl) (aj rfl (b6 (.v (.slice (pT A c k) (s.1.length-k) (c-k))) rfl (Mf fI N9 hA rfl rfl rfl) (aj rfl (FD an 0 rfl rfl rfl rfl rfl rfl rfl (ah (cr _ (ag rfl ?_)))))))))))))));exact aJ (dk an (A,c,pT A c k,c-k) rfl rfl (by rw [e1,du,pq fI];rfl) (by rw [e2];dsimp only [eF,rpW];rw [k7,h0];rfl) (λw hF _=>by rw [e1,e2];exact⟨hF.take k,hF.part fI⟩) au)
def aAF{N:Nat}{E:aG}{o:yk}{x:yo}{t':yn}{m:Int}(ho:o.op = .binOp .shl 89 x (.const (.int .u64 8)) t')(hx:aP E x=some (.v (.int .u64 m))) :
  ∀(G:aK) (a:Act) (w:yp),Fr N (bG G E) a->(execOp a.eval o).run prog w = .ok (.value ((aq.v (.int .u64 (IntKind.u64.wrap (m*256)))).den G)) w:=λG a w ha=>by
 have h1:a.eval x = .int .u64 m:=ha.eval (bH hx)
 unfold execOp
 simp only [ho,h1]
 show _=pE (oO (.int .u64 (IntKind.u64.wrap (m*256)))) w
 go_simp
def aAD{N:Nat}{E:aG}{o:yk}{x y:yo}{t':yn}{m n:Int}(ho:o.op = .binOp .or 89 x y t')(hx:aP E x=some (.v (.int .u64 m)))(hy:aP E y=some (.v (.int .u64 n))) :
  ∀(G:aK) (a:Act) (w:yp),Fr N (bG G E) a->(execOp a.eval o).run prog w = .ok (.value ((aq.v (.int .u64 (bits .or .u64 m n))).den G)) w:=λG a w ha=>by
 have h1:a.eval x = .int .u64 m:=ha.eval (bH hx);have h2:a.eval y = .int .u64 n:=ha.eval (bH hy)
 unfold execOp
 simp only [ho,h1,h2]
 go_simp
 rfl
def alM(a:Nat)(x:UInt8):bits BinOp.or IntKind.u64 (IntKind.u64.wrap ((a:Int)*256)) (IntKind.u64.wrap (x.toNat:Int))=(step a x:Int):=by
 have hx:x.toNat<256:=x.toNat_lt;have e1:IntKind.u64.wrap ((a:Int)*256)=((a*256%18446744073709551616:Nat):Int):=by simp [rB,oB,mO]
 have e2:IntKind.u64.wrap (x.toNat:Int)=((x.toNat:Nat):Int):=by simp [rB,oB,mO];omega
 rw [e1,e2,u64_or_nat _ _ (ke _ (by omega)) (by omega),nat_join 8 _ _ (by omega) (by omega)];unfold step;omega
def aEH{l:ae}{i:Nat}{x:UInt8}(h:l[i]?=some x):val (l.take (i+1))=step (val (l.take i)) x:=by rw [qw,h];exact ai2 _ _
def aFP{A:aO}{c:Nat}(l:ae):Spec 193 [.slice A l.length c] [] (ar 1 aY A c l) (one (.v (.int .u64 (val l:Int)))):=by
 refine bA [.c (.v (.slice A l.length c))] 19 func193 rfl λb=>?_;refine lQ (l.length<=9223372036854775807) (λw h _=>fo h.1 h.2.1) λhl=>?_;refine ag rfl (ag rfl (ao λK hK=>ag rfl (a8 ?_)));let F:Nat->Env:=λi=>⟨[(8,.aT i),(7,.aT l.length),(6,.v (.slice A l.length c)),(3,.v (.int .u64 (val (l.take i):Int)))],[],[],ar 1 aY A c l,λ_=>True⟩;refine cI (e':=F 0) (hv rfl rfl rfl) (cY (λi=>l.length-i) F (λi=>i<=l.length) ?_ 0 (bl _));intro i hi;refine ag rfl (ao λK1 aS=>?_);refine bn ((i:Int)<(l.length:Int)) rfl (λal=>?_) (λcW=>?_)
 .have al:i<l.length:=by omega
  obtain⟨x,hx⟩:∃x,l[i]?=some x:=⟨_,da al⟩;have ab:=aEH hx;refine aR (aS _ (ao λK2 aM=>a8 (aA rfl λK3 bu=>jh an rfl rfl rfl i rfl hx rfl rfl (dX λw h _=>h) (aj rfl (ah (bu _ (ef (aj rfl (b6 (.v (.int .u64 (IntKind.u64.wrap ((val (l.take i):Int)*256)))) rfl (aAF rfl rfl) (aj rfl (b6 (.v (.int .u64 (val (l.take (i+1)):Int))) rfl (by rw [ab,<-alM];exact aAD rfl rfl rfl) (aj rfl (ah (aM _ (cE rfl ?_)))))))))))))));exact cH (i+1) al (by omega) ⟨⟨pC (by omega) (by omega),rfl,rfl,rfl,trivial⟩,trivial,.refl _,λ_ h _=>h,λ_ h=>h⟩
 .obtain rfl:l.length=i:=by omega
  refine cG (a6 (a6 (cF (hK _ ?_))));rw [kW];refine ag rfl ?_;exact aJ (bE () rfl aD au)
def aeX(g:Nat){A:aO}{c:Nat}(s:cf):Spec 148 [ptr g] [eF g A c s] (ar 1 aY A c s.1)
  { ret:=λ_:wg=>.v (.int .u64 (q8 s:Int)),own:=λx=>[eF g x.1 x.2 (ko s)],p:=λx=>ar 1 aY x.1 x.2 (ko s).1 }:=by
 refine bA [.c (.v (ptr g))] 6 func148 rfl λb=>ag rfl (aA rfl λK1 aS=>er [ptr g,.int .i64 ((8:Nat):Int)] (hf:=PV) rfl (QT g s 8) (λw h _=>h) λ⟨A1,c1,A2,c2⟩=>dz [eF g A2 c2 (ko s)] rfl (bY [.slice A1 (lS 8 s).length c1] rfl (aFP (lS 8 s)) (λw h _=>h.1.1) λ_=>aj rfl (ah (aS _ ?_))));exact aJ (bE (A2,c2) rfl (λw h _=>h.2.1.2) au)
def aeW(g:Nat){A:aO}{c:Nat}(s:cf)(m:Nat)(hm:m<=9223372036854775807):Spec 110 [ptr g,.int .u64 (m:Int)] [eF g A c s] (ar 1 aY A c s.1)
  { ret:=λ_:wg=>.v (.int .i64 (kO m s:Int)),own:=λx=>[eF g x.1 x.2 (kA m s)],p:=λx=>ar 1 aY x.1 x.2 (kA m s).1 }:=by
 refine bA [.c (.v (ptr g)),.c (.v (.int .u64 (m:Int)))] 16 func110 rfl λb=>ag rfl (aA rfl λK1 aS=>er [ptr g] rfl (aeX g s) (λw h _=>h) λ⟨A2,c2⟩=>dz [eF g A2 c2 (ko s)] rfl (aj rfl (ah (aS _ (ao λK2 aM=>ag rfl ?_)))));refine bn ((q8 s:Int)>(m:Int)) rfl (λh1=>?_) (λh1=>?_)
 .have e1:kO m s=0:=if_pos (by omega);have e2:kA m s=((ko s).1,12):=if_pos (by omega);refine aA rfl λK4 bW=>FD an 0 rfl rfl rfl rfl rfl rfl rfl (ah (bW _ (ag rfl ?_)));exact aJ (dk an (A2,c2) rfl rfl (by rw [e1];rfl) (by rw [e2];rfl) (λw h _=>by rw [e2];exact h.1) au)
 .have e1:kO m s=q8 s:=if_neg (by omega);have e2:kA m s=ko s:=if_neg (by omega);refine aR (aM _ (aA rfl λK4 bW=>ca 4 (q8 s:Int) rfl (jv rfl (by omega) (by omega)) (ah (bW _ ?_))));exact aJ (dk an (A2,c2) rfl rfl (by rw [e1];rfl) (by rw [e2]) (λw h _=>by rw [e2];exact h.1) au)
def VA(g:Nat){A:aO}{c:Nat}(s:cf):Spec 75 [ptr g] [eF g A c s] (ar 1 aY A c s.1)
  { ret:=λ_:wg=>.v (.int .i64 (kO 65536 s:Int)),own:=λx=>[eF g x.1 x.2 (kA 65536 s)],p:=λx=>ar 1 aY x.1 x.2 (kA 65536 s).1 }:=by
 refine bA [.c (.v (ptr g))] 5 func75 rfl λb=>ag rfl (aA rfl λK1 aS=>er [ptr g,.int .u64 ((65536:Nat):Int)] rfl (aeW g s 65536 (by decide)) (λw h _=>h) λ⟨A2,c2⟩=>aj rfl (ah (aS _ ?_)));exact aJ (bE (A2,c2) rfl (λw h _=>h.1) au)
def aeJ(g:Nat){A:aO}{c:Nat}(s:cf):Spec 74 [ptr g] [eF g A c s] (ar 1 aY A c s.1)
  { ret:=λx:Nat×wg=>.v (cj x.1 (nR s).length (nR s).length),own:=λx=>[eF g x.2.1 x.2.2 (pR s)],p:=λx=>ar 1 aY x.2.1 x.2.2 (pR s).1,n:=λx=>ar 1 aY (some ⟨x.1,0,none⟩) (nR s).length (nR s) }:=by
 refine bA [.c (.v (ptr g))] 9 func74 rfl λb=>?_;have xK:(nR s).length<=1048576:=fo (Gd _ _).1 (Im _ _);refine ag rfl (aA rfl λK1 aS=>er [ptr g,.int .u64 ((1048576:Nat):Int)] rfl (aeW g s 1048576 (by decide)) (λw h _=>h) λ⟨A1,c1⟩=>dz [eF g A1 c1 (kA 1048576 s)] rfl (er [ptr g,.int .i64 (kO 1048576 s:Int)] (hf:=PV) rfl (QT g (kA 1048576 s) (kO 1048576 s)) (λw h _=>h.1) λ⟨A2,c2,A3,c3⟩=>dz [eF g A3 c3 (pR s)] rfl (jC an b.B.heap.size [⟨A2,c2,nR s⟩] (fe:=kg) rfl rfl rfl (λ_=>rfl) rfl (Cz _) (aQ _) λP=>iU 0 rfl ?_)));have hj:=HP (A:=P) (c:=1) [⟨A2,c2,nR s⟩] (by simp;omega)
 have e0:(List.map cC.l [⟨A2,c2,nR s⟩]).flatten=nR s:=by simp
 rw [e0] at hj;refine bY [.slice P 1 1] (hf:=Is) rfl hj (λw h _=>⟨h.1,λs hs=>by rw [bU.1 hs];exact h.2.1.1⟩) λgb=>aj rfl (ah (aS _ ?_));exact aJ (bE (gb,A3,c3) rfl (λw h _=>h.2.2.1.2) (λw h=>h.1))
def azJ(g:Nat){A:aO}{c:Nat}(s:cf):Spec 153 [ptr g] [eF g A c s] (ar 1 aY A c s.1)
  { ret:=λ_:wg=>.q (aw 64 (yh s)),own:=λx=>[eF g x.1 x.2 (zG s)],p:=λx=>ar 1 aY x.1 x.2 (zG s).1 }:=by
 refine bA [.c (.v (ptr g))] 9 func153 rfl λb=>?_;have hl:=(Gd 64 s).1
 have ep:lS 64 s++(aB 64 (0:UInt8)).drop (lS 64 s).length=yh s:=by unfold yh ID;rw [List.drop_replicate]
 refine ag rfl (ag rfl (ao λK hK=>F8 3 [] (λ_ _ _ _ h=>by cases h) (yD (.s 3 0 64 64) 0 rfl rfl rfl (nv rfl AZ rfl rfl) (vd an 1 rfl rfl rfl rfl (λ_ h=>by cases h) (Bw 2 rfl λK1 aS=>er [ptr g,.int .i64 ((64:Nat):Int)] (hf:=PV) rfl (QT g s 64) (λw h _=>h) λ⟨A1,c1,A2,c2⟩=>dz [eF g A2 c2 (zG s)] rfl (ah (aS _ (λ_ _ _ _ h=>by cases h) (Bx (H7 (z:=aB 64 0) rfl rfl rfl rfl rfl nb hl (dX λw h _=>h.1.1) ?_)))))))));rw [ep];refine ah (hK _ (ag rfl ?_));exact aJ (bE (A2,c2) rfl (λw h _=>h.1.2) au)
def Qs(g:Nat){A:aO}{c:Nat}(s:cf):Spec 79 [ptr g] [eF g A c s] (λ_=>True)
  { ret:=λ_:Unit=>.v (.int .i64 (kG s:Int)),own:=λ_=>[eF g A c s] }:=by
 refine bA [.c (.v (ptr g))] 23 func79 rfl λb=>ag rfl (ao λK hK=>a8 (ag rfl (dY rfl (aA rfl λK1 aS=>gE rfl (sT 0 rfl) (aj rfl (ah (aS _ ?_)))))));refine bn ((s.2:Int)≠0) rfl (λh0=>?_) (λh0=>?_)
 .have e:kG s=s.2:=if_neg (by omega);refine aA rfl λK2 aM=>gE rfl (sT 0 rfl) (aj rfl (ah (aM _ ?_)));exact aJ (dk an () rfl rfl (by rw [e];rfl) rfl aD au)
 have e0:kG s=if s.1.length=0 then 0 else 11:=if_pos (by omega);refine aA rfl λK2 aM=>gE rfl (sT 0 rfl) (aj rfl (ah (aM _ ?_)));refine bn ((s.1.length:Int)>0) rfl (λh1=>?_) (λh1=>?_)
 .rw [if_neg (by omega)] at e0;refine ag rfl ?_;exact aJ (dk an () rfl rfl (by rw [e0];rfl) rfl aD au)
 .rw [if_pos (by omega)] at e0;refine aR (hK _ (ag rfl ?_));exact aJ (dk an () rfl rfl (by rw [e0];rfl) rfl aD au)
def aeP{A:aO}{c:Nat}(l:ae)(hl:l.length<=281474976710656):Spec 73 [.slice A l.length c] [] (ar 1 aY A c l)
  { ret:=λx:Nat×Nat=>.v (ptr x.1),own:=λx=>[eF x.1 (some ⟨x.2,0,none⟩) l.length (l,0)],n:=λx=>ar 1 aY (some ⟨x.2,0,none⟩) l.length l }:=by
 refine bA [.c (.v (.slice A l.length c))] 8 func73 rfl λb=>ag rfl (aA rfl λK1 aS=>jC an b.B.heap.size [⟨A,c,l⟩] (fe:=kg) rfl rfl rfl (λ_=>rfl) rfl (Cz _) (aQ _) λP=>iU 0 rfl ?_);have hj:=HP (A:=P) (c:=1) [⟨A,c,l⟩] (by simp;omega)
 have e0:(List.map cC.l [⟨A,c,l⟩]).flatten=l:=by simp
 rw [e0] at hj;refine bY [.slice P 1 1] (hf:=Is) rfl hj (λw h _=>⟨h.1,λs hs=>by rw [bU.1 hs];exact h.2⟩) λgb=>aj rfl (ah (aS _ (aJ (rL 2 rfl (E':=[]) trivial λg=>?_))));exact bE (g,gb) rfl aD (λw h=>h.1)
def aA7{N:Nat}{E:aG}{o:yk}{x y:yo}{p q:Nat}(ho:o.op = .call { callee:=.builtin .max,args:=#[x,y],argTypes:=#[89,89] })(hx:aP E x=some (.v (.int .u64 (p:Int))))(hy:aP E y=some (.v (.int .u64 (q:Int)))) :
  ∀(G:aK) (a:Act) (w:yp),Fr N (bG G E) a->(execOp a.eval o).run prog w = .ok (.value ((aq.v (.int .u64 ((max p q:Nat):Int))).den G)) w:=λG a w ha=>by
 have h1:a.eval x = .int .u64 (p:Int):=ha.eval (bH hx);have h2:a.eval y = .int .u64 (q:Int):=ha.eval (bH hy)
 unfold execOp
 simp only [ho];generalize a.eval=ρ at *
 show _=pE (oO (.int .u64 ((max p q:Nat):Int))) w
 go_simp
 split<;>omega
section
variable{f:FuncId}{args:cU}{F:aE}{l:ae}
def Spec.made(h:∀w,F w->Calls prog f args.toArray w (Made w l)):Spec f args [] F
  { ret:=λg:Nat=>.v (cj g l.length l.length),n:=λg=>ar 1 aY (some ⟨g,0,none⟩) l.length l }:=λw S X bm _ hF=>by
 refine(h w hF.now).mono ?_
 rintro e w' ⟨g,he,ho,hb⟩
 refine⟨g,S,he,trivial,dO.wW hb,bm.fO λk hk=>hb.block k (bm.lt k hk),λ_ h _=>h,λ_ _=>trivial,?_⟩;have h3:(bL w.heap.size 5 1 aY (some ⟨g,0,none⟩) l.length l).holds w' λj=>(some (⟨g,0,none⟩:Addr)).map (·.block)=some j:=⟨mK _,by rw [JS];exact ho,λ_=>Iff.rfl⟩;have h4:=bL.rd h3;have h6:=(bL.Ue h3 _ rfl).1
 intro w2 ln
 refine h4.fO ln.size λb' e al=>ln.block b' al ?_;simp only [kF,iv] at e;subst e
 rintro(h5|h5)
 .exact ze _ (nP h5 h6)
 .exact ze _ (nP (bm.lt _ h5) h6)
theorem Spec.abQ(h:∀w,F w->Calls prog f args.toArray w (Xo w l)):Spec f args [] F
  { ret:=λx:aO×Nat=>.v (.slice x.1 l.length x.2),own:=λx=>[bL 0 5 1 aY x.1 x.2 l] }:=λw S X bm _ hF=>by
 refine(h w hF.now).mono ?_
 rintro e w' ⟨A,c,he,ho,hb⟩
 have h3:(bL w.heap.size 5 1 aY A c l).holds w' λj=>A.map (·.block)=some j:=⟨mK _,by rw [JS];exact ho,λ_=>Iff.rfl⟩;have h4:(bL 0 5 1 aY A c l).holds w' λj=>A.map (·.block)=some j:=⟨mK _,by rw [JS];exact ad2 ho (bl _),λ_=>Iff.rfl⟩;refine⟨(A,c),λj=>A.map (·.block)=some j,he,trivial,dO.wW hb,aBX.2 h4,λk hk al=>?_,λ_ _=>trivial, au⟩
 cases A with
 | none=>cases hk
 | some ad =>
  simp only [kF,iv] at hk;have:=(bL.Ue h3 ad rfl).1
  omega
end
section
variable{b:bO}{G:aK}{S:cn}{L:aH}{R:bF}{F M:aE}{w:yp}{g:Nat}{t:yn}{ai:cJ}
def bj.aoK(h:bj b G S L R F M w){i:Nat}(hi:R[i]?=some (rq g t ai)):∃S',bj b G S' L (R.eraseIdx i) (λw=>ij g t ai w/\F w) M w:=by
 obtain⟨S1,S2,⟨h1,h1'⟩,h2,h3,h4⟩:=h.let hi;refine⟨S2,h4.and (p:=ij g t ai) λw' hw=>⟨(hw.block g h1.1.lt λhx=>?_).trans h1.1,h1.2⟩⟩;rcases hx with hx|hx|⟨j,hj,e⟩
 .exact(h.eS g hx).2 (h.mine g (.inl ((h3 g).2 (.inl ((h1' g).2 rfl)))) (h.eS g hx).1)
 .exact h2 g ((h1' g).2 rfl) hx
 .exact h.sep j hj ((h3 _).2 (.inl ((h1' _).2 e)))
variable{P:ym}{Q:bK}{N:Nat}{E:aG}
def Bf{x:Code}(i:Nat)(hi:R[i]?=some (rq g t ai))(h:cN P b x Q N ⟨E,L,R.eraseIdx i,λw=>ij g t ai w/\F w,M⟩):cN P b x Q N ⟨E,L,R,F,M⟩:=λa w ⟨G,S,h1,h2,h3⟩=>by obtain⟨S',h4⟩:=h3.aoK hi;exact h a w ⟨G,S',h1,h2,h4⟩
end
theorem PK{g n:Nat}{t:yn}{l:ae}{w:yp}(h:ij g t [.agg n (By l).toArray] w)(hn:n<=9223372036854775807):ar 1 aY (some ⟨g,0,none⟩) n l w:=by
 have h1:l.length=n:=by
  have:=(h.2 _ eh).1
  rwa [fx,dH] at this
 refine⟨vF h1,hn,λh=>(by cases h),mK l,λ_=>⟨g,0,rfl,h.1.lt,λi x hi j v hj=>?_⟩⟩;have aF:bB w g t (By l).toArray:=h.1;rw [aF.cell];cases j with
 | zero =>
  have e:v = .int .u8 (x.toNat:Int):=(jm ((show(aY x).cp[0]?=some (.int .u8 (x.toNat:Int)) from rfl).symm.trans hj)).symm;obtain⟨h2,h3⟩:=eY.1 hi;have h4:=By_at? h2;rw [getElem!_pos l i h2,h3] at h4;rw [e]
  simpa using h4
 | succ j =>
  have:(aY x).cp[j+1]?=none:=rfl;rw [this] at hj
  cases hj
def yg{P:ym}{N:Nat}{E:aG}{o:yk}{x:yo}{t e:yn}{g off n sz:Nat}(ho:o.op = .slice t x none none none)(ht:P.underlying t=some (.array n e))(he:(P.info? e).map (·.size)=some sz)(hx:aP E x=some (.v (.pointer (some ⟨g,off,none⟩)))) :
  ∀(G:aK) (a:Act) (w:yp),Fr N (bG G E) a->(execOp a.eval o).run P w = .ok (.value ((aq.v (.slice (some ⟨g,off,none⟩) n n)).den G)) w:=λG a w ha=>by
 have h1:a.eval x = .pointer (some ⟨g,off,none⟩):=ha.eval (bH hx);have h5:=run_sizeOf he w
 unfold execOp
 simp only [ho];generalize a.eval=ρ at *;simp only [Option.map,h1]
 show _=pE (oO (.slice (some ⟨g,off,none⟩) n n)) w
 simp [Instr.sliceAt,Instr.sureAddr,run_underlying ht,Instr.sliceBounds,h5,bI,lf]
def Iw:Own 61:=λ_ _=>by go_simp
def It:Own 31:=λ_ _=>by go_simp
def atQ(v:Nat)(ab:v<18446744073709551616):Spec 101 [.int .u64 (v:Int)] [] (λ_=>True) (one (.q (aw 8 (br v)))) :=
 Spec.pure (cq (nQ v)).1 λw _=>ab5 v w ab
def aiJ{A X:aO}{c d:Nat}(l x:ae)(hl:l.length+8+x.length<=281474976710656):Spec 59 [.slice A l.length c,.slice X x.length d] [] (λw=>ar 1 aY A c l w/\ar 1 aY X d x w)
  { ret:=λg:Nat=>.v (cj g (l++br x.length++x).length (l++br x.length++x).length),n:=λg=>ar 1 aY (some ⟨g,0,none⟩) (l++br x.length++x).length (l++br x.length++x) } :=
 Spec.made λw h=>XM A X l x c d w.heap.size w h.1.yr h.2.yr (aQ _) hl
def Mb(v:Nat)(ab:v<18446744073709551616):Spec 31 [.int .u64 (v:Int)] [] (λ_=>True)
  { ret:=λg:Nat=>.v (cj g (br v).length (br v).length),n:=λg=>ar 1 aY (some ⟨g,0,none⟩) (br v).length (br v) } :=
 Spec.made λw _=>VF v w ab
def aeS{X:aO}{d:Nat}(x:ae)(hl:x.length+8<=140737488355328):Spec 28 [.slice X x.length d] [] (ar 1 aY X d x)
  { ret:=λy:aO×Nat=>.v (.slice y.1 (br x.length++x).length y.2),own:=λy=>[bL 0 5 1 aY y.1 y.2 (br x.length++x)] } :=
 Spec.abQ λw h=>ayN X x d w.heap.size w h.yr (aQ _) hl
def I2{A:aO}{c:Nat}(l:ae)(v:Nat)(ab:v<18446744073709551616)(hl:l.length+8<=281474976710656):Spec 61 [.slice A l.length c,.int .u64 (v:Int)] [] (ar 1 aY A c l)
  { ret:=λg:Nat=>.v (cj g (l++br v).length (l++br v).length),n:=λg=>ar 1 aY (some ⟨g,0,none⟩) (l++br v).length (l++br v) }:=by
 refine bA [.c (.v (.slice A l.length c)),.c (.v (.int .u64 (v:Int)))] 12 func61 rfl λb=>ag rfl (aA rfl λK1 aS=>bY [.int .u64 (v:Int)] rfl (atQ v ab) aD λ_=>aj rfl (ah (rL 5 rfl (E':=[(0,.v (.slice A l.length c))]) ⟨rfl,trivial⟩ λg=>aS _ (Bf 0 rfl (aA rfl λK2 aM=>b6 (.v (cj g 8 8)) rfl (yg rfl underlying184 rfl rfl) (jC an b.B.heap.size [⟨A,c,l⟩,⟨some ⟨g,0,none⟩,8,br v⟩] (fe:=kg) rfl rfl rfl (λ_=>rfl) rfl (Cz _) (aQ _) λP=>iU 0 rfl ?_))))))
 have e0:(List.map cC.l [⟨A,c,l⟩,⟨some ⟨g,0,none⟩,8,br v⟩]).flatten=l++br v:=by simp
 have hj:=HP (A:=P) (c:=2) [⟨A,c,l⟩,⟨some ⟨g,0,none⟩,8,br v⟩] (by rw [e0,aV,nQ];exact hl);rw [e0] at hj
 refine bY [.slice P 2 2] (hf:=Is) rfl hj (λw h _=>⟨h.1,λs hs=>by
  rcases bT.1 hs with rfl|hs
  .exact h.2.2.2
  .rw [bU.1 hs];exact PK (n:=8) h.2.1 (cL rfl)⟩) λgb=>?_
 refine aj rfl (ah (aM _ ?_));exact aJ (bE gb rfl aD (λw h=>h.1))
def awG:Own 164:=λ_ _=>by go_simp
def U6:Own 125:=λ_ _=>by go_simp
structure fV(w:yp):Prop where
  steps:s8 w
  cell:∀i,i<8->w.cell? ⟨1,i,none⟩=some (.int .u64 (jD[i]! : Nat))
  lt : 1 < w.heap.size
def fV.below{w w':yp}(h:fV w)(hb:Below w.heap.size w w'):fV w' :=
 ⟨h.steps.below hb,λi hi=>(hb.cell (p:=⟨1,i,none⟩) h.lt).trans (h.cell i hi),nP h.lt hb.size⟩
def CH:dr:=⟨jD[0]!,jD[1]!,jD[2]!,jD[3]!,jD[4]!,jD[5]!,jD[6]!,jD[7]!⟩
def agT:gH 64 CH:=by constructor<;>decide
def aC0:CH.list=jD:=by decide
def fV.range{w:yp}(h:fV w):w.rangeAt 1 0 (av jD):=λj v ab=>by
 rw [dI];have hj:j<8:=by have:=(eY.1 ab).1;rw [nM] at this;exact this
 rw [h.cell j hj];have h1:(av jD).toArray[j]?=some (.int .u64 (jD[j]! : Nat)):=xo (show j<jD.length from hj);rw [<-h1];simpa using ab
def gH.au7{o:dr}(h:gH 64 o):∀x∈o.list,x<18446744073709551616:=by
 intro x hx;simp only [dr.list,bT,xG,or_false] at hx;rcases hx with rfl|rfl|rfl|rfl|rfl|rfl|rfl|rfl
 .exact h.a
 .exact h.b
 .exact h.c
 .exact h.d
 .exact h.e
 .exact h.f
 .exact h.g
 .exact h.h
instance aIU:dc fV:=⟨λ_ _ h hb=>h.below hb⟩
def Qp{L:aH}{R:bF}{F M:aE}{g t:Nat}{ai:cJ}(i:Nat)(hi:R[i]?=some (rq g t ai)):∀G S w,View G S L R F M w->ij g t ai w:=λ_ _ _ h=>by obtain⟨S1,_,h1,_⟩:=h.res.at hi;exact h1.1
def ax4:Own 162:=λ_ _=>by go_simp
theorem UU{s:gX}{B:Nat}:∀(n:Nat) (o:dr) (l:ae),l.length<=n->gH s.w o->gH s.w (gK s B o l)
 | n,o,l,hn,ho=>by
  rw [gK];split
  .exact ho
  .cases n with
   | zero=>omega
   | succ n=>exact UU n _ _ (by rw [k7];omega) (gH.mx _ _ _)
def HR:u7:=⟨eQ,128,267,268,λo=>[.agg 8 (av o.list).toArray],162⟩
def as9:HR.aI where
 n64:=by decide
 n128:=by decide
 own:=ax4
 qn:=λ{gh gb o b} ho hb=>by refine bA (own:=HR.R gh gb o b) [.c (.v (pQ gh)),.c (.v (pQ gb))] 5 func162 rfl λB=>?_;refine ef (gE rfl (Qp 0 rfl) (gE rfl (Qp 1 rfl) (cX (aDC ho hb) (λ_=>rfl) rfl λ_=>FD an 0 rfl rfl rfl rfl rfl rfl rfl (kz rfl ?_))));exact bE () rfl aD λ_ _=>trivial
def atL{F:aE}{o:dr}(ho:gH 64 o):cV F 164 [CZ 8 o.list] (one (.q (aw 64 (o.list.map (mb eQ)).flatten))):=⟨awG,Spec.pure (cq (by rw [Lo (mb eQ) λx=>Ii eQ x];rfl)).1 λw _=>atM rfl (gH.au7 ho) w⟩
def aCD{P:aO}{cx:Nat}{ss:lU}(hn:ss.length<=9223372036854775807):cV (λw=>fV w/\Bt P cx ss w) 125 [.c (.v (.slice P ss.length cx))] (one (.q (aw 64 (gQ eQ (ss.map cC.l).flatten)))):=⟨U6,by refine bA [.c (.v (.slice P ss.length cx))] 12 func125 rfl λB=>?_;refine ag rfl ?_;refine ck λK hK=>jq (.q (CZ 8 CH.list)) (ab:=BH rfl) rfl (afJ (g:=1) (off:=0) (cs:=(av CH.list).toArray) rfl rfl Qe rfl (agK _ rfl) rfl λ_ _ _ ab=>by rw [aC0];exact ab.fact.1.range) (cR hK rfl ?_);refine ck λK hK=>dP rfl (ah (rL 4 rfl (E':=[(0,.v (.slice P ss.length cx)),(2,.a 2 0),(3,.a 3 0)]) ⟨rfl,rfl,rfl,trivial⟩ λgb=>rL 3 rfl (E':=[(4,.v (pQ gb)),(0,.v (.slice P ss.length cx)),(2,.a 2 0)]) ⟨rfl,rfl,rfl,trivial⟩ λgh=>hK _ (ck λK hK=>b6 (.v (cj gb 128 128)) rfl (yg rfl underlying268 xb rfl) (aj rfl (b6 (.v (HR.take gh gb)) rfl (VR (vals:=[pQ gh,pQ gb]) rfl rfl λ_=>rfl) ?_)))));refine er (own:=HR.R gh gb CH (aB 128 0)) (R':=[]) [cj gb 128 128,.slice P ss.length cx,HR.take gh gb] rfl (YA as9 agT nb hn) (λw h _=>⟨h.1.steps,h.2⟩) λb'=>?_;have hD:((gK eQ 128 CH ((ss.map cC.l).flatten++kh 128 ((ss.map cC.l).flatten.length%128) (8*(ss.map cC.l).flatten.length))).list.map (mb eQ)).flatten=gQ eQ (ss.map cC.l).flatten:=rfl;have hO:gH 64 (gK eQ 128 CH ((ss.map cC.l).flatten++kh 128 ((ss.map cC.l).flatten.length%128) (8*(ss.map cC.l).flatten.length))):=UU (s:=eQ) _ _ _ (aQ _) agT;refine dz (HR.R gh gb (gK eQ 128 CH ((ss.map cC.l).flatten++kh 128 ((ss.map cC.l).flatten.length%128) (8*(ss.map cC.l).flatten.length))) b'.1) rfl (cR hK rfl ?_);generalize gK eQ 128 CH ((ss.map cC.l).flatten++kh 128 ((ss.map cC.l).flatten.length%128) (8*(ss.map cC.l).flatten.length))=o at *;refine Bf 0 rfl (Bf 0 rfl (ck λK hK=>gE rfl (λ_ _ _ ab=>ab.fact.2.1) (cX (atL hO) (λ_=>rfl) rfl λ_=>cR hK rfl (aJ ?_))));rw [hD];exact bE () rfl aD λ_ _=>trivial⟩
def ah1(A:aO)(ls:aX)(cx:Nat)(w:yp)(hT:fV w)(hA:xl w w.heap.size A ls)(Ol:ls.length<=cx)(Cc:cx<=9223372036854775807) :
  Calls prog 125 #[.slice A ls.length cx] w λe w'=>e = .returned (.agg (By (gQ eQ ls.flatten)).toArray)/\Below w.heap.size w w':=by
 obtain⟨ss,rfl,h⟩:=VX ⟨Ol,Cc⟩ hA;rw [dL] at *;exact(aCD (by omega)).row ⟨hT,h⟩
end Go.Proofs.Q
namespace Nums
def ayC:eu 1224481:=xv (k:=1107) (by decide) (by decide +kernel) (by decide +kernel)
def aAP:eu 531581:=xv (k:=730) (by decide) (by decide +kernel) (by decide +kernel)
def aF1:eu 41:=xv (k:=7) (by decide) (by decide) (by decide +kernel)
def aCR:eu 2851:=xv (k:=54) (by decide) (by decide) (by decide +kernel)
def aE6:eu 269:=xv (k:=17) (by decide) (by decide) (by decide +kernel)
def aGM:eu 7:=xv (k:=3) (by decide) (by decide) (by decide +kernel)
def aF2:eu 11:=xv (k:=4) (by decide) (by decide) (by decide +kernel)
def aEY:eu 1257559732178653:=AA (q1:=1224481) (q2:=531581) (a:=2) (k:=51) ayC aAP (by decide +kernel)
def aEX:eu 4434155615661930479:=AA (q1:=1257559732178653) (q2:=41) (a:=3) (k:=62) aEY aF1 (by decide +kernel)
def aEW:eu 172054593956031949258510691:=AA (q1:=4434155615661930479) (q2:=2851) (a:=2) (k:=88) aEX aCR (by decide +kernel)
def aEV:eu 19757330305831588566944191468367130476339:=AA (q1:=172054593956031949258510691) (q2:=269) (a:=2) (k:=134) aEW aE6 (by decide +kernel)
def aEU:eu 276602624281642239937218680557139826668747:=AA (q1:=19757330305831588566944191468367130476339) (q2:=7) (a:=2) (k:=138) aEV aGM (by decide +kernel)
def ahN:eu cd:=AA (q1:=276602624281642239937218680557139826668747) (q2:=11) (a:=2) (k:=253) aEU aF2 (by decide +kernel)
def aH3:base≠Ed.zero:=λh=>by have h1:=congrArg Ed.bz.y h;have h2:(bJ rA:F).val=(1:F).val:=congrArg Fin.val h1;rw [val_one nf,DD] at h2;revert h2;decide
def aGO(n:Nat):Ed.mul bP n base=Ed.zero↔cd∣n:=by
 constructor
 .intro h
  by_cases hd:cd∣n
  .exact hd
  .exfalso
   have hf:=We ahN hd;obtain⟨e,he⟩:∃e,cd-1=e+1:=⟨cd-2,by decide⟩;rw [he,k8] at hf;generalize n^e=c at hf;have h1:n*c=cd*(c*n/cd)+1:=by have:=Nat.div_add_mod (c*n) cd;rw [hf] at this;rw [oV n c];exact this.symm
   exact aH3 (Ed.aGF dn wT h order h1)
 .rintro⟨c,rfl⟩;rw [Ed.Ip dn wT,order,Ed.mul_zero dn]
def FQ(x:Nat):Nat:=x%(2^254)/8*8+(2^254)
def aGD(x:Nat):¬cd∣FQ x:=by
 rintro⟨c,hc⟩;obtain⟨y,hy⟩:∃y,y=x%(2^254):=⟨_,rfl⟩;have hy2:y<(2^254):=by rw [hy];exact ke _ (by decide)
 have h0:FQ x=y/8*8+(2^254):=by rw [hy];rfl
 rw [h0] at hc;have h8:cd*c%8=0:=by rw [<-hc];omega
 have h1:cd*c<cd*8:=by rw [<-hc];refine nP (m:=(2^255)) ?_ (by decide);omega
 have h2:0<cd*c:=by rw [<-hc];omega
 have hc8:c<8:=Nat.lt_of_mul_lt_mul_left h1;clear hc h0 hy hy2 h1;have h5:cd*c%8=5*c%8:=by rw [Cm,show cd%8=5 from by decide,Cm 5 c,show 5%8=5 from rfl]
 rw [h5] at h8;have hcz:c=0:=by omega
 rw [hcz,AB] at h2;exact absurd h2 (by decide)
def aCJ(x:Nat):Ed.mul bP 8 (Ed.mul bP (FQ x) base)≠Ed.zero:=by
 intro h;rw [Ed.aeA dn wT,aGO] at h;rcases ahN.dvd_mul h with h1|h1
 .exact absurd (Nat.le_of_dvd (by decide) h1) (by decide)
 .exact aGD x h1
def aCN(r k a:Nat):Ed.add bP (Ed.mul bP ((r+k*a)%cd) base) (Ed.neg (Ed.mul bP k (Ed.mul bP a base)))=Ed.mul bP r base:=by have hr:=Ed.qJ dn wT r;have hk:=Ed.qJ dn wT (k*a);rw [<-Ed.mul_mod dn wT order,Ed.mul_add dn wT,Ed.aeA dn wT,Ed.add_assoc dn hr hk (Ed.Cr hk),Ed.add_neg dn hk,Ed.add_zero dn]
def sI(l:ae):ae:=l.set 0 (bX ((l[0]!).toNat/8*8))
def Ba(l:ae):ae:=l.set 31 (bX ((l[31]!).toNat%64+64))
def DK(l:ae):ae:=Ba (sI l)
def PJ(l:ae):(sI l).length=l.length:=jO
def afV(l:ae):(Ba l).length=l.length:=jO
def aCS(l:ae):(DK l).length=l.length:=by rw [DK,afV,PJ]
def ofNat_toNat{n:Nat}(h:n<256):(bX n).toNat=n:=by rw [UInt8.toNat_ofNat'];omega
def aEB(x b t:Nat)(h:x=b+(2^254)*t)(hb:b<(2^254)):FQ x=b/8*8+(2^254):=by unfold FQ;rw [h,GV,gm hb]
theorem aG8:∀{l:ae},0<l.length->le (sI l)=le l/8*8
 | [],h=>absurd h (by simp)
 | x::l,_=>by have hx:=x.toNat_lt;have e:sI (x::l)=bX (x.toNat/8*8)::l:=rfl;rw [e];show(bX (x.toNat/8*8)).toNat+256*le l=(x.toNat+256*le l)/8*8;rw [ofNat_toNat (by omega)];omega
def aG7{l:ae}(h:l.length=32):∃b t,b<(2^254)/\le l=b+(2^254)*t/\le (Ba l)=b+(2^254)/\b%8=le l%8:=by
 have hs:l=l.take 31++[l[31]!]:=by
  have h1:l.drop 31=[l[31]!]:=by rw [z9 (by omega),Lb (by omega),getElem!_pos l 31 (by omega)]
  rw [<-h1,oN]
 have hlen:(l.take 31).length=31:=by rw [du];omega
 have ht:Ba l=l.take 31++[bX ((l[31]!).toNat%64+64)]:=by
  unfold Ba
  conv=>lhs;arg 1;rw [hs]
  rw [yF _ _ (by rw [hlen];exact aQ _),hlen];rfl
 have hx:=(l[31]!).toNat_lt;have nj:=DN (l.take 31);rw [hlen] at nj;have e1:le l=le (l.take 31)+256^31*(l[31]!).toNat:=by
  conv=>lhs;rw [hs]
  rw [Du,hlen];rfl
 have e2:le (Ba l)=le (l.take 31)+256^31*((l[31]!).toNat%64+64):=by rw [ht,Du,hlen];show _+256^31*((bX ((l[31]!).toNat%64+64)).toNat+256*0)=_;rw [ofNat_toNat (by omega)]
 generalize le (l.take 31)=u at *;generalize (l[31]!).toNat=y at *;refine⟨u+256^31*(y%64),y/64,?_,?_,?_,?_⟩
 .omega
 .rw [e1];omega
 .rw [e2];omega
 .rw [e1];omega
def aE8{l:ae}(h:l.length=32):le (DK l)=FQ (le l):=by
 have h1:=aG8 (l:=l) (by omega);obtain⟨b,t,hb,e1,e2,e3⟩:=aG7 (l:=sI l) (by rw [PJ,h]);rw [h1] at e1 e3;have h8:b%8=0:=by rw [e3];omega
 obtain⟨r,hr,hr8⟩:∃r,le l=le l/8*8+r/\r<8:=⟨le l%8,by omega,by omega⟩;rw [DK,e2,aEB (le l) (b+r) t (by omega) (by omega)];omega
def xa(seed:ae):ae:=gQ eQ seed
def o9(seed:ae):ae:=DK ((xa seed).take 32)
def FV(seed:ae):ae:=(xa seed).drop 32
def o8(seed:ae):ae:=hB (Ed.mul bP (le (o9 seed)) base)
def Gb(seed m:ae):Nat:=le (gQ eQ (FV seed++m))%cd
def wX(seed m:ae):ae:=hB (Ed.mul bP (Gb seed m) base)
def Bh(R key m:ae):Nat:=le (gQ eQ (R++(key++m)))%cd
def yq(seed m:ae):Nat:=(Gb seed m+Bh (wX seed m) (o8 seed) m*le (o9 seed))%cd
def uJ(seed m:ae):ae:=wX seed m++bytes 32 (yq seed m)
def jj(key sig m:ae):Prop:=∃A,Ed.c9 bP A/\hB A=key/\Ed.mul bP 8 A≠Ed.zero/\le (sig.drop 32)<cd /\
  hB (Ed.add bP (Ed.mul bP (le (sig.drop 32)) base) (Ed.neg (Ed.mul bP (Bh (sig.take 32) key m) A)))=sig.take 32
def acK(m:ae):(gQ eQ m).length=64:=by
 unfold gQ;have h:∀l:aC,((l.map (mb eQ)).flatten).length=8*l.length:=by
  intro l;induction l with
  | nil=>rfl
  | cons x l ih =>
   rw [eZ,wE,aV,ih,fL]
   have:(mb eQ x).length=8:=by unfold mb;rw [BI,ld];rfl
   omega
 rw [h];rfl
def Qa(seed:ae):(xa seed).length=64:=acK _
def afW(seed:ae):(o9 seed).length=32:=by rw [o9,aCS,du,Qa];rfl
def aDK(seed:ae):(FV seed).length=32:=by rw [FV,k7,Qa]
def Vc(seed:ae):(o8 seed).length=32:=FA _
def Fv(seed m:ae):(wX seed m).length=32:=FA _
def ae7(seed m:ae):(uJ seed m).length=64:=by rw [uJ,aV,Fv,ld]
def aCP(seed m:ae):(uJ seed m).take 32=wX seed m:=by rw [uJ,KU (by rw [Fv];exact aQ _),kE (by rw [Fv];exact aQ _)]
def aCQ(seed m:ae):(uJ seed m).drop 32=bytes 32 (yq seed m):=by rw [uJ,List.drop_append,Fv,um (by rw [Fv];exact aQ _)];rfl
def Fl(n:Nat):n%cd<cd:=ke _ (by decide)
def ai5(seed m:ae):yq seed m<cd:=Fl _
def Pm{n:Nat}(h:n<cd):le (bytes 32 n)=n:=by rw [Dx,gm (Nat.lt_trans h (by decide))]
def ai3(seed m:ae):le ((uJ seed m).drop 32)=yq seed m:=by rw [aCQ,Pm (ai5 _ _)]
def aE9(seed:ae):Ed.mul bP 8 (Ed.mul bP (le (o9 seed)) base)≠Ed.zero:=by have h:le (o9 seed)=FQ (le ((xa seed).take 32)):=aE8 (by rw [du,Qa];rfl);rw [h];exact aCJ _
def aE4(seed m:ae):jj (o8 seed) (uJ seed m) m:=by
 refine⟨_,Ed.qJ dn wT _,rfl,aE9 seed,?_,?_⟩
 .rw [ai3];exact ai5 _ _
 .rw [ai3,aCP,yq,aCN];rfl
end Nums
namespace Go.Proofs.Q
open Go.RowKit Go.IntWalk Nums
def agJ(n:Nat):(prog.info? 176).map (·.size)=some (av (ws n)).toArray.size:=by rw [fx,nM,AG];kernel_rfl
theorem axY{w:yp}{P:aO}{ls:aX}(h:lX w P ls)(hP:P=none):ls=[]:=by
 cases ls with
 | nil=>rfl
 | cons l ls =>
  obtain⟨ad,e,_⟩:=h (by simp);rw [hP] at e
  cases e
def av6{v1 v2:Value}{l1 l2:ae}{P:aO}{ls:aX}{cx:Nat}(w:yp)(hT:fV w)(h1:ja w v1 l1)(h2:ja w v2 l2)(hP:lX w P ls)(h0:P=none->cx=0)(y6:ls.length<=1000000) :
  Calls prog 121 #[v1,v2,.slice P ls.length cx] w λe w'=>e = .returned (.agg (av (ws (le (gQ eQ (l1++(l2++ls.flatten)))%cd))).toArray)/\Below w.heap.size w w':=by
 refine R0 (vs:=[v1,v2,.slice P ls.length cx]) 16 func121 rfl (by rw [ntmps121];rfl) (Jx λK hK=>XN (asQ W6 rfl rfl (by kernel_rfl) λW1 g1 fy hg1 b1=>OW (hK _ _ ?_)));clear hK K;replace h1:=h1.later fy;replace h2:=h2.later fy;replace hP:=hP.later fy;replace hT:=hT.below fy;have hU:cA w W1:=fy
 have q1:w.heap.size<=g1:=by rw [hg1];exact aQ _
 clear fy;refine Jx λK hK=>am1 4 (yO rfl (NC v1 rfl rfl rfl (yN (yO rfl (NC v2 rfl rfl rfl (yN (YW [v1,v2] [l1,l2] W1.heap.size rfl rfl rfl rfl rfl (by decide) (by decide) (λ_ h=>h.size) (λ_ h _=>⟨h1.later h,h2.later h,trivial⟩) λg2 _ _ _=>yO rfl (NC (.slice P ls.length cx) rfl rfl rfl (yN (NH λkV ln hF=>?_))))))))));have n2:=hF 2 _ rfl;clear hF;refine asT (vs:=[v1,v2]) (ls:=ls) (base:=W1.heap.size) rfl rfl rfl rfl (n2.gs (n:=2) rfl (by decide)) ln hP (λe=>⟨h0 e,axY hP e⟩) (by simp;omega) ln.size λA' c' W3 us ic vw oc=>?_;have GY:cA W1 W3:=rp.Sy (n2.gs (n:=2) rfl (by decide)) ln oc ln.size;have iP:jH W3 ([v1,v2]++us) ([l1,l2]++ls):=jH.app ⟨h1.later GY,h2.later GY,trivial⟩ (jH.later GY ic);obtain⟨SF,yU,n6⟩:=vw.zy iP;rw [iP.len];refine aaW (.slice A' ([l1,l2]++ls).length c') rfl rfl rfl (OW (hK _ _ ?_));clear hK K;replace b1:=b1.later GY;replace hT:=hT.below GY;replace hU:=hU.step GY;refine Jx λK hK=>am6 3 (NC (.slice A' ([l1,l2]++ls).length c') rfl rfl rfl (GR #[.slice A' ([l1,l2]++ls).length c'] (.agg (By (gQ eQ ([l1,l2]++ls).flatten)).toArray) rfl rfl rfl U6 (λw1 h=>ah1 A' ([l1,l2]++ls) c' w1 (hT.below h) (SF.later h) yU n6) rfl rfl (GR #[.agg (By (gQ eQ ([l1,l2]++ls).flatten)).toArray] (.agg (av (ws (le (gQ eQ ([l1,l2]++ls).flatten)%cd))).toArray) rfl rfl rfl ad7 (λw1 _=>aFI (acK _) w1) rfl rfl (ao4 g1 _ (av (ws (le (gQ eQ ([l1,l2]++ls).flatten)%cd))).toArray rfl rfl rfl rfl rfl b1 (agJ _) (by rw [show(av (ws _)).toArray.size=4 by rw [fx,nM,AG]];rfl) (λv ab=>Bv _ v (by simpa using ab)) λw4 Ch c4=>OW (hK _ _ ?_)))));clear hK K;refine XP (asB g1 _ rfl rfl c4 Qg rfl (agJ _) ⟨?_,Ww (hU.step Ch) q1 _⟩)
 rfl
def aBL(cs:ct)(h:cs.size=2):(prog.info? 318).map (·.size)=some cs.size:=by rw [h];kernel_rfl
def auC(hi lo:Nat)(hl:lo<18446744073709551616)(w:yp) :
  Calls prog 210 #[.agg (av [hi,lo]).toArray] w λe w'=>e = .returned (.int .u64 ((lo%2251799813685248:Nat):Int))/\Below w.heap.size w w':=by
 have e0:(av [hi,lo]).toArray = #[.int .u64 (hi:Int),.int .u64 (lo:Int)]:=rfl;rw [e0]
 go_enter func210,ntmps210
 go_wp2
 rw [Il lo hl]
 go_ret
 exact⟨rfl,(Below.refl _ _).alloc (aQ _) _⟩
def aqC(hi lo:Nat)(hh:hi<2251799813685248)(hl:lo<18446744073709551616)(w:yp) :
  Calls prog 211 #[.agg (av [hi,lo]).toArray] w λe w'=>e = .returned (.int .u64 ((hi*8192+lo/2251799813685248:Nat):Int))/\Below w.heap.size w w':=by
 have e0:(av [hi,lo]).toArray = #[.int .u64 (hi:Int),.int .u64 (lo:Int)]:=rfl;rw [e0]
 go_enter func211,ntmps211
 go_wp2
 have e1:(hi:Int)*8192=((hi*8192:Nat):Int):=by omega
 rw [e1,an5,PO 13 (hi*8192) (lo/2251799813685248) (by omega) (by omega) (by omega) (by omega)]
 go_ret
 exact⟨rfl,(Below.refl _ _).alloc (aQ _) _⟩
def axV(hi lo a b:Nat)(hh:hi<18446744073709551616)(hl:lo<18446744073709551616)(ha:a<18446744073709551616)(hb:b<18446744073709551616)(w:yp) :
  Calls prog 209 #[.agg (av [hi,lo]).toArray,.int .u64 a,.int .u64 b] w λe w' =>
   e = .returned (.agg (av [(hi+a*b/18446744073709551616+(lo+a*b%18446744073709551616)/18446744073709551616)%18446744073709551616,(lo+a*b%18446744073709551616)%18446744073709551616]).toArray)/\Below w.heap.size w w':=by
 have e0:(av [hi,lo]).toArray = #[.int .u64 (hi:Int),.int .u64 (lo:Int)]:=rfl;rw [e0];have HM:=λw1=>iB (Ph a b ha hb w1);generalize a*b/18446744073709551616=mh at *;generalize qT:a*b%18446744073709551616=ml at *
 have qT:ml<18446744073709551616:=by omega
 have yU:((lo:Int)+(ml:Int))/18446744073709551616<=1:=by omega
 have Am:(0:Int)<=((lo:Int)+(ml:Int))/18446744073709551616:=by omega
 go_enter func209,ntmps209
 go_wp2_with (fail)
 refine(HM _).out.mono ?_
 rintro e w1 ⟨rfl,rfl⟩
 go_wp2_with (first|simp only [akI lo ml (by omega) (by omega)]|simp only [Xv hi mh _ (by omega) (by omega) Am yU])
 refine bodyPost_ret (results_cell_row rfl _ _ (w.heap.size+1) 318 _ (0,0) _ rfl (heap_alloc2_new w _ _) underlying318 rfl (aBL _ rfl)) rfl ⟨?_,((Below.refl _ _).alloc (aQ _) _).alloc (by simp) _⟩
 rfl
end Go.Proofs.Q
namespace Nums
def ew:aC->Nat
  | []=>0
  | d::ds=>d+2251799813685248*ew ds
def qX(a0 a1 a2 a3 a4:Nat):ew [a0,a1,a2,a3,a4]=a0+2251799813685248*(a1+2251799813685248*(a2+2251799813685248*(a3+2251799813685248*a4))):=by simp only [ew,AB,jP]
structure cu(l:aC)(x:F):Prop where
  len:l.length=5
  bnd:∀y∈l,y<2251799813947392
  val:bJ (ew l)=x
theorem ye{l:aC}(h:l.length=5):∃a0 a1 a2 a3 a4,l=[a0,a1,a2,a3,a4]:=by
 match l,h with
 | [a0,a1,a2,a3,a4],_=>exact⟨a0,a1,a2,a3,a4,rfl⟩
def cu.ye{l:aC}{x:F}(h:cu l x):∃a0 a1 a2 a3 a4,l=[a0,a1,a2,a3,a4]/\a0<2251799813947392/\a1<2251799813947392/\a2<2251799813947392/\a3<2251799813947392/\a4<2251799813947392/\bJ (ew [a0,a1,a2,a3,a4])=x:=by obtain⟨a0,a1,a2,a3,a4,rfl⟩:=Nums.ye h.len;have hb:=h.bnd;exact⟨a0,a1,a2,a3,a4,rfl,hb _ (by simp),hb _ (by simp),hb _ (by simp),hb _ (by simp),hb _ (by simp),h.val⟩
def cu.Lt{a0 a1 a2 a3 a4:Nat}{x:F}(h0:a0<2251799813947392)(h1:a1<2251799813947392)(h2:a2<2251799813947392)(h3:a3<2251799813947392)(h4:a4<2251799813947392)(h:bJ (ew [a0,a1,a2,a3,a4])=x) :
  cu [a0,a1,a2,a3,a4] x:=by
 refine⟨rfl,?_,h⟩
 intro y hy
 simp only [bT,xG,or_false] at hy
 rcases hy with rfl|rfl|rfl|rfl|rfl<;>assumption
def Rm:p=57896044618658097711785492504343953926634992332820282019728792003956564819949:=by decide
def z8(a0 a1 a2 a3 a4:Nat):aC :=
  [a0%2251799813685248+19*(a4/2251799813685248),a1%2251799813685248+a0/2251799813685248,a2%2251799813685248+a1/2251799813685248,a3%2251799813685248+a2/2251799813685248,a4%2251799813685248+a3/2251799813685248]
def WY(a k:Nat):bJ (a+p*k)=bJ a:=xZ (by rw [GV])
def aj5(a0 a1 a2 a3 a4:Nat):bJ (ew (z8 a0 a1 a2 a3 a4))=bJ (ew [a0,a1,a2,a3,a4]):=by
 have h:ew (z8 a0 a1 a2 a3 a4)+p*(a4/2251799813685248)=ew [a0,a1,a2,a3,a4]:=by unfold z8;rw [qX,qX,Rm];omega
 rw [<-h,WY]
def Wg{a0 a1 a2 a3 a4:Nat}(h0:a0<18446744073709551616)(h1:a1<18446744073709551616)(h2:a2<18446744073709551616)(h3:a3<18446744073709551616)(h4:a4<18446744073709551616) :
  cu (z8 a0 a1 a2 a3 a4) (bJ (ew [a0,a1,a2,a3,a4])) :=
 cu.Lt (by omega) (by omega) (by omega) (by omega) (by omega) (aj5 a0 a1 a2 a3 a4)
def aGV(a0 a1 a2 a3 a4 b0 b1 b2 b3 b4:Nat):ew [a0+b0,a1+b1,a2+b2,a3+b3,a4+b4]=ew [a0,a1,a2,a3,a4]+ew [b0,b1,b2,b3,b4]:=by rw [qX,qX,qX];omega
def aH8{a0 a1 a2 a3 a4 b0 b1 b2 b3 b4:Nat}(h0:b0<2251799813947392)(h1:b1<2251799813947392)(h2:b2<2251799813947392)(h3:b3<2251799813947392)(h4:b4<2251799813947392) :
  bJ (ew [a0+(4503599627370458-b0),a1+(4503599627370494-b1),a2+(4503599627370494-b2),a3+(4503599627370494-b3),a4+(4503599627370494-b4)])=bJ (ew [a0,a1,a2,a3,a4])-bJ (ew [b0,b1,b2,b3,b4]):=by
 have h:ew [a0+(4503599627370458-b0),a1+(4503599627370494-b1),a2+(4503599627370494-b2),a3+(4503599627370494-b3),a4+(4503599627370494-b4)]+ew [b0,b1,b2,b3,b4]=ew [a0,a1,a2,a3,a4]+p*2:=by rw [qX,qX,qX,Rm];omega
 have h2:bJ (ew [a0,a1,a2,a3,a4])=bJ (ew [a0+(4503599627370458-b0),a1+(4503599627370494-b1),a2+(4503599627370494-b2),a3+(4503599627370494-b3),a4+(4503599627370494-b4)])+bJ (ew [b0,b1,b2,b3,b4]):=by rw [<-Cn,h,WY]
 rw [h2];generalize bJ (ew [a0+(4503599627370458-b0),a1+(4503599627370494-b1),a2+(4503599627370494-b2),a3+(4503599627370494-b3),a4+(4503599627370494-b4)])=u;generalize bJ (ew [b0,b1,b2,b3,b4])=v
 grind only
def aGG(c0 c1 c2 c3 c4:Nat):bJ (ew [19*c4,c0,c1,c2,c3])=bJ 2251799813685248*bJ (ew [c0,c1,c2,c3,c4]):=by
 have h:ew [19*c4,c0,c1,c2,c3]+p*c4=2251799813685248*ew [c0,c1,c2,c3,c4]:=by rw [qX,qX,Rm];omega
 rw [<-qH,<-h,WY]
def aG6(s0 s1 s2 s3 s4 v c0 c1 c2 c3 c4:Nat):ew [s0+v*c0,s1+v*c1,s2+v*c2,s3+v*c3,s4+v*c4]=ew [s0,s1,s2,s3,s4]+v*ew [c0,c1,c2,c3,c4]:=by rw [qX,qX,qX];grind only
def sY(l:aC)(u:Nat):aK
  | 0=>u
  | k+1=>(l[k]! + sY l u k)/2251799813685248
def kC(l:aC)(u:Nat):aK
  | 0=>u
  | k+1=>(kC l u k+l[k]!)/2251799813685248
def xg(l:aC)(u k:Nat):aC:=(dV 5).map λj=>if j<k then(kC l u j+l[j]!)%2251799813685248 else l[j]!
def whole(l:aC):aC:=xg l (sY l 19 5*19) 5
def Dt{l:aC}{x:F}(h:cu l x):(whole l).length=5/\(∀y∈whole l,y<2251799813685248)/\ew (whole l)=x.val:=by
 refine⟨by simp [whole,xg],?_,?_⟩
 .intro y hy;obtain⟨j,hj,rfl⟩:=dv.1 hy;rw [if_pos (by simpa using hj)];exact ke _ (by decide)
 .obtain⟨a0,a1,a2,a3,a4,rfl,h0,h1,h2,h3,h4,ab⟩:=h.ye
  have hw:whole [a0,a1,a2,a3,a4]=[(kC [a0,a1,a2,a3,a4] (sY [a0,a1,a2,a3,a4] 19 5*19) 0+a0)%2251799813685248,(kC [a0,a1,a2,a3,a4] (sY [a0,a1,a2,a3,a4] 19 5*19) 1+a1)%2251799813685248,(kC [a0,a1,a2,a3,a4] (sY [a0,a1,a2,a3,a4] 19 5*19) 2+a2)%2251799813685248,(kC [a0,a1,a2,a3,a4] (sY [a0,a1,a2,a3,a4] 19 5*19) 3+a3)%2251799813685248,(kC [a0,a1,a2,a3,a4] (sY [a0,a1,a2,a3,a4] 19 5*19) 4+a4)%2251799813685248]:=rfl;have hu:sY [a0,a1,a2,a3,a4] 19 5=(a4+(a3+(a2+(a1+(a0+19)/2251799813685248)/2251799813685248)/2251799813685248)/2251799813685248)/2251799813685248:=rfl;rw [<-ab,DD,hw];generalize hq:sY [a0,a1,a2,a3,a4] 19 5=q at *;have g0:kC [a0,a1,a2,a3,a4] (q*19) 0=q*19:=rfl;have g1:kC [a0,a1,a2,a3,a4] (q*19) 1=(kC [a0,a1,a2,a3,a4] (q*19) 0+a0)/2251799813685248:=rfl;have g2:kC [a0,a1,a2,a3,a4] (q*19) 2=(kC [a0,a1,a2,a3,a4] (q*19) 1+a1)/2251799813685248:=rfl;have g3:kC [a0,a1,a2,a3,a4] (q*19) 3=(kC [a0,a1,a2,a3,a4] (q*19) 2+a2)/2251799813685248:=rfl;have g4:kC [a0,a1,a2,a3,a4] (q*19) 4=(kC [a0,a1,a2,a3,a4] (q*19) 3+a3)/2251799813685248:=rfl;generalize kC [a0,a1,a2,a3,a4] (q*19) 0=e0 at *;generalize kC [a0,a1,a2,a3,a4] (q*19) 1=e1 at *;generalize kC [a0,a1,a2,a3,a4] (q*19) 2=e2 at *;generalize kC [a0,a1,a2,a3,a4] (q*19) 3=e3 at *;generalize kC [a0,a1,a2,a3,a4] (q*19) 4=e4 at *;have hL:=qX a0 a1 a2 a3 a4;generalize ew [a0,a1,a2,a3,a4]=L at *;rw [qX];have hp:=Rm;generalize p=P at *;have ha:q<2:=by omega
  have hb:q=0->L<P:=by omega
  have hc:q=1->P<=L:=by omega
  have hd:L<2*P:=by omega
  rcases(show q=0\/q=1 by omega) with rfl|rfl
  .rw [gm (hb rfl)];clear hu hc hd ab;have:=hb rfl;omega
  .have cW:=hc rfl
   have hm:L%P=L-P:=by rw [Nat.mod_eq_sub_mod cW,gm (by omega)]
   rw [hm];clear hu hb ab hm;omega
end Nums
namespace Go.Proofs.Q
open Go.RowKit Go.IntWalk Nums
def Gc(cs:ct)(h:cs.size=5):(prog.info? 234).map (·.size)=some cs.size:=by rw [h];kernel_rfl
def ajA:ct:=(av [0,0,0,0,0]).toArray
def abE{l:aC}(h:l.length=5):(av l).toArray.size=5:=by rw [fx,nM,h]
def amN(a c:Nat)(ha:a<18446744073709551616)(hc:c<18446744073709551616) :
  IntKind.u64.wrap (bits .and .u64 (a:Int) 2251799813685247+19*((c:Int)/2251799813685248))=((a%2251799813685248+19*(c/2251799813685248):Nat):Int):=by
 rw [Il a ha,jN]
 omega
def Nn(a c:Nat)(ha:a<18446744073709551616)(hc:c<18446744073709551616) :
  IntKind.u64.wrap (bits .and .u64 (a:Int) 2251799813685247+(c:Int)/2251799813685248)=((a%2251799813685248+c/2251799813685248:Nat):Int):=by
 rw [Il a ha,jN]
 omega
def A7:=@underlying234
def amB(a0 a1 a2 a3 a4:Nat)(h0:a0<18446744073709551616)(h1:a1<18446744073709551616)(h2:a2<18446744073709551616)(h3:a3<18446744073709551616)(h4:a4<18446744073709551616)(w:yp) :
  Calls prog 212 #[.agg (av [a0,a1,a2,a3,a4]).toArray] w λe w'=>e = .returned (.agg (av (z8 a0 a1 a2 a3 a4)).toArray)/\Below w.heap.size w w':=by
 have e0:(av [a0,a1,a2,a3,a4]).toArray = #[.int .u64 (a0:Int),.int .u64 (a1:Int),.int .u64 (a2:Int),.int .u64 (a3:Int),.int .u64 (a4:Int)]:=rfl;rw [e0]
 go_enter func212,ntmps212
 go_wp2
 rw [amN a0 a4 h0 h4,Nn a1 a0 h1 h0,Nn a2 a1 h2 h1,Nn a3 a2 h3 h2,Nn a4 a3 h4 h3];refine bodyPost_ret (results_cell_row rfl _ _ (w.heap.size+1) 234 _ (0,0) _ rfl (Ek w _ _ _ _) A7 rfl (Gc _ rfl)) rfl ⟨rfl,?_⟩;exact(((Below.refl _ _).alloc (aQ _) _).alloc (by simp) _).alloc (by simp;omega) _
def km(f:aK)(l:aC)(k:Nat):aC:=(dV 5).map λj=>if j<k then f j else l[j]!
def zr(f:aK)(l:aC)(k:Nat):(km f l k).length=5:=by simp [km]
def UJ(f:aK){l:aC}(h:l.length=5):km f l 0=l:=by obtain⟨a0,a1,a2,a3,a4,rfl⟩:=ye h;rfl
def UI(f:aK)(l:aC){k:Nat}(h:k<5):(km f l k)[k]! = l[k]!:=by rw [getElem!_pos _ k (by rw [zr];exact h)];simp [km]
def Pj(f:aK)(l:aC){k:Nat}:(km f l k).set k (f k)=km f l (k+1):=by
 apply qv (by simp [km]);intro j h1 h2;rw [Fq];simp only [km,H5,HU];by_cases iT:k=j
 .subst iT;simp
 .rw [if_neg iT]
  by_cases al:j<k
  .rw [if_pos al,if_pos (by omega)]
  .rw [if_neg al,if_neg (by omega)]
def Ae{l:aC}{x:F}(h:cu l x){k:Nat}(hk:k<5):l[k]! < 2251799813947392 :=
 h.bnd _ (by rw [getElem!_pos l k (by rw [h.len];exact hk)];exact AD _)
def Gh:aC:=[4503599627370458,4503599627370494,4503599627370494,4503599627370494,4503599627370494]
def aDE{k:Nat}(h:k<5):4503599627370458<=Gh[k]! /\ Gh[k]! <= 4503599627370494:=by
 have h5:k=0\/k=1\/k=2\/k=3\/k=4:=by omega
 rcases h5 with rfl|rfl|rfl|rfl|rfl<;>decide
structure j6(w:yp):Prop where
  cell:∀i,i<5->w.cell? ⟨3,i,none⟩=some (.int .u64 (Gh[i]! : Nat))
  lt : 3 < w.heap.size
def j6.below{w w':yp} (h:j6 w)(hb:Below w.heap.size w w'):j6 w' :=
 ⟨λi hi=>(hb.cell (p:=⟨3,i,none⟩) h.lt).trans (h.cell i hi),nP h.lt hb.size⟩
def j6.at{w:yp}(h:j6 w){k:Nat}(hk:k<5):w.cell? ⟨3,k,none⟩=some (.int .u64 (Gh[k]! : Nat)):=h.cell k hk
def aBQ(v:Nat)(ab:v<18446744073709551616)(w:yp) :
  Calls prog 174 #[.int .u64 v] w λe w'=>∃r,cu r (bJ v)/\e = .returned (.agg (av r).toArray)/\Below w.heap.size w w':=by
 go_enter func174,ntmps174
 go_wp2
 rw [Il v ab]
 have hE:cu [v%2251799813685248,v/2251799813685248,0,0,0] (bJ v):=cu.Lt (by omega) (by omega) (by omega) (by omega) (by omega) (by congr 1;rw [qX];omega)
 refine bodyPost_ret (results_cell_row rfl _ _ w.heap.size 234 _ (0,0) _ rfl (heap_alloc_new w _) A7 rfl (Gc _ rfl)) rfl ⟨_,hE,rfl,?_⟩;exact(Below.refl _ _).alloc (aQ _) _
def akP(m:Nat)(h:m<256):bits .and .u8 (m:Int) 248=((m/8*8:Nat):Int):=by
 have key:∀m:Nat,m<256->bits .and .u8 (m:Int) 248=((m/8*8:Nat):Int):=by decide +kernel
 exact key m h
def avM(m:Nat)(h:m<256):bits .or .u8 ((m%128:Nat):Int) 64=((m%64+64:Nat):Int):=by
 have key:∀m:Nat,m<256->bits .or .u8 ((m%128:Nat):Int) 64=((m%64+64:Nat):Int):=by decide +kernel
 exact key m h
def X0{d:ae}(h:d.length=32){k:Nat}(hk:k<32)(x:UInt8):(eM kT 0 d).set k x=eM kT 0 (d.set k x):=by simp only [eM,h,jO,DG,lD];rw [List.set_append_left _ _ (by omega)]
def XY{d:ae}(h:d.length=32){k:Nat}(hk:k<32):(eM kT 0 d)[k]! = d[k]!:=by simp only [eM,DG,lD];rw [getElem!_pos _ k (by rw [aV];omega),getElem!_pos _ k (by omega),PH]
structure eI(w:yp):Prop where
  tw:j6 w
  sh:fV w
def eI.below{w w':yp}(h:eI w)(hb:Below w.heap.size w w'):eI w':=⟨h.tw.below hb,h.sh.below hb⟩
def ac2(seed:ae):hB (Ed.mul bP (le (o9 seed)%cd) base)=o8 seed:=by unfold o8;generalize le (o9 seed)=n;exact congrArg hB (Ed.mul_mod dn wT order n).symm
def aB9{seed m:ae}:le (gQ eQ (FV seed++([]++m)))%cd=Gb seed m:=rfl
def agE(seed m:ae):Gb seed m<cd:=Fl _
def agB{R key m:ae}:le (gQ eQ (R++(key++m)))%cd=Bh R key m:=rfl
def agC(R key m:ae):Bh R key m<cd:=Fl _
def aBA{seed m:ae}:(Gb seed m+Bh (wX seed m) (o8 seed) m*(le (o9 seed)%cd)%cd)%cd=yq seed m:=by rw [yq,oP,Nat.add_mod_mod]
def aBF{seed m:ae}:eM (eM kT 0 (wX seed m)) 32 (Nums.bytes 32 (yq seed m))=uJ seed m:=by
 have h1:=Fv seed m;have h2:=ld 32 (yq seed m);have e:eM kT 0 (wX seed m)=wX seed m++aB 32 0:=by rw [eM,h1];simp [kT]
 rw [e,eM,h2,KU (by rw [h1];exact aQ _),kE (by rw [h1];exact aQ _),um (by rw [aV,h1,nb];exact aQ _),fj];rfl
open Classical in
noncomputable def w6(key sig m:ae):Bool:=decide (jj key sig m)
open Classical in
def ayZ{key sig m:ae}(h:¬ ∃A,Ed.c9 bP A/\hB A=key):w6 key sig m=false:=decide_eq_false λ⟨A,h1,h2,_⟩=>h ⟨A,h1,h2⟩
open Classical in
def az0{A:Ed.bz p}{sig m:ae}(hA:Ed.c9 bP A)(h:Ed.mul bP 8 A=Ed.zero):w6 (hB A) sig m=false:=decide_eq_false λ⟨B,h1,h2,h3,_⟩=>h3 (by rw [PY h1 hA h2];exact h)
open Classical in
def ayX{key sig m:ae}(h:¬le (sig.drop 32)<cd):w6 key sig m=false:=decide_eq_false λ⟨_,_,_,_,h4,_⟩=>h h4
def ayY{A:Ed.bz p}{sig m:ae}(hA:Ed.c9 bP A)(h8:Ed.mul bP 8 A≠Ed.zero)(bm:le (sig.drop 32)<cd) :
  w6 (hB A) sig m=decide (hB (Ed.add bP (Ed.mul bP (le (Nums.bytes 32 (le (sig.drop 32)))) base) (Ed.mul bP (le (Nums.bytes 32 (Bh (sig.take 32) (hB A) m))) (Ed.neg A)))=sig.take 32):=by
 rw [Pm bm,Pm (agC _ _ _),Ed.mul_neg dn hA]
 unfold w6
 rw [decide_eq_decide]
 constructor
 .rintro⟨B,h1,h2,_,_,h5⟩;obtain rfl:=PY h1 hA h2;exact h5
 .exact λh=>⟨A,hA,rfl,h8,bm,h⟩
def agN{A:Ed.bz p}(hA:Ed.c9 bP A):hB (Ed.mul bP 8 A)=hB Ed.zero↔Ed.mul bP 8 A=Ed.zero :=
 ⟨λh=>PY (Ed.qJ dn hA 8) Ed.DC h,λh=>by rw [h]⟩
def MO:ae:=aB 32 0
def Dz(d k:ae):ae:=gQ cg ([[3],d,k]:aX).flatten
def sd(ks:aX):ae:=ks.foldl Dz MO
def jF(ks:aX):ae:=gQ cg ([[2],br ks.length,sd ks]:aX).flatten
def yG(m:ae):(gQ cg m).length=32:=nT m
theorem Np(ks:aX):(sd ks).length=32:=by
 unfold sd;rw [List.foldl_eq_foldr_reverse];cases ks.reverse with
 | nil=>rfl
 | cons k r=>exact yG _
def X4{ks:aX}{i:Nat}{k:ae}(h:ks[i]?=some k):sd (ks.take (i+1))=Dz (sd (ks.take i)) k:=by unfold sd;rw [qw,h,List.foldl_append];rfl
structure UV where
  id:ae
  ver:Int
  key:ae
  sig:ae
abbrev cS:=List UV
def UV.parts(u:UV):cJ:=[.agg 32 (By u.id).toArray,.one (.v (.int .i64 u.ver)),.agg 32 (By u.key).toArray,.agg 64 (By u.sig).toArray]
abbrev dT(u:UV):aL:=.p u.parts
structure UV.aI(u:UV):Prop where
  id:u.id.length=32
  key:u.key.length=32
  sig:u.sig.length=64
def UV.aI.ig{u:UV}(h:u.aI):ch u.parts:=λp hp=>by
 simp only [UV.parts,bT,xG,or_false] at hp;rcases hp with rfl|rfl|rfl|rfl
 .exact(cq h.id).1 _ (bU.2 rfl)
 .exact⟨trivial,rfl,rfl⟩
 .exact(cq h.key).1 _ (bU.2 rfl)
 .exact(cq h.sig).1 _ (bU.2 rfl)
def GM{u:UV}(h:u.aI):ch (dT u).fA/\(dT u).cp.length=129:=⟨h.ig,by rw [aL.cp,show(dT u).den.cells=a7 u.parts from rfl,Array.length_toList,ch.size h.ig];rfl⟩
def mT(z:Int):Nat:=(IntKind.u64.wrap z).toNat
def Wr(z:Int):mT z<18446744073709551616:=by unfold mT;rw [Ws];omega
def ahH(z:Int):IntKind.u64.wrap z=(mT z:Int):=by unfold mT;rw [Ws];omega
def mu(v:Int)(k:ae):ae:=br (mT v)++k
def Ng{v:Int}{k:ae}(h:k.length=32):(mu v k).length=40:=by unfold mu;rw [aV,nQ,h]
noncomputable def eV(u:UV):Bool:=decide (1<=u.ver/\u.ver<=64)&&w6 u.id u.sig (msg 1 (mu u.ver u.key))
noncomputable def uO(seed:ae)(v:Int)(k:ae):UV:=⟨o8 seed,v,k,uJ seed (msg 1 (mu v k))⟩
def abY(seed:ae)(v:Int){k:ae}(h:k.length=32):(uO seed v k).aI:=⟨Vc _,h,ae7 _ _⟩
open Classical in
def az2(seed:ae)(m:ae):w6 (o8 seed) (uJ seed m) m=true:=by unfold w6;exact decide_eq_true (aE4 seed m)
def aBG(seed:ae)(v:Int)(k:ae):eV (uO seed v k)=decide (1<=v/\v<=64):=by unfold eV uO;dsimp only;rw [az2,Bool.and_true]
def jE(u:UV):ae:=u.id++(mu u.ver u.key++u.sig)
def fk(us:cS):ae:=br us.length++(us.map jE).flatten
def aDY{u:UV}(h:u.aI):(jE u).length=136:=by unfold jE;rw [aV,aV,Ng h.key,h.id,h.sig]
theorem Wx:∀{us:cS},(∀u∈us,u.aI)->((us.map jE).flatten).length=136*us.length
 | [],_=>rfl
 | u::us,h=>by rw [eZ,wE,aV,aDY (h u eh),Wx λx hx=>h x (dS _ hx),fL];omega
def Ej{us:cS}(h:∀u∈us,u.aI):(fk us).length=8+136*us.length:=by unfold fk;rw [aV,nQ,Wx h]
def ahW{us:cS}{i:Nat}{u:UV}(h:us[i]?=some u):((us.take (i+1)).map jE).flatten=((us.take i).map jE).flatten++jE u:=by rw [qw,h];simp
def LQ(x:ae):ae:=x++aB (32-x.length) 0
def lh(s:cf):ae:=LQ (lS 32 s)
def dM(s:cf):cf:=rl 32 s
def ED(s:cf):(lh s).length=32:=by have:=(Gd 32 s).1;simp [lh,LQ];omega
def NX{s:cf}(h:(dM s).2=0):s.2=0/\s.1=lh s++(dM s).1:=by
 obtain⟨h1,h2,h3⟩:=QZ h;refine⟨h1,?_⟩;have e:lh s=lS 32 s:=by simp [lh,LQ,h2]
 rw [e];exact h3
def uZ(s:cf):Nat:=q8 (dM s)
def uY(s:cf):UV:=⟨lh s,IntKind.i64.wrap (uZ s:Int),lh (ko (dM s)),yh (dM (ko (dM s)))⟩
def sZ(s:cf):cf:=zG (dM (ko (dM s)))
def ahV(s:cf):(uY s).aI:=⟨ED _,ED _,agD _⟩
def iM(s:cf):Nat->cf
  | 0=>s
  | i+1=>sZ (iM s i)
def aDU{s:cf}(h:s.2≠0):sZ s=s:=by have h1:dM s=s:=(Bk h).2;have h2:ko s=s:=(Bk h).2;have h3:zG s=s:=(Bk h).2;unfold sZ;rw [h1,h2,h1,h3]
theorem V6{s:cf}{i:Nat}(h:(iM s i).2≠0):∀d,iM s (i+d)=iM s i
 | 0=>rfl
 | d+1=>by have h1:=V6 h d;show sZ (iM s (i+d))=_;rw [h1,aDU h]
def agQ{s:cf}{n i:Nat}(h:(iM s n).2=0)(hi:i<=n):(iM s i).2=0:=by
 by_cases h1:(iM s i).2=0
 .exact h1
 .have h2:=V6 h1 (n-i);rw [show i+(n-i)=n by omega] at h2;rw [h2] at h;exact absurd h h1
def u6(s:cf)(n:Nat):cS:=(dV n).map λi=>uY (iM s i)
def ahX(s:cf)(n:Nat):(u6 s n).length=n:=by simp [u6]
def ahY(s:cf)(n:Nat):u6 s (n+1)=u6 s n++[uY (iM s n)]:=by unfold u6;rw [List.range_succ,jl];rfl
def zq(s:cf):aK
  | 0=>0
  | n+1=>max (zq s n) (uZ (iM s n))
def aDV(s:cf):uZ s<18446744073709551616:=av5 _
def aDX{s:cf}(h:(sZ s).2=0):s.2=0/\s.1=jE (uY s)++(sZ s).1:=by obtain⟨h1,e1⟩:=aBC h;obtain⟨h2,e2⟩:=NX h1;obtain⟨h3,e3⟩:=acH h2;obtain⟨h4,e4⟩:=NX h3;refine⟨h4,?_⟩;unfold jE mu mT uY;dsimp only;rw [aG1 (aDV s),ei,ei,ei];show _=lh s++(br (q8 (dM s))++(lh (ko (dM s))++(yh (dM (ko (dM s)))++(zG (dM (ko (dM s)))).1)));rw [<-e1,<-e2,<-e3];exact e4
theorem aBW{s:cf}{n:Nat}(h:(iM s n).2=0):s.1=((u6 s n).map jE).flatten++(iM s n).1:=by
 induction n with
 | zero=>rfl
 | succ n ih =>
  have h2:=ih (agQ h (Nat.le_succ n));obtain⟨_,g2⟩:=aDX (s:=iM s n) h;rw [ahY,jl,List.flatten_append];simp only [eZ,List.map_nil,wE,List.flatten_nil,fj];rw [ei]
  show s.1=_++(jE (uY (iM s n))++(sZ (iM s n)).1)
  rw [<-g2];exact h2
def iL(l:ae):cf:=kA 65536 (l,0)
def vz(l:ae):Nat:=kO 65536 (l,0)
def y9(l:ae):cf:=iM (iL l) (vz l)
def ma(l:ae):Nat:=if kG (y9 l)=0 then(if 64<zq (iL l) (vz l) then 13 else 0) else kG (y9 l)
def mE(l:ae):cS:=if ma l=0 then u6 (iL l) (vz l) else []
def aqY{l:ae}(h:ma l=0):kG (y9 l)=0/\zq (iL l) (vz l)<=64:=by
 unfold ma at h;split at h
 .rename_i h1
  refine⟨h1,?_⟩;split at h
  .cases h
  .omega
 .exact absurd h (by assumption)
def al6{l:ae}(h:ma l=0):fk (mE l)=l:=by obtain⟨h1,_⟩:=aqY h;obtain⟨h2,h3⟩:=Nz h1;have h4:=aBW (s:=iL l) (n:=vz l) h2;have h5:(iL l).2=0:=agQ (i:=0) h2 (bl _);obtain⟨_,_,_,h7⟩:=Pf h5;unfold mE fk;rw [if_pos h,ahX];have h8:(iM (iL l) (vz l)).1=[]:=h3;rw [h8,fj] at h4;rw [<-h4];exact h7.symm
def aqZ{l:ae}{k:Nat}(hk:k<=vz l)(h:(iM (iL l) k).2≠0\/k=vz l):kG (iM (iL l) k)=kG (y9 l)/\(kG (y9 l)=0->k=vz l):=by
 rcases h with h|h
 .have h1:=V6 h (vz l-k);rw [show k+(vz l-k)=vz l by omega] at h1;have h2:y9 l=iM (iL l) k:=h1;rw [h2];refine⟨rfl,λh3=>?_⟩;exact absurd (Nz h3).1 h
 .subst h;exact⟨rfl,λ_=>rfl⟩
end Go.Proofs.Q
namespace Nums
def b7(k:ae)(n:Nat):Nat:=(k[n/8]!).toNat/2^(7-n%8)%2
def eP:ae->ae->Bool
  | a::az,b::bs=>if a=b then eP az bs else decide (a.toNat<b.toNat)
  | _,_=>false
abbrev dD:=ae×ae
abbrev dm:=List dD
def ed:dm->dD->dm
  | [],p=>[p]
  | q::r,p=>if eP q.1 p.1 then q::ed r p else if q.1=p.1 then p::r else p::q::r
def uQ(l:dm)(k:ae):Option ae:=(l.find? λq=>q.1==k).map (·.2)
def dx:ae:=aB 32 0
def qW(p:dD):ae:=gQ cg (0::(p.1++p.2))
def mz(a b:ae):ae:=gQ cg (1::(a++b))
def iw:Nat->dm->ae
  | _,[]=>dx
  | _,[p]=>qW p
  | 0,_::_::_=>dx
  | r+1,p::q::l=>mz (iw r ((p::q::l).filter λx=>b7 x.1 (255-r)==0)) (iw r ((p::q::l).filter λx=>b7 x.1 (255-r) != 0))
theorem sb:∀a:ae,eP a a=false
 | []=>rfl
 | a::az=>by unfold eP;rw [if_pos rfl];exact sb az
theorem BJ:∀{a b c:ae},eP a b=true->eP b c=true->eP a c=true
 | [],_,_,h,_=>by cases ‹ae› <;> cases h
 | _::_,[],_,h,_=>by cases h
 | _::_,_::_,[],_,h=>by cases h
 | a::az,b::bs,c::cs,h,k=>by
  unfold eP at h k ⊢;by_cases e1:a=b
  .subst e1
   rw [if_pos rfl] at h;by_cases e2:a=c
   .rw [if_pos e2] at k ⊢;exact BJ h k
   .rw [if_neg e2] at k ⊢;exact k
  .rw [if_neg e1] at h
   have h:=of_decide_eq_true h;by_cases e2:b=c
   .subst e2;rw [if_neg e1];exact decide_eq_true h
   .rw [if_neg e2] at k
    have k:=of_decide_eq_true k;have e3:a≠c:=λe=>by subst e;omega
    rw [if_neg e3];exact decide_eq_true (by omega)
theorem C8:∀{a b:ae},a.length=b.length->eP a b=false->a≠b->eP b a=true
 | [],[],_,_,h=>absurd rfl h
 | [],_::_,h,_,_=>by cases h
 | _::_,[],h,_,_=>by cases h
 | a::az,b::bs,hl,h,hn=>by
  unfold eP at h ⊢;by_cases e:a=b
  .subst e;rw [if_pos rfl] at h ⊢;exact C8 (by simpa using hl) h λe=>hn (by rw [e])
  .rw [if_neg e] at h;rw [if_neg λx=>e x.symm];have h:=of_decide_eq_false h;have:a.toNat≠b.toNat:=λx=>e (Q3.1 x);exact decide_eq_true (by omega)
theorem UK{a b:ae}(h:eP a b=true):eP b a=false:=by
 cases hb:eP b a with
 | false=>rfl
 | true=>have:=BJ h hb;rw [sb] at this;cases this
def fK(l:dm):Prop:=l.Pairwise λp q=>eP p.1 q.1=true
def oh(l:dm):Prop:=∀p∈l,p.1.length=32
def fK.cons{p:dD}{l:dm}:fK (p::l)↔(∀q∈l,eP p.1 q.1=true)/\fK l:=qu
def fK.filter{l:dm}(h:fK l)(f:dD->Bool):fK (l.filter f):=List.Pairwise.filter f h
def oh.filter{l:dm}(h:oh l)(f:dD->Bool):oh (l.filter f):=λp hp=>h p (List.mem_filter.1 hp).1
theorem fK.ext:∀{l m:dm},fK l->fK m->(∀p,p∈l↔p∈m)->l=m
 | [],[],_,_,_=>rfl
 | [],q::m,_,_,h=>absurd ((h q).2 eh) (by simp)
 | p::l,[],_,_,h=>absurd ((h p).1 eh) (by simp)
 | p::l,q::m,hl,hm,h=>by
  obtain⟨h1,h2⟩:=fK.cons.1 hl;obtain⟨k1,k2⟩:=fK.cons.1 hm;have e:p=q:=by
   rcases bT.1 ((h p).1 eh) with e|hp
   .exact e
   .rcases bT.1 ((h q).2 eh) with e|hq
    .exact e.symm
    .have a:=h1 q hq;rw [UK (k1 p hp)] at a;cases a
  subst e;refine congrArg (p :: ·) (fK.ext h2 k2 λx=>⟨λhx=>?_,λhx=>?_⟩)
  .rcases bT.1 ((h x).1 (dS _ hx)) with e|lI
   .subst e;have a:=h1 x hx;rw [sb] at a;cases a
   .exact lI
  .rcases bT.1 ((h x).2 (dS _ hx)) with e|lI
   .subst e;have a:=k1 x hx;rw [sb] at a;cases a
   .exact lI
theorem fK.key{l:dm}(h:fK l){p q:dD}(hp:p∈l)(hq:q∈l)(e:p.1=q.1):p=q:=by
 induction l with
 | nil=>cases hp
 | cons x l ih =>
  obtain⟨h1,h2⟩:=fK.cons.1 h
  rcases bT.1 hp with e1|sC<;>rcases bT.1 hq with e2|Au
  .rw [e1,e2]
  .have:=h1 q Au;rw [<-e1,<-e,sb] at this;cases this
  .have:=h1 p sC;rw [<-e2,e,sb] at this;cases this
  .exact ih h2 sC Au
theorem Ig:∀{l:dm} {p:dD},fK l->oh l->p.1.length=32->∀x,x∈ed l p↔x=p\/(x∈l/\x.1≠p.1)
 | [],p,_,_,_,x=>by simp [ed]
 | q::l,p,hs,hk,hp,x=>by
  obtain⟨h1,h2⟩:=fK.cons.1 hs;have hq:q.1.length=32:=hk q eh;have fI:oh l:=λy hy=>hk y (dS _ hy);unfold ed;by_cases h:eP q.1 p.1=true
  .rw [if_pos h,bT,Ig h2 fI hp x,bT]
   have b8:q.1≠p.1:=λe=>by rw [e,sb] at h;cases h
   constructor
   .rintro(rfl|rfl|⟨a,b⟩)
    .exact .inr ⟨.inl rfl,b8⟩
    .exact .inl rfl
    .exact .inr ⟨.inr a,b⟩
   .rintro(rfl|⟨rfl|a,b⟩)
    .exact .inr (.inl rfl)
    .exact .inl rfl
    .exact .inr (.inr ⟨a,b⟩)
  .rw [if_neg h]
   by_cases e:q.1=p.1
   .rw [if_pos e,bT,bT]
    constructor
    .rintro(rfl|a)
     .exact .inl rfl
     .exact .inr ⟨.inr a,λe2=>by have:=h1 x a;rw [e,e2,sb] at this;cases this⟩
    .rintro(rfl|⟨rfl|a,b⟩)
     .exact .inl rfl
     .exact absurd e b
     .exact .inr a
   .rw [if_neg e,bT,bT]
    have EM:=C8 (by rw [hq,hp]) (by simpa using h) e;constructor
    .rintro(rfl|rfl|a)
     .exact .inl rfl
     .exact .inr ⟨.inl rfl,e⟩
     .exact .inr ⟨.inr a,λe2=>by have:=BJ EM (h1 x a);rw [e2,sb] at this;cases this⟩
    .rintro(rfl|⟨rfl|a,b⟩)
     .exact .inl rfl
     .exact .inr (.inl rfl)
     .exact .inr (.inr a)
theorem Ln:∀{l:dm} {p:dD},fK l->oh l->p.1.length=32->fK (ed l p)
 | [],p,_,_,_=>by simp [ed,fK]
 | q::l,p,hs,hk,hp=>by
  obtain⟨h1,h2⟩:=fK.cons.1 hs;have hq:q.1.length=32:=hk q eh;have fI:oh l:=λy hy=>hk y (dS _ hy);unfold ed;by_cases h:eP q.1 p.1=true
  .rw [if_pos h]
   refine fK.cons.2 ⟨λx hx=>?_,Ln h2 fI hp⟩;rcases(Ig h2 fI hp x).1 hx with rfl|hx
   .exact h
   .exact h1 x hx.1
  .rw [if_neg h]
   by_cases e:q.1=p.1
   .rw [if_pos e];exact fK.cons.2 ⟨λx hx=>by rw [<-e];exact h1 x hx,h2⟩
   .rw [if_neg e]
    have EM:=C8 (by rw [hq,hp]) (by simpa using h) e;refine fK.cons.2 ⟨λx hx=>?_,hs⟩;rcases bT.1 hx with rfl|hx
    .exact EM
    .exact BJ EM (h1 x hx)
def Pn{l:dm}{k v:ae}(hs:fK l):uQ l k=some v↔(k,v)∈l:=by
 unfold uQ;constructor
 .intro h
  cases hf:l.find? (λq=>q.1==k) with
  | none=>rw [hf] at h;cases h
  | some q =>
   rw [hf] at h;simp only [kF,iv] at h;have h1:=List.find?_some hf;have h2:=mW hf
   have e:q.1=k:=by simpa using h1
   subst e;subst h;exact h2
 .intro h
  cases hf:l.find? (λq=>q.1==k) with
  | none =>
   have:=mM.1 hf (k,v) h
   simp at this
  | some q =>
   have h1:=List.find?_some hf;have h2:=mW hf
   have e:q.1=k:=by simpa using h1
   have:=hs.key h2 h e;subst this
   rfl
def Po{l:dm}{k:ae}:uQ l k=none↔∀q∈l,q.1≠k:=by unfold uQ;rw [Option.map_eq_none_iff,mM];simp
def sj(k:ae)(n:Nat):b7 k n<2:=ke _ (by decide)
def aEC(a b:Nat)(ha:a<256)(hb:b<256)(h:∀j,j<8->a/2^(7-j)%2=b/2^(7-j)%2):a=b:=by have h0:=h 0 (by decide);have h1:=h 1 (by decide);have h2:=h 2 (by decide);have h3:=h 3 (by decide);have h4:=h 4 (by decide);have h5:=h 5 (by decide);have h6:=h 6 (by decide);have h7:=h 7 (by decide);simp only [Nat.reduceSub,fH] at h0 h1 h2 h3 h4 h5 h6 h7;omega
def aeD(k:ae)(i j:Nat)(hj:j<8):b7 k (8*i+j)=(k[i]!).toNat/2^(7-j)%2:=by unfold b7;rw [show(8*i+j)/8=i by omega,show(8*i+j)%8=j by omega]
def FR(d:Nat)(a b:ae):Prop:=∀n,n<d->b7 a n=b7 b n
def FR.all{a b:ae}(ha:a.length=32)(hb:b.length=32)(h:FR 256 a b):a=b:=by
 apply qv (by rw [ha,hb]);intro i h1 h2;have e:=aEC (a[i]!).toNat (b[i]!).toNat (ur _) (ur _) λj hj=>by rw [<-aeD a i j hj,<-aeD b i j hj];exact h _ (by omega)
 have e:=Q3.1 e;rw [getElem!_pos a i h1,getElem!_pos b i h2] at e;exact e
def lF(d:Nat)(l:dm):Prop:=∀p∈l,∀q∈l,FR d p.1 q.1
def dh(d:Nat)(l:dm):dm:=l.filter λx=>b7 x.1 d==0
def dd(d:Nat)(l:dm):dm:=l.filter λx=>b7 x.1 d != 0
def Ci{d:Nat}{l:dm}{x:dD}:x∈dh d l↔x∈l/\b7 x.1 d=0:=by simp [dh]
def BN{d:Nat}{l:dm}{x:dD}:x∈dd d l↔x∈l/\b7 x.1 d≠0:=by simp [dd]
def lF.left{d:Nat}{l:dm}(h:lF d l):lF (d+1) (dh d l):=λp hp q hq n hn=>by
 obtain⟨hp,bp⟩:=Ci.1 hp;obtain⟨hq,bq⟩:=Ci.1 hq;by_cases e:n=d
 .subst e;rw [bp,bq]
 .exact h p hp q hq n (by omega)
def lF.right{d:Nat}{l:dm}(h:lF d l):lF (d+1) (dd d l):=λp hp q hq n hn=>by
 obtain⟨hp,bp⟩:=BN.1 hp;obtain⟨hq,bq⟩:=BN.1 hq;by_cases e:n=d
 .subst e;have:=sj p.1 n;have:=sj q.1 n;omega
 .exact h p hp q hq n (by omega)
theorem lF.one{l:dm}(hs:fK l)(hk:oh l)(h:lF 256 l):l.length<=1:=by
 match l,hs,hk,h with
 | [],_,_,_=>decide
 | [_],_,_,_=>exact aQ _
 | p::q::l,hs,hk,h =>
  have e:=(h p (by simp) q (by simp)).all (hk p (by simp)) (hk q (by simp));have:=(fK.cons.1 hs).1 q (by simp);rw [e,sb] at this
  cases this
def HZ{d:Nat}{l:dm}{p:dD}(hs:fK l)(hk:oh l)(hp:p.1.length=32):dh d (ed l p)=if b7 p.1 d=0 then ed (dh d l) p else dh d l:=by
 refine fK.ext ((Ln hs hk hp).filter _) (by split;exact Ln (hs.filter _) (hk.filter _) hp;exact hs.filter _) λx=>?_;rw [Ci,Ig hs hk hp];split
 .rename_i e
  rw [Ig (l:=dh d l) (hs.filter _) (hk.filter _) hp,Ci];constructor
  .rintro⟨rfl|⟨a,b⟩,c⟩
   .exact .inl rfl
   .exact .inr ⟨⟨a,c⟩,b⟩
  .rintro(rfl|⟨⟨a,c⟩,b⟩)
   .exact⟨.inl rfl,e⟩
   .exact⟨.inr ⟨a,b⟩,c⟩
 .rename_i e
  rw [Ci];constructor
  .rintro⟨rfl|⟨a,b⟩,c⟩
   .exact absurd c e
   .exact⟨a,c⟩
  .rintro⟨a,c⟩;exact⟨.inr ⟨a,λe2=>e (by rw [<-e2];exact c)⟩,c⟩
def HH{d:Nat}{l:dm}{p:dD}(hs:fK l)(hk:oh l)(hp:p.1.length=32):dd d (ed l p)=if b7 p.1 d=0 then dd d l else ed (dd d l) p:=by
 refine fK.ext ((Ln hs hk hp).filter _) (by split;exact hs.filter _;exact Ln (hs.filter _) (hk.filter _) hp) λx=>?_;rw [BN,Ig hs hk hp];split
 .rename_i e
  rw [BN];constructor
  .rintro⟨rfl|⟨a,b⟩,c⟩
   .exact absurd e c
   .exact⟨a,c⟩
  .rintro⟨a,c⟩;exact⟨.inr ⟨a,λe2=>c (by rw [e2];exact e)⟩,c⟩
 .rename_i e
  rw [Ig (l:=dd d l) (hs.filter _) (hk.filter _) hp,BN];constructor
  .rintro⟨rfl|⟨a,b⟩,c⟩
   .exact .inl rfl
   .exact .inr ⟨⟨a,c⟩,b⟩
  .rintro(rfl|⟨⟨a,c⟩,b⟩)
   .exact⟨.inl rfl,e⟩
   .exact⟨.inr ⟨a,b⟩,c⟩
theorem O7{r:Nat}{l:dm}(h:2<=l.length):iw (r+1) l=mz (iw r (dh (255-r) l)) (iw r (dd (255-r) l)):=by
 match l,h with
 | p::q::l,_=>rfl
def Lm(r:Nat):iw r []=dx:=by cases r<;>rfl
def HY(r:Nat)(p:dD):iw r [p]=qW p:=by cases r<;>rfl
abbrev yv:=ae×aX
abbrev bZ:=List yv
def cB(l:bZ)(id:ae):aX:=match l.find? λe=>e.1==id with
  | some e=>e.2
  | none=>[]
def kk:bZ->ae->aX->bZ
  | [],id,ks=>[(id,ks)]
  | e::l,id,ks=>if eP e.1 id then e::kk l id ks else if e.1=id then(id,ks)::l else(id,ks)::e::l
structure wm where
  id:ae
  version:Int
  key:ae
  signed:Bool
def pe(l:bZ)(u:wm):Bool:=u.signed&&decide (u.version=(cB l u.id).length+1)
def kJ(l:bZ)(u:wm):bZ:=if pe l u=true then kk l u.id (cB l u.id++[u.key]) else l
def ej(l:bZ)(us:List wm):bZ:=us.foldl kJ l
structure dj(l:bZ):Prop where
  sort:l.Pairwise λa b=>eP a.1 b.1=true
  ids:∀e∈l,e.1.length=32
  some:∀e∈l,e.2≠[]
  keys:∀e∈l,∀k∈e.2,k.length=32
def dj.nil:dj []:=⟨qE,by simp,by simp,by simp⟩
def dj.tail{e:yv}{l:bZ}(h:dj (e::l)):dj l:=⟨(qu.1 h.sort).2,λx hx=>h.ids x (.tail _ hx),λx hx=>h.some x (.tail _ hx),λx hx=>h.keys x (.tail _ hx)⟩
theorem Ih:∀{l:bZ} {id:ae} {ks:aX} {x:yv},x∈kk l id ks->x=(id,ks)\/x∈l
 | [],id,ks,x,h=>.inl (bU.1 h)
 | e::l,id,ks,x,h=>by
  unfold kk at h;split at h
  .rcases bT.1 h with h|h
   .exact .inr (h ▸ .head _)
   .exact(Ih h).imp_right (.tail _)
  .split at h
   .rcases bT.1 h with h|h
    .exact .inl h
    .exact .inr (.tail _ h)
   .exact(bT.1 h)
theorem ae8:∀{l:bZ} {id:ae} {ks:aX},dj l->id.length=32->(kk l id ks).Pairwise λa b=>eP a.1 b.1=true
 | [],_,_,_,_=>List.pairwise_singleton _ _
 | e::l,id,ks,h,hi=>by
  have h1:=qu.1 h.sort;unfold kk;split
  .rename_i al
   refine qu.2 ⟨λx hx=>?_,ae8 h.tail hi⟩;rcases Ih hx with rfl|hx
   .exact al
   .exact h1.1 x hx
  .rename_i al
   split
   .rename_i he;exact qu.2 ⟨λx hx=>he▸h1.1 x hx,h1.2⟩
   .rename_i he
    have h2:eP id e.1=true:=C8 (by rw [hi,h.ids e (.head _)]) (by simpa using al) he;refine qu.2 ⟨λx hx=>?_,h.sort⟩;rcases bT.1 hx with rfl|hx
    .exact h2
    .exact BJ h2 (h1.1 x hx)
def dj.put{l:bZ}{id:ae}{ks:aX}(h:dj l)(hi:id.length=32)(hk:ks≠[])(fl:∀k∈ks,k.length=32):dj (kk l id ks):=⟨ae8 h hi,λx hx=>by
 rcases Ih hx with rfl|hx
 .exact hi
 .exact h.ids x hx,λx hx=>by
 rcases Ih hx with rfl|hx
 .exact hk
 .exact h.some x hx,λx hx=>by
 rcases Ih hx with rfl|hx
 .exact fl
 .exact h.keys x hx⟩
def pU(e:yv)(l:bZ)(id:ae):cB (e::l) id=if e.1=id then e.2 else cB l id:=by
 unfold cB;rw [List.find?_cons];by_cases h:e.1=id
 .simp [h]
 .have:(e.1==id)=false:=by simpa using h
  simp [this,h]
def PD{l:bZ}{id:ae}(h:∀e∈l,eP id e.1=true):cB l id=[]:=by
 unfold cB;have:(l.find? λe=>e.1==id)=none:=mM.2 λe he h2=>by
  have h3:e.1=id:=by simpa using h2
  have h4:=h e he;rw [h3,sb] at h4;cases h4
 rw [this]
theorem Fm:∀{l:bZ} {id:ae} {ks:aX},∀x,cB (kk l id ks) x=if x=id then ks else cB l x
 | [],id,ks,x=>by
  show cB [(id,ks)] x=_;rw [pU];by_cases h:x=id
  .simp [h]
  .rw [if_neg (λh2=>h h2.symm),if_neg h]
 | e::l,id,ks,x=>by
  unfold kk;split
  .rename_i al
   have he:e.1≠id:=λh=>by rw [h,sb] at al;cases al
   rw [pU,pU,Fm x];by_cases hx:x=id
   .subst hx;rw [if_neg he,if_pos rfl,if_pos rfl]
   .rw [if_neg hx,if_neg hx]
  .split
   .rename_i he
    rw [pU,pU];by_cases hx:x=id
    .simp [hx]
    .rw [if_neg (λh2=>hx h2.symm),if_neg hx,if_neg (λh2=>hx (h2.symm.trans he))]
   .rw [pU]
    by_cases hx:x=id
    .simp [hx]
    .rw [if_neg (λh2=>hx h2.symm),if_neg hx]
theorem dj.ext:∀{l m:bZ},dj l->dj m->(∀x,cB l x=cB m x)->l=m
 | [],[],_,_,_=>rfl
 | [],e::m,_,hm,h=>by have h1:=h e.1;rw [pU,if_pos rfl] at h1;exact absurd h1.symm (hm.some e (.head _))
 | e::l,[],hl,_,h=>by have h1:=h e.1;rw [pU,if_pos rfl] at h1;exact absurd h1 (hl.some e (.head _))
 | e::l,f::m,hl,hm,h=>by
  have yr:=qu.1 hl.sort;have sm:=qu.1 hm.sort;have key:∀{a b:yv} {p q:bZ},dj (a::p)->dj (b::q)->(∀x,cB (a::p) x=cB (b::q) x)->eP a.1 b.1=true->False:=λ{a b p q} ha hb hx al=>by
   have h1:=hx a.1;rw [pU,if_pos rfl,PD (l:=b::q) (λy hy=>by
    rcases bT.1 hy with rfl|hy
    .exact al
    .exact BJ al ((qu.1 hb.sort).1 y hy))] at h1
   exact ha.some a (.head _) h1
  have he:e.1=f.1:=by
   by_cases h1:e.1=f.1
   .exact h1
   .cases h2:eP e.1 f.1 with
    | true=>exact(key hl hm h h2).elim
    | false=>exact(key hm hl (λx=>(h x).symm) (C8 (by rw [hl.ids e (.head _),hm.ids f (.head _)]) h2 h1)).elim
  have h2:e.2=f.2:=by
   have h1:=h e.1
   rwa [pU,if_pos rfl,pU,if_pos he.symm] at h1
  have h3:e=f:=Prod.ext he h2;subst h3;refine congrArg _ (dj.ext hl.tail hm.tail λx=>?_);by_cases hx:e.1=x
  .subst hx;rw [PD yr.1,PD sm.1]
  .have h1:=h x
   rwa [pU,pU,if_neg hx,if_neg hx] at h1
def PF{l:bZ}(h:dj l)(id:ae):∀k∈cB l id,k.length=32:=by
 unfold cB;split
 .rename_i e he;exact h.keys e (mW he)
 .exact λk hk=>by cases hk
def dj.step{l:bZ}{u:wm}(h:dj l)(hi:u.id.length=32)(hk:u.key.length=32):dj (kJ l u):=by
 unfold kJ;split
 .exact h.put hi (by simp) λk iD=>by
   rcases List.mem_append.1 iD with h2|h2
   .exact PF h _ k h2
   .rw [bU.1 h2];exact hk
 .exact h
def ae3(l:bZ)(u:wm)(x:ae):cB (kJ l u) x=if pe l u=true/\x=u.id then cB l u.id++[u.key] else cB l x:=by
 unfold kJ;by_cases h:pe l u=true
 .rw [if_pos h,Fm];simp [h]
 .rw [if_neg h,if_neg (λh2=>h h2.1)]
structure Gi(us:List wm):Prop where
  ids:∀u∈us,u.id.length=32
  keys:∀u∈us,u.key.length=32
def Gi.tail{u:wm}{us:List wm}(h:Gi (u::us)):Gi us:=⟨λx hx=>h.ids x (.tail _ hx),λx hx=>h.keys x (.tail _ hx)⟩
theorem dj.apply:∀{us:List wm} {l:bZ},dj l->Gi us->dj (ej l us)
 | [],_,h,_=>h
 | u::us,l,h,hu=>dj.apply (us:=us) (l:=kJ l u) (h.step (hu.ids u (.head _)) (hu.keys u (.head _))) hu.tail
def aDL(l:bZ)(us vs:List wm):ej l (us++vs)=ej (ej l us) vs:=List.foldl_append
def yd(id key:ae):bZ->Bool->bZ
  | [],done=>if done then [] else [(id,[key])]
  | e::l,done=>(if !done&&eP id e.1 then [(id,[key])] else [])++(e.1,if e.1=id then e.2++[key] else e.2)::yd id key l (done||eP id e.1||decide (e.1=id))
theorem Vd{id key:ae}:∀{l:bZ},(∀e∈l,e.1≠id)->yd id key l true=l
 | [],_=>rfl
 | e::l,h=>by show(e.1,if e.1=id then e.2++[key] else e.2)::yd id key l true=e::l;rw [if_neg (h e (.head _)),Vd λx hx=>h x (.tail _ hx)]
def Fz{a b:ae}(h:eP a b=true):b≠a:=λe=>by rw [e,sb] at h;cases h
theorem afX{id key:ae}(hi:id.length=32):∀{l:bZ},dj l->yd id key l false=kk l id (cB l id++[key])
 | [],_=>rfl
 | e::l,h=>by
  have h1:=qu.1 h.sort;by_cases a:eP e.1 id=true
  .have b:=UK a;have c:e.1≠id:=(Fz a).symm;unfold yd kk;have d:decide (e.1=id)=false:=decide_eq_false c;rw [b,if_pos a,if_neg c,d,pU,if_neg c,<-afX hi h.tail];rfl
  .by_cases c:e.1=id
   .subst c;unfold yd kk;rw [sb,if_neg (by simp),if_pos rfl,if_pos rfl,pU,if_pos rfl];simp only [Bool.or_self,decide_true,Bool.or_true,Bool.false_eq_true,if_false,lD];rw [Vd λx hx=>Fz (h1.1 x hx)]
   .have b:eP id e.1=true:=C8 (by rw [hi,h.ids e (.head _)]) (by simpa using a) c
    unfold yd kk;rw [b,if_neg a,if_neg c,if_neg c,PD (l:=e::l) (λx hx=>by
     rcases bT.1 hx with rfl|hx
     .exact b
     .exact BJ b (h1.1 x hx))]
    show [(id,[key])]++(e.1,e.2)::yd id key l true=_;rw [Vd (l:=l) λx hx=>Fz (BJ b (h1.1 x hx))];rfl
def uI(z:bZ)(es:bZ):bZ:=es.foldl (λz e=>if e.2=[] then z else kk z e.1 e.2) z
theorem dj.build:∀{es:bZ} {z:bZ},dj z->(∀e∈es,e.1.length=32)->(∀e∈es,∀k∈e.2,k.length=32)->dj (uI z es)
 | [],_,h,_,_=>h
 | e::es,z,h,h1,h2=>by
  show dj (uI (if e.2=[] then z else kk z e.1 e.2) es);refine dj.build ?_ (λx hx=>h1 x (.tail _ hx)) λx hx=>h2 x (.tail _ hx);split
  .exact h
  .rename_i hn;exact h.put (h1 e (.head _)) hn (h2 e (.head _))
def Ve{l:bZ}{x:ae}(h:∀e∈l,e.1≠x):cB l x=[]:=by unfold cB;rw [mM.2 λe he h2=>h e he (by simpa using h2)]
theorem PE:∀{l:bZ} {e:yv},l.Pairwise (λa b=>a.1≠b.1)->e∈l->cB l e.1=e.2
 | [],_,_,h=>by cases h
 | a::l,e,hp,h=>by
  have h1:=qu.1 hp;rw [pU];rcases bT.1 h with rfl|h
  .rw [if_pos rfl]
  .rw [if_neg (h1.1 e h),PE h1.2 h]
theorem UL:∀{es:bZ},es.Pairwise (λa b=>a.1≠b.1)->∀(z:bZ) (x:ae),cB (uI z es) x=if cB es x=[] then cB z x else cB es x
 | [],_,_,_=>rfl
 | e::es,hp,z,x=>by
  have h1:=qu.1 hp;show cB (uI (if e.2=[] then z else kk z e.1 e.2) es) x=_;rw [UL h1.2,pU];by_cases hx:e.1=x
  .subst hx
   rw [if_pos rfl,if_pos (Ve λy hy=>(h1.1 y hy).symm)];by_cases hn:e.2=[]
   .rw [if_pos hn,if_pos hn]
   .rw [if_neg hn,if_neg hn,Fm,if_pos rfl]
  .rw [if_neg hx]
   by_cases hn:e.2=[]
   .rw [if_pos hn]
   .have e2:(if x=e.1 then e.2 else cB z x)=cB z x:=if_neg λh=>hx h.symm;rw [if_neg hn,Fm,e2]
end Nums
namespace Go.Proofs.Q
open Nums
def DP(e:yv):dD:=(e.1,jF e.2)
def dg(l:bZ):dm:=l.map DP
theorem Vf:∀(l:bZ) (id:ae) (ks:aX),dg (kk l id ks)=ed (dg l) (id,jF ks)
 | [],_,_=>rfl
 | e::l,id,ks=>by
  show dg (if eP e.1 id then e::kk l id ks else if e.1=id then(id,ks)::l else(id,ks)::e::l)=if eP e.1 id then DP e::ed (dg l) (id,jF ks) else if e.1=id then(id,jF ks)::dg l else(id,jF ks)::DP e::dg l;rw [<-Vf l id ks];split
  .rfl
  .split<;>rfl
def dj.AU{l:bZ}(h:dj l):fK (dg l)/\oh (dg l):=⟨List.pairwise_map.2 h.sort,λp hp=>by obtain⟨e,he,rfl⟩:=dv.1 hp;exact h.ids e he⟩
theorem YX:∀{l:bZ},dj l->∀id,uQ (dg l) id=if cB l id=[] then none else some (jF (cB l id))
 | [],_,_=>rfl
 | e::l,h,id=>by
  have ih:=YX h.tail id;rw [pU];show((DP e::dg l).find? λq=>q.1==id).map (·.2)=_;rw [List.find?_cons];by_cases c:e.1=id
  .have:((DP e).1==id)=true:=by simpa [DP] using c
   rw [this,if_pos c,if_neg (h.some e (.head _))];rfl
  .have:((DP e).1==id)=false:=by simpa [DP] using c
   rw [this,if_neg c];exact ih
open Go.RowKit Go.IntWalk
section
variable{T:eG}{b:bO}{ops:aZ}{Q:bK}{N:Nat}{G:aK}{S:cn}{E:aG}{L:aH}{R:bF}{F M:aE}{w0:yp}{T':aN}{Fa:Told}{i k:Nat}{o:yk}{rest:List (Nat×yk)}
def apS{ty:yn}(zs:ct)(hq:di o k N)(hf:mw i Fa=true)(ho:o.op = .alloc ty)(hz:(prog.info? ty).bind (λi=>i.zero.map (·.cells))=some zs)
 (hn:∀g,bm prog ops Q N T' G w0 rest ((k,.v (eE g))::E) ((i,λw=>w0.heap.size<=g/\bB w g ty zs)::Fa)):bm prog ops Q N T' G w0 ((i,o)::rest) E Fa:=λhE =>
 aoL zs w0.heap.size hq hf ho hz (λ_ h=>h.size) (λ_ _ _ h hb=>⟨h.1,h.2.later hb⟩) λg _ _ _ _=>hn g (hE.cons (v:=.v (eE g)) trivial)
def apU(aa:bj b G S L R F M w0){g:Nat}{ty:yn}{ai:cJ}(k i:Nat)(E':aG)(hi:Ie Fa i=some (λw=>w0.heap.size<=g/\bB w g ty (a7 ai)))(hk:dG E k=some (.v (eE g)))(hE':wh E' E)(ZJ:xE k E'=true)(hfL:tq k L=true)(bx:ch ai)
 (h:a9 prog b ops Q N T' ⟨(k,.a k 0)::E',⟨k,none,ty,ai⟩::L,R,F,M⟩):bm prog ops Q N T' G w0 [] E Fa:=λhE=>NH λw hw hF=>λa ha=>by
 obtain⟨h1,h2⟩:=hF i _ hi
 have lk:Fr N (bG (λj=>if j=k then g else G j) ((k,.a k 0)::E')) a:=ha.sub ⟨by rw [ou,hk];show some (rC (some ⟨g,0,none⟩))=some (rC (some ⟨if k=k then g else G k,0,none⟩));rw [if_pos rfl],by rw [Nq ZJ];exact JF hE'⟩
 have KN:=aa.news (E:=E') (gs:=λ_=>g) hw [⟨k,none,ty,ai⟩] (by simp [vl,ZJ,hfL,tq]) (λu hu=>by rw [bU.1 hu];exact bx) (λ_ _=>h1) (λi j hi hj b8=>absurd (show i=j by simp at hi hj;omega) b8) λu hu=>by rw [bU.1 hu];show bB w (if k=k then g else G k) ty (a7 ai);rw [if_pos rfl];exact h2
 exact h a w ⟨_,S,lk,jK.cons (wh.ok hE' hE) (v:=.a k 0) trivial,KN⟩
def ag0{P:ym}{id:Nat}{l:aN}(n:Nat)
 (h:∀G S w0,bj b G S L R F M w0->bm P l.toArray Q N (l.drop n) G w0 (idx 0 (l.take n)) E [])(aF:D3 l.toArray n (l.drop n).length=true:=by kernel_rfl)(hm:P.follows .mixedOrders=true:=by kernel_rfl)(hn:n<=l.length:=by decide):cN P b (.region id l.toArray true) Q N ⟨E,L,R,F,M⟩:=QD n (hn:=hn) (hm:=hm) (aF:=aF) λG S w0 aa=>h G S w0 aa
end
abbrev Lr(l:ae):fm Nat:={ ret:=λg=>.v (cj g l.length l.length),p:=λg=>ar 1 aY (some ⟨g,0,none⟩) l.length l }
abbrev FG(l:ae):fm Nat:={ ret:=λg=>.v (cj g l.length l.length),n:=λg=>ar 1 aY (some ⟨g,0,none⟩) l.length l }
def Spec.fc{f:FuncId}{args:cU}{F:aE}{l:ae}(h:Spec f args [] F (FG l)):Spec f args [] F (Lr l):=λw S X hs hX hF=>by
 refine(h w S X hs hX hF).mono ?_;rintro e w' ⟨x,S',h1,h2,h3,h4,h5,h6,h7⟩;refine⟨x,S',h1,h2,h3,h4,h5,h7.less λk _ hk=>?_, au⟩;rcases hk with hk|hk
 .exact .inl (hX k hk).1
 .exact .inr hk
instance{l:ae}{g:Nat}:dc ((Lr l).p g):=inferInstanceAs (dc (ar 1 aY (some ⟨g,0,none⟩) l.length l))
instance aIW:dc (λ_:yp=>True):=⟨λ_ _ _ _=>trivial⟩
instance{r:cM}{x:Unit}:dc ((one r).p x):=⟨λ_ _ _ _=>trivial⟩
def O8{l:ae}{x:Nat}{w:yp}(h:∃y,((Lr l).ret x).den=((Lr l).ret y).den/\(Lr l).p y w):ar 1 aY (some ⟨x,0,none⟩) l.length l w:=by obtain⟨y,e,hy⟩:=h;have e:Value.slice (some ⟨x,0,none⟩) l.length l.length = .slice (some ⟨y,0,none⟩) l.length l.length:=e;injection e with e;injection e with e;injection e with e;rw [e];exact hy
abbrev ah5(l:ae):fm (aO×Nat):={ ret:=λx=>.v (.slice x.1 l.length x.2),p:=λx=>ar 1 aY x.1 x.2 l }
instance{l:ae}{x:aO×Nat}:dc ((ah5 l).p x):=inferInstanceAs (dc (ar 1 aY x.1 x.2 l))
def Spec.avA{f:FuncId}{args:cU}{F:aE}{l:ae}(h:∀w,F w->Calls prog f args.toArray w (Made w l)):Spec f args [] F
  { ret:=λx:aO×Nat=>.v (.slice x.1 l.length x.2),own:=λx=>[bL 0 5 1 aY x.1 x.2 l] } :=
 Spec.abQ λw hF=>(h w hF).mono λ_ _ ⟨g,he,ho,hb⟩=>⟨some ⟨g,0,none⟩,l.length,he,ho,hb⟩
end Go.Proofs.Q
namespace Nums
def nq:aC->Nat
  | []=>0
  | x::r=>x+2*nq r
theorem Vq:∀(d:aC) (j v:Nat),j<d.length->nq (d.set j v)+d[j]! * 2^j=nq d+v*2^j
 | [],_,_,h=>by simp at h
 | x::r,0,v,_=>by simp only [List.set_cons_zero,nq,xW,Nat.mul_one];have:(x::r)[0]! = x:=rfl;rw [this];omega
 | x::r,j+1,v,h=>by
  have ih:=Vq r j v (by simpa using h);have e:(x::r)[j+1]! = r[j]!:=by simp
  rw [e,List.set_cons_succ,nq,nq,k8];have e1:r[j]! * (2^j*2)=2*(r[j]! * 2^j):=by rw [<-vk,oV _ 2]
  have e2:v*(2^j*2)=2*(v*2^j):=by rw [<-vk,oV _ 2]
  rw [e1,e2];omega
theorem aDI(n:Nat):nq (aB n 0)=0:=by
 induction n with
 | zero=>rfl
 | succ n ih=>rw [List.replicate_succ,nq,ih]
def aDJ{d:aC}{j:Nat}(h:j<d.length):nq (d.drop j)=d[j]! + 2*nq (d.drop (j+1)):=by rw [z9 h,nq,getElem!_pos d j h]
structure uc(N i:Nat)(f:Int)(d:aC):Prop where
  len:d.length=256
  sum:nq d=N%2^i
  hi:∀j,i<=j->j<256->d[j]! = 0
  odd:∀j,j<256->d[j]! = 0\/(d[j]! % 2=1/\d[j]! < 16)
  last:f = -4\/∃m:Nat,f=m/\m<i/\d[m]! < 2^(i-m)/\d[m]! % 2=1
def ai6(n j:Nat)(h:j<n):(aB n 0)[j]! = 0:=by rw [getElem!_pos _ j (by simpa using h)];simp
def uc.start(N:Nat):uc N 0 (-4) (aB 256 0) where
 len:=nb
 sum:=by rw [aDI,xW,Nat.mod_one]
 hi:=λj _ h=>ai6 256 j h
 odd:=λj h=>.inl (ai6 256 j h)
 last:=.inl rfl
def Vr(N i:Nat):N%2^(i+1)=N%2^i+N/2^i%2*2^i:=by rw [k8,Nat.mod_mul,oV (2^i)]
def uc.zero{N i:Nat}{f:Int}{d:aC}(h:uc N i f d)(hb:N/2^i%2=0):uc N (i+1) f d where
 len:=h.len
 sum:=by rw [h.sum,Vr,hb,Nat.zero_mul,jP]
 hi:=λj hj=>h.hi j (by omega)
 odd:=h.odd
 last:=h.last.imp id λ⟨m,h1,h2,h3,h4⟩=>⟨m,h1,by omega,nP h3 (Ex (by decide) (by omega)),h4⟩
def IB{d:aC}{j v:Nat}(h:j<d.length):(d.set j v)[j]! = v:=by rw [getElem!_pos _ j (by simpa using h)];simp
def Qz{d:aC}{j k v:Nat}(h:j≠k):(d.set j v)[k]! = d[k]!:=by simp only [List.getElem!_eq_getElem?_getD,List.getElem?_set_ne h]
def uc.fresh{N i:Nat}{f:Int}{d:aC}(h:uc N i f d)(hi:i<256)(hb:N/2^i%2=1):uc N (i+1) i (d.set i 1) where
 len:=by rw [jO,h.len]
 sum:=by have h1:=Vq d i 1 (by rw [h.len];exact hi);rw [h.hi i (aQ _) hi,h.sum] at h1;rw [Vr,hb];omega
 hi:=λj hj EO=>by rw [Qz (by omega)];exact h.hi j (by omega) EO
 odd:=λj hj=>by
  by_cases e:i=j
  .subst e;rw [IB (by rw [h.len];exact hi)];exact .inr ⟨by decide,by decide⟩
  .rw [Qz e];exact h.odd j hj
 last:=.inr ⟨i,rfl,by omega,by rw [IB (by rw [h.len];exact hi),show i+1-i=1 from by omega];decide,by rw [IB (by rw [h.len];exact hi)]⟩
def uc.more{N i m:Nat}{d:aC}(h:uc N i m d)(hi:i<256)(hb:N/2^i%2=1)(hm:i<m+4):m<i/\d[m]! < 2^(i-m)/\uc N (i+1) m (d.set m (d[m]! + 2^(i-m))):=by
 obtain⟨m',h1,h2,h3,h4⟩:∃m':Nat,(m:Int)=m'/\m'<i/\d[m']! < 2^(i-m')/\d[m']! % 2=1:=by
  rcases h.last with h1|h1
  .omega
  .exact h1
 obtain rfl:m=m':=by omega
 have qT:m<d.length:=by rw [h.len];omega
 have za:2^(i+1-m)=2^(i-m)*2:=by rw [show i+1-m=i-m+1 from by omega,k8]
 have hk:i-m=1\/i-m=2\/i-m=3:=by omega
 have aII:2^(i-m)*2<=16/\2^(i-m)%2=0:=by rcases hk with e|e|e<;>rw [e]<;>decide
 refine⟨h2,h3,⟨by rw [jO,h.len],?_,λj hj EO=>?_,λj hj=>?_,.inr ⟨m,rfl,by omega,?_,?_⟩⟩⟩
 .have e1:=Vq d m (d[m]! + 2^(i-m)) qT
  have e2:2^(i-m)*2^m=2^i:=by rw [<-wV];congr 1;omega
  rw [zj,e2,h.sum] at e1;rw [Vr,hb];omega
 .rw [Qz (by omega)];exact h.hi j (by omega) EO
 .by_cases e:m=j
  .subst e;rw [IB qT];exact .inr ⟨by omega,by omega⟩
  .rw [Qz e];exact h.odd j hj
 .rw [IB qT,za];omega
 .rw [IB qT];omega
namespace Ed
variable{n:Nat}[NeZero n]{d:Fin n}
def mS(d:Fin n):List (bz n)->Nat->aK->bz n
  | [],_,_=>zero
  | A::ai,i,f=>add d (mul d (f i) A) (mS d ai (i+1) f)
theorem IC(g:Good n d):∀{ai:List (bz n)},(∀A∈ai,c9 d A)->∀i f,c9 d (mS d ai i f)
 | [],_,_,_=>DC
 | A::ai,h,i,f=>zm g (qJ g (h A (by simp)) _) (IC g (λB aF=>h B (by simp [aF])) (i+1) f)
theorem Pl:∀{ai:List (bz n)} {i:Nat} {f f':aK},(∀j,i<=j->j<i+ai.length->f j=f' j)->mS d ai i f=mS d ai i f'
 | [],_,_,_,_=>rfl
 | A::ai,i,f,f',h=>by rw [mS,mS,h i (aQ _) (by simp),Pl (i:=i+1) (f:=f) (f':=f') λj h1 h2=>h j (by omega) (by simp;omega)]
theorem afT(g:Good n d):∀{ai:List (bz n)} {i:Nat} {f:aK},(∀j,i<=j->j<i+ai.length->f j=0)->mS d ai i f=zero
 | [],_,_,_=>rfl
 | A::ai,i,f,h=>by rw [mS,h i (aQ _) (by simp),Cx,zero_add g,afT g λj h1 h2=>h j (by omega) (by simp;omega)]
theorem ahI(g:Good n d):∀{ai:List (bz n)},(∀A∈ai,c9 d A)->∀(i:Nat) (f:aK),mS d ai i (λj=>2*f j)=add d (mS d ai i f) (mS d ai i f)
 | [],_,_,_=>(zero_add g zero).symm
 | A::ai,h,i,f=>by have hA:=h A (by simp);have hs:∀B∈ai,c9 d B:=λB aF=>h B (by simp [aF]);rw [mS,mS,ahI g hs (i+1) f,Nat.two_mul,mul_add g hA,ah2 g (qJ g hA _) (qJ g hA _) (IC g hs _ _) (IC g hs _ _)]
theorem afU(g:Good n d):∀{ai:List (bz n)},(∀A∈ai,c9 d A)->∀(i j v:Nat) (f f':aK) (A:bz n),ai[j]?=some A->f' (i+j)=f (i+j)+v->(∀k,k≠i+j->f' k=f k) ->
  mS d ai i f'=add d (mS d ai i f) (mul d v A)
 | [],_,_,_,_,_,_,A,hj,_,_=>by simp at hj
 | B::ai,h,i,0,v,f,f',A,hj,h1,h2=>by simp only [List.getElem?_cons_zero,iv] at hj;subst hj;have aF:=h B (by simp);have hs:∀B∈ai,c9 d B:=λB aF=>h B (by simp [aF]);rw [mS,mS,Pl (ai:=ai) (i:=i+1) (f:=f') (f':=f) λk h3 _=>h2 k (by omega)];rw [jP] at h1;rw [h1,mul_add g aF,add_assoc g (qJ g aF _) (qJ g aF _) (IC g hs _ _),add_assoc g (qJ g aF _) (IC g hs _ _) (qJ g aF _),add_comm (mul d v B)]
 | B::ai,h,i,j+1,v,f,f',A,hj,h1,h2=>by
  have aF:=h B (by simp);have hs:∀B∈ai,c9 d B:=λB aF=>h B (by simp [aF]);have hA:c9 d A:=hs A (eg (by simpa using hj));rw [mS,mS,afU g hs (i+1) j v f f' A (by simpa using hj) (by rw [Nat.add_right_comm,Nat.add_assoc];exact h1) (λk hk=>h2 k (by omega)),h2 i (by omega),
   add_assoc g (qJ g aF _) (IC g hs _ _) (qJ g hA _)]
end Ed
end Nums
namespace Go.Proofs.Q
open Go.RowKit Go.IntWalk Nums
def WM(l:aC)(u k:Nat):xg l u k=km (λj=>(kC l u j+l[j]!)%2251799813685248) l k:=rfl
theorem Wv{l:aC}{x:F}(h:cu l x):∀k,k<=5->sY l 19 k<=19
 | 0,_=>aQ _
 | k+1,hk=>by have h1:=Wv h k (by omega);have h2:=Ae h (k:=k) (by omega);show(l[k]! + sY l 19 k)/2251799813685248<=19;omega
theorem ahU{l:aC}{x:F}(h:cu l x){u:Nat}(hu:u<=361):∀k,k<=5->kC l u k<=361
 | 0,_=>hu
 | k+1,hk=>by have h1:=ahU h hu k (by omega);have h2:=Ae h (k:=k) (by omega);show(kC l u k+l[k]!)/2251799813685248<=361;omega
def Rd{a:aC}{x:F}(ha:cu a x)(w:yp) :
  Calls prog 213 #[.agg (av a).toArray] w λe w'=>e = .returned (.agg (av (whole a)).toArray)/\Below w.heap.size w w':=by
 have hW:whole a=xg a (sY a 19 5*19) 5:=rfl;rw [hW];clear hW;generalize vB:sY a 19 5=q;generalize hu0:q*19=u0
 go_enter func213,ntmps213
 go_wp2
 go_loopw [6,3] (λi u wr=>∃k:Nat,k<=5/\i = .int .i64 k/\u = .int .u64 (sY a 19 k:Nat)/\bB wr w.heap.size 234 (av a).toArray/\bB wr (w.heap.size+1) 234 ajA/\Below w.heap.size w wr) (λi _ _=>5-(intOf i).toNat)
 case atStart =>
  exact⟨0,by omega,rfl,rfl,heap_alloc2_old w _ _,heap_alloc2_new w _ _,((Below.refl _ _).alloc (aQ _) _).alloc (by simp) _⟩
 case round =>
  obtain⟨k,hk,rfl,rfl,h0,h1,kx⟩:=hrel
  by_cases al:k<5
  .have hN:sY a 19 (k+1)=(a[k]! + sY a 19 k)/2251799813685248:=rfl
   have c0:=(h0.cell k).trans (xo (by rw [ha.len];exact al));have b0:=Ae ha al;have b1:=Wv ha k (by omega);generalize a[k]! = u at *;generalize sY a 19 k=v at *;have q1:IntKind.u64.wrap ((u:Int)+(v:Int))=((u+v:Nat):Int):=by rw [jN];omega
   have q2:(0:Int)<=(k:Int):=by omega
   have HK:=iB (fP h0 (fP h1 (fP kx hN)));clear h0 h1 kx hN;go_wp2;go_roundw
   case rel =>
    obtain⟨h0,h1,kx,hN⟩:=HK.out;exact⟨k+1,by omega,by go_num,by rw [hN];congr 1,h0,h1,kx⟩
   case measure=>simp [intOf];omega
  .obtain rfl:k=5:=by omega
   have b1:=Wv ha 5 (by omega);rw [vB] at b1 ⊢;have hq:u0<=361:=by omega
   have q1:IntKind.u64.wrap ((q:Int)*19)=(u0:Int):=by rw [jN];omega
   clear vB hu0;have hW0:xg a u0 0=a:=by rw [WM,UJ _ ha.len]
   have HK:=iB (fP h0 (fP h1 kx));clear h0 h1 kx;go_wp2;go_loopw [19,3] (λi u wq=>∃k:Nat,k<=5/\i = .int .i64 k/\u = .int .u64 (kC a u0 k:Nat)/\bB wq w.heap.size 234 (av (xg a u0 k)).toArray/\bB wq (w.heap.size+1) 234 ajA/\Below w.heap.size w wq) (λi _ _=>5-(intOf i).toNat)
   case atStart =>
    obtain⟨h0,h1,kx⟩:=HK.out;exact⟨0,by omega,rfl,rfl,by rw [hW0];exact h0,h1,kx⟩
   case round =>
    obtain⟨k,hk,rfl,rfl,h0,h1,kx⟩:=hrel;clear HK
    by_cases al:k<5
    .have hN:kC a u0 (k+1)=(kC a u0 k+a[k]!)/2251799813685248:=rfl
     have bm:(xg a u0 k).set k ((kC a u0 k+a[k]!)%2251799813685248)=xg a u0 (k+1):=Pj (λj=>(kC a u0 j+a[j]!)%2251799813685248) a;have hg:(xg a u0 k)[k]! = a[k]!:=UI _ a al;have c0:=(h0.cell k).trans (xo (by rw [WM,zr];exact al));rw [hg] at c0;have hf:=h0.free k;have b0:=Ae ha al;have b1:=ahU ha hq k (by omega);generalize a[k]! = u at *;generalize kC a u0 k=v at *;have q2:IntKind.u64.wrap ((v:Int)+(u:Int))=((v+u:Nat):Int):=by rw [jN];omega
     have q3:=Il (v+u) (by omega);have q4:(0:Int)<=(k:Int):=by omega
     have HK:=iB (fP h0 (fP h1 (fP kx (fP hN bm))));clear h0 h1 kx hN bm hg;generalize hs:v+u=s at *;go_wp2;go_roundw
     case rel =>
      obtain⟨h0,h1,kx,hN,bm⟩:=HK.out;have h4:=h0.set k (.int .u64 ((s%2251799813685248:Nat):Int));rw [RE,bm] at h4;exact⟨k+1,by omega,by go_num,by rw [hN];congr 1,h4,h1.nh (by simp) _,kx.setCell (by simp) _⟩
     case measure=>simp [intOf];omega
    .obtain rfl:k=5:=by omega
     have hz:(av (xg a u0 5)).toArray.size=5:=abE (by rw [WM,zr]);go_wp2_with (first
      | (refine wpList_load_row rfl 234 _ rfl w.heap.size rfl 234 (av (xg a u0 5)).toArray (0,0) _ h0 A7 rfl (Gc _ hz) ?_)
      | (refine wpList_store_row rfl 234 _ _ rfl (w.heap.size+1) rfl (av (xg a u0 5)).toArray rfl 234 _ h1 (Gc _ hz) (by rw [hz];rfl) (Bv _) ?_))
     refine bodyPost_ret (results_cell_row rfl _ _ (w.heap.size+1) 234 (av (xg a u0 5)).toArray (0,0) _ rfl (h1.row _) A7 rfl (Gc _ hz)) rfl ⟨rfl,?_⟩;exact below_setRow kx (by omega) _
def kV(s:Nat):ct:=(av [s/18446744073709551616,s%18446744073709551616]).toArray
def akC(s:Nat):(kV s).size=2:=rfl
def akB(s:Nat):∀u∈(kV s).toList,u.oneCell'=true:=Bv _
def axW(s a b:Nat)(ha:a<18446744073709551616)(hb:b<18446744073709551616)(hs:s+a*b<(2^128))(w:yp) :
  Calls prog 209 #[.agg (kV s),.int .u64 a,.int .u64 b] w λe w'=>e = .returned (.agg (kV (s+a*b)))/\Below w.heap.size w w':=by
 refine(axV (s/18446744073709551616) (s%18446744073709551616) a b (by omega) (by omega) ha hb w).mono ?_
 rintro e w' ⟨rfl,hw⟩
 refine⟨?_,hw⟩
 unfold kV
 generalize a*b=m at *
 have e1:(s/18446744073709551616+m/18446744073709551616+(s%18446744073709551616+m%18446744073709551616)/18446744073709551616)%18446744073709551616=(s+m)/18446744073709551616:=by omega
 have e2:(s%18446744073709551616+m%18446744073709551616)%18446744073709551616=(s+m)%18446744073709551616:=by omega
 rw [e1,e2]
def auD(s:Nat)(w:yp) :
  Calls prog 210 #[.agg (kV s)] w λe w'=>e = .returned (.int .u64 ((s%2251799813685248:Nat):Int))/\Below w.heap.size w w':=by
 refine(auC (s/18446744073709551616) (s%18446744073709551616) (by omega) w).mono ?_
 rintro e w' ⟨rfl,hw⟩
 refine⟨?_,hw⟩
 have e1:s%18446744073709551616%2251799813685248=s%2251799813685248:=by omega
 rw [e1]
def aqD(s:Nat)(hs:s<41538374868278621028243970633760768)(w:yp) :
  Calls prog 211 #[.agg (kV s)] w λe w'=>e = .returned (.int .u64 ((s/2251799813685248:Nat):Int))/\Below w.heap.size w w':=by
 refine(aqC (s/18446744073709551616) (s%18446744073709551616) (by omega) (by omega) w).mono ?_
 rintro e w' ⟨rfl,hw⟩
 refine⟨?_,hw⟩
 have e1:s/18446744073709551616*8192+s%18446744073709551616/2251799813685248=s/2251799813685248:=by omega
 rw [e1]
theorem abO:∀(l:aC) {k:Nat},k<l.length->ew (l.take (k+1))=ew (l.take k)+2251799813685248^k*l[k]!
 | d::ds,0,_=>by simp [ew]
 | d::ds,k+1,h=>by have ih:=abO ds (k:=k) (by simpa using h);show d+2251799813685248*ew (ds.take (k+1))=d+2251799813685248*ew (ds.take k)+2251799813685248^(k+1)*ds[k]!;rw [ih,k8];grind only
structure Bq(a:aC)(y:F)(k c0 c1 c2 c3 c4 s0 s1 s2 s3 s4:Nat):Prop where
  cv:bJ (ew [c0,c1,c2,c3,c4])=bJ (2251799813685248^k)*y
  eJ:bJ (ew [s0,s1,s2,s3,s4])=bJ (ew (a.take k))*y
  c0b:c0<42784196465000448
  c1b:c1<42784196465000448
  c2b:c2<42784196465000448
  c3b:c3<42784196465000448
  c4b:c4<42784196465000448
  c0u:k<=0->c0<2251799813947392
  c1u:k<=1->c1<2251799813947392
  c2u:k<=2->c2<2251799813947392
  c3u:k<=3->c3<2251799813947392
  c4u:k<=4->c4<2251799813947392
  s0b:s0<=k*96341445640026967064998646153216
  s1b:s1<=k*96341445640026967064998646153216
  s2b:s2<=k*96341445640026967064998646153216
  s3b:s3<=k*96341445640026967064998646153216
  s4b:s4<=k*96341445640026967064998646153216
def AY{v c:Nat}(ab:v<2251799813947392)(hc:c<42784196465000448):v*c<=96341445640026967064998646153216 :=
 fo (yJ (Mv ab) (Mv hc)) (by decide)
def Bq.next{a:aC}{x y:F}{k c0 c1 c2 c3 c4 s0 s1 s2 s3 s4:Nat}(h:Bq a y k c0 c1 c2 c3 c4 s0 s1 s2 s3 s4)(ha:cu a x)(hk:k<5) :
  Bq a y (k+1) (19*c4) c0 c1 c2 c3 (s0+a[k]! * c0) (s1+a[k]! * c1) (s2+a[k]! * c2) (s3+a[k]! * c3) (s4+a[k]! * c4):=by
 obtain⟨cv,eJ,g0,g1,g2,g3,g4,u0,u1,u2,u3,u4,t0,t1,t2,t3,t4⟩:=h;have ab:=Ae ha hk;have p0:=AY ab g0;have fc:=AY ab g1;have p2:=AY ab g2;have p3:=AY ab g3;have p4:=AY ab g4
 have hm:(k+1)*96341445640026967064998646153216=k*96341445640026967064998646153216+96341445640026967064998646153216:=by omega
 have:=u4 (by omega);refine⟨?_,?_,by omega,g0,g1,g2,g3,by omega,by omega,by omega,by omega,by omega,by omega,by omega,by omega,by omega,by omega⟩
 .rw [aGG,cv,k8,qH];generalize bJ (2251799813685248^k)=u;generalize bJ 2251799813685248=v;grind only
 .rw [aG6,Cn,eJ,qH,cv,abO a (by rw [ha.len];exact hk),Cn,qH];generalize bJ (ew (a.take k))=u;generalize bJ (2251799813685248^k)=v;generalize bJ (a[k]!)=z;grind only
def Bq.start{a:aC}{b0 b1 b2 b3 b4:Nat}{y:F}(h0:b0<2251799813947392)(h1:b1<2251799813947392)(h2:b2<2251799813947392)(h3:b3<2251799813947392)(h4:b4<2251799813947392)(hb:bJ (ew [b0,b1,b2,b3,b4])=y) :
  Bq a y 0 b0 b1 b2 b3 b4 0 0 0 0 0:=by
 refine⟨?_,?_,by omega,by omega,by omega,by omega,by omega,λ_=>h0,λ_=>h1,λ_=>h2,λ_=>h3,λ_=>h4,by omega,by omega,by omega,by omega,by omega⟩
 .rw [hb,xW,wU];grind only
 .have e1:bJ (ew [0,0,0,0,0])=0:=Ij;have e2:bJ (ew (a.take 0))=0:=Ij;rw [e1,e2];grind only
def Bq.fin{a:aC}{x y:F}{c0 c1 c2 c3 c4 s0 s1 s2 s3 s4:Nat}(h:Bq a y 5 c0 c1 c2 c3 c4 s0 s1 s2 s3 s4)(ha:cu a x) :
  bJ (ew (z8 s0 s1 s2 s3 s4))=x*y/\s0<41538374868278621028243970633760768/\s1<41538374868278621028243970633760768/\s2<41538374868278621028243970633760768/\s3<41538374868278621028243970633760768/\s4<41538374868278621028243970633760768 /\
   s0/2251799813685248<400000000000000000/\s1/2251799813685248<400000000000000000/\s2/2251799813685248<400000000000000000/\s3/2251799813685248<400000000000000000/\s4/2251799813685248<400000000000000000:=by
 have e:a.take 5=a:=kE (by rw [ha.len];omega);obtain⟨cv,eJ,g0,g1,g2,g3,g4,u0,u1,u2,u3,u4,t0,t1,t2,t3,t4⟩:=h;rw [e,ha.val] at eJ;exact⟨by rw [aj5,eJ],by omega,by omega,by omega,by omega,by omega,by omega,by omega,by omega,by omega,by omega⟩
def awJ:Own 210:=λ_ _=>by go_simp
def awC:Own 211:=λ_ _=>by go_simp
def avX:Own 212:=λ_ _=>by go_simp
def U9:Own 213:=λ_ _=>by go_simp
def aw6:Own 171:=λ_ _=>by go_simp
def aw5:Own 178:=λ_ _=>by go_simp
def aw7:Own 176:=λ_ _=>by go_simp
def awA:Own 172:=λ_ _=>by go_simp
def ax0:Own 174:=λ_ _=>by go_simp
section
variable{ops:aZ}{C0:aE}{Q:Act->Prop}{a:Act}{o:yk}{rest:aN}
def XF{l:aC}(g:Nat)(hl:l.length=5)(x:yo)(hg:aU o (yielded ops a.tmps)=true)(ho:o.op = .load 234 x)(hx:a.eval x = .pointer (some ⟨g,0,none⟩))
 (hc:∀w,C0 w->bB w g 234 (av l).toArray)(hk:fQ prog ops C0 Q rest (a.put o.dst (.agg (av l).toArray))):fQ prog ops C0 Q (o::rest) a :=
 al4 hg 234 x ho g 0 hx (av l) _ (λw h=>(hc w h).range) A7 rfl (Gc (av l).toArray (by rw [fx,nM,hl])) hk
end
def aF8{l:aC}(hl:l.length=5)(hb:∀y∈l,y<2251799813685248){k:Nat}(hk:k<4) :
  bits .or .u64 ((l[64*k/51]! : Nat)/2^(64*k%51):Int) (IntKind.u64.wrap ((l[64*k/51+1]! : Nat)*2^(51-64*k%51):Int))=((wd (ew l) k:Nat):Int):=by
 obtain⟨a0,a1,a2,a3,a4,rfl⟩:=ye hl;have h0:=hb a0 (by simp);have h1:=hb a1 (by simp);have h2:=hb a2 (by simp);have h3:=hb a3 (by simp);have h4:=hb a4 (by simp)
 unfold wd
 rw [qX]
 have h4':k=0\/k=1\/k=2\/k=3:=by omega
 have key:∀(i x y r t L:Nat),y*2^t%18446744073709551616%2^i=0->x/2^r<2^i->x/2^r<18446744073709551616->y*2^t%18446744073709551616+x/2^r=L ->
   bits .or .u64 ((x:Nat)/2^r:Int) (IntKind.u64.wrap ((y:Nat)*2^t:Int))=(L:Int):=by
  intro i x y r t L e1 e2 e3 e4
  have f1:((x:Int)/2^r)=((x/2^r:Nat):Int):=by simp
  have f2:IntKind.u64.wrap ((y:Int)*2^t)=((y*2^t%18446744073709551616:Nat):Int):=by rw [jN];simp
  rw [f1,f2,<-e4,u64_or_nat _ _ e3 (by omega),sK,nat_join i _ _ e1 e2]
 rcases h4' with rfl|rfl|rfl|rfl
 .exact key 51 a0 a1 0 51 _ (by omega) (by omega) (by omega) (by simp only [fH];omega)
 .exact key 38 a1 a2 13 38 _ (by omega) (by omega) (by omega) (by simp only [fH];omega)
 .exact key 25 a2 a3 26 25 _ (by omega) (by omega) (by omega) (by simp only [fH];omega)
 .exact key 12 a3 a4 39 12 _ (by omega) (by omega) (by omega) (by simp only [fH];omega)
section
variable{P:ym}{ops:aZ}{Q:bK}{Inv:aE}
def D8(P:ym)(ops:aZ)(Q:bK)(Inv:aE)(p:Nat->Bool)(Fin:et->fg):Nat->et->fg
  | 0,listed,a,w=>(∀j∈bC .any ops listed,∀i,p i=true->ow .any ops ops.size j i=true)/\Fin listed a w
  | fuel+1,listed,a,w=>bC .any ops listed≠[]/\∀i∈bC .any ops listed,wpOp P ops Q i (λa' w'=>Inv w'/\D8 P ops Q Inv p Fin fuel (listed.setIfInBounds i true) a' w') a w
abbrev Ru(P:ym)(ops:aZ)(Q:bK)(m:Nat):et->fg:=λlisted a w=>wpAny P .any ops Q m listed a w
theorem aiR{p:Nat->Bool}{m:Nat}:∀(fuel:Nat) (listed:et) (a:Act) (w:yp),D8 P ops Q Inv p (Ru P ops Q m) fuel listed a w->wpAny P .any ops Q (m+fuel) listed a w
 | 0,_,_,_,h=>h.2
 | fuel+1,_,_,_,h=>⟨λh0=>absurd h0 h.1,λi hi=>wpOp_mono (λa' w' h'=>aiR fuel _ a' w' h'.2) (h.2 i hi)⟩
theorem Ji{p:Nat->Bool}{Fin:et->fg}{i:Nat}{oi:yk}{v:Value}(iR:p i=true)(hi:ops[i]?=some oi)(aa:pM oi.op=true)(mF:∀(j:Nat) (o:yk) cs b,ops[j]?=some o->o.op ≠ .select cs b)(hQ:∀c a d v w,Q (.panic c) (a.put d v) w->Q (.panic c) a w) :
  ∀(fuel:Nat) (listed:et) (a:Act) (w:yp),Inv w->nI .any ops listed ->
   (∀j oj,ops[j]?=some oj->j≠i->listed.getD j true=false->(∀e∈oj.after,dE .any e=true->e.on≠i)->oi.apart ops oj=true) ->
   i∈bC .any ops listed->ru P ops Inv oi (· = v) a->D8 P ops Q Inv p Fin fuel (listed.setIfInBounds i true) (a.put oi.dst v) w->D8 P ops Q Inv p Fin (fuel+1) listed a w:=by
 intro fuel
 induction fuel with
 | zero =>
  intro listed a w hC dN _ hr hy H
  refine⟨λh=>(by rw [h] at hr;cases hr),λj hj=>?_⟩
  by_cases jg:j=i
  .subst jg;exact QN hi aa hy hC ⟨hC,H⟩
  .have h1:=H.1 j (ready_mono hj jg) i iR;obtain⟨_,oj,qU,iP⟩:=mem_ready.1 hj;have h6:=dN.waits _ j i oj qU iP h1;rw [Da hr] at h6;cases h6
 | succ fuel ih =>
  intro listed a w hC dN De hr hy H
  refine⟨λh=>(by rw [h] at hr;cases hr),λj hj=>?_⟩
  by_cases jg:j=i
  .subst jg;exact QN hi aa hy hC ⟨hC,H⟩
  .obtain⟨BV,oj,qU,iP⟩:=mem_ready.1 hj
   have uC:∀e∈oj.after,dE .any e=true->e.on≠i:=λe he hb heq=>by have h1:=iP e he hb;rw [heq,Da hr] at h1;cases h1
   have h2:=WT (V:=(· = v)) qU (De j oj qU jg BV uC) (λcs b=>mF i oi cs b hi) (λcs b=>mF j oj cs b qU) ⟨v,rfl⟩ (.inr ⟨v,λ_ h=>h⟩) hQ hy (λu hu=>by subst hu;exact H.2 j (ready_mono hj jg));have hun':∀k,(listed.setIfInBounds j true).getD k true=false->listed.getD k true=false:=λk og=>by
    by_cases iT:j=k
    .subst iT;exact BV
    .rw [getD_set_ne true iT] at og;exact og
   refine wpOp_mono (λa' w' h3=>?_) h2;obtain⟨hy',h4⟩:=h3;obtain⟨hC',h5⟩:=h4 v rfl;refine⟨hC',ih (listed.setIfInBounds j true) a' w' hC' (dN.set hj) (λk ok hk ER og o7=>De k ok hk ER (hun' k og) o7) (ready_mono hr (Ne.symm jg)) hy' ?_⟩;rw [Array.setIfInBounds_comm _ _ jg];exact h5
end
def mf(P:ym)(b:bO)(Q:bK)(N:Nat)(ops:aZ)(Inv:aE)(p:Nat->Bool)(Fin:et->fg)(fuel:Nat)(listed:et)(e:Env):Prop:=nI .any ops listed->∀a w,iz b N e a w->Inv w->D8 P ops (NoPanic Q) Inv p Fin fuel listed a w
def vm(ops:aZ)(p:Nat->Bool)(i:Nat)(listed:et):Bool:=p i&&(bC .any ops listed).contains i&&Region.free .any ops listed i&&Region.noSelect ops
section
variable{P:ym}{T:eG}{b:bO}{ops:aZ}{Q:bK}{N fuel:Nat}{p:Nat->Bool}{Fin:et->fg}{listed:et}{E:aG}{L L0:aH}{R:bF}{F M:aE}{Inv:aE}{e:Env}
def LR:∀c (a:Act) d v w,NoPanic Q (.panic c) (a.put d v) w->NoPanic Q (.panic c) a w:=λ_ _ _ _ _ h=>h
def LO{o:yk}{k:Nat}{v:aq}(hT:fh P T)(i:Nat)(ho:ops[i]?=some o)(hq:di o k N)(hs:pM o.op=true)(ab:nz T E L0 o.op=some v)(c7:∀x∈L0,x∈L)
 (hn:mf P b Q N ops (iV L0) p Fin fuel (listed.setIfInBounds i true) ⟨(k,v)::E,L,R,F,M⟩)(hc:vm ops p i listed=true:=by kernel_rfl):mf P b Q N ops (iV L0) p Fin (fuel+1) listed ⟨E,L,R,F,M⟩:=λdN a w aa hI=>by
 obtain⟨G,S,h1,h2,h3⟩:=aa;simp only [vm,dJ] at hc;obtain⟨⟨⟨iR,hr⟩,lk⟩,mF⟩:=hc
 have hr':i∈bC .any ops listed:=by simpa using hr
 obtain⟨h4,h5⟩:=zH hT h2 (λx hx=>(h3.var x (c7 x hx)).2.1) ab;have h6:=hn (dN.set hr') (a.put (some k) (v.den G)) w ⟨G,S,h1.put (dQ hq) _,h2.cons h4,h3⟩ hI;refine Ji iR ho hs (Ac mF) LR fuel listed a w hI dN (Fo ho lk) hr' (v:=v.den G) (.inl ⟨by simp [aU,(eB hq)],λw' hw'=>?_⟩) (by rw [(eC hq)];exact h6)
 unfold nN
 rw [h5 h1 λx hx=>by obtain⟨g,e1,e2⟩:=hw' x hx;rw [(h3.var x (c7 x hx)).2.2 g e1];exact e2]
 exact⟨rfl,rfl⟩
def kp{o:yk}{k:Nat}(v:aq)(i:Nat)(ho:ops[i]?=some o)(hq:di o k N)(hs:pM o.op=true)(ab:∀(G:aK) (a:Act) (w:yp),Fr N (bG G E) a->(execOp a.eval o).run P w = .ok (.value (v.den G)) w)
 (hn:mf P b Q N ops Inv p Fin fuel (listed.setIfInBounds i true) ⟨(k,v)::E,L,R,F,M⟩)(hc:vm ops p i listed=true:=by kernel_rfl)(wQ:v.aI:=by exact trivial):mf P b Q N ops Inv p Fin (fuel+1) listed ⟨E,L,R,F,M⟩:=λdN a w aa hI=>by
 obtain⟨G,S,h1,h2,h3⟩:=aa;simp only [vm,dJ] at hc;obtain⟨⟨⟨iR,hr⟩,lk⟩,mF⟩:=hc
 have hr':i∈bC .any ops listed:=by simpa using hr
 have h6:=hn (dN.set hr') (a.put (some k) (v.den G)) w ⟨G,S,h1.put (dQ hq) _,h2.cons wQ,h3⟩ hI;refine Ji iR ho hs (Ac mF) LR fuel listed a w hI dN (Fo ho lk) hr' (v:=v.den G) (.inl ⟨by simp [aU,(eB hq)],λw' _=>?_⟩) (by rw [(eC hq)];exact h6)
 unfold nN
 rw [ab G a w' h1];exact⟨rfl,rfl⟩
def eN{o:yk}(i:Nat)(ho:ops[i]?=some o)(h:∀K:fg,(∀e',(∀a w,iz b N e' a w->Inv w)->mf P b Q N ops Inv p Fin fuel (listed.setIfInBounds i true) e'->cl b K N e')->a9 P b ops (Exit.then K (NoPanic Q)) N [o] e)(hr:bC .any ops listed=[i]:=by kernel_rfl):mf P b Q N ops Inv p Fin (fuel+1) listed e:=λdN a w aa _ =>
 ⟨by rw [hr];simp,λj hj=>by rw [hr,bU] at hj;subst hj;have hcs':=dN.set (i:=j) (by rw [hr];simp);exact Rj ho (h (λa' w'=>Inv w'/\D8 P ops (NoPanic Q) Inv p Fin fuel (listed.setIfInBounds j true) a' w') (λe' hI' ha a' w' hs'=>⟨hI' a' w' hs',ha hcs' a' w' hs' (hI' a' w' hs')⟩) a w aa)⟩
def adB{o o':yk}(i i':Nat)(ho:ops[i]?=some o)(ho':ops[i']?=some o')
 (h:∀K:fg,(∀e',(∀a w,iz b N e' a w->Inv w)->mf P b Q N ops Inv p Fin fuel (listed.setIfInBounds i true) e'->cl b K N e')->a9 P b ops (Exit.then K (NoPanic Q)) N [o] e)
 (h':∀K:fg,(∀e',(∀a w,iz b N e' a w->Inv w)->mf P b Q N ops Inv p Fin fuel (listed.setIfInBounds i' true) e'->cl b K N e')->a9 P b ops (Exit.then K (NoPanic Q)) N [o'] e)(hr:bC .any ops listed=[i,i']:=by kernel_rfl):mf P b Q N ops Inv p Fin (fuel+1) listed e:=λdN a w aa _ =>
 ⟨by rw [hr];simp,λj hj=>by
  rw [hr] at hj;have key:∀(i:Nat) (o:yk),i∈bC .any ops listed->ops[i]?=some o->(∀K:fg,(∀e',(∀a w,iz b N e' a w->Inv w)->mf P b Q N ops Inv p Fin fuel (listed.setIfInBounds i true) e'->cl b K N e')->a9 P b ops (Exit.then K (NoPanic Q)) N [o] e)->wpOp P ops (NoPanic Q) i (λa' w'=>Inv w'/\D8 P ops (NoPanic Q) Inv p Fin fuel (listed.setIfInBounds i true) a' w') a w:=λi o hi ho h =>
   Rj ho (h (λa' w'=>Inv w'/\D8 P ops (NoPanic Q) Inv p Fin fuel (listed.setIfInBounds i true) a' w') (λe' hI' ha a' w' hs'=>⟨hI' a' w' hs',ha (dN.set hi) a' w' hs' (hI' a' w' hs')⟩) a w aa)
  rcases bT.1 hj with rfl|hj
  .exact key _ o (by rw [hr];simp) ho h
  .rw [bU] at hj;subst hj;exact key _ o' (by rw [hr];simp) ho' h'⟩
def adA{o:yk}{k:Nat}(v:aq)(wQ:v.aI)(i:Nat)(hc:vm ops p i listed=true)(ho:ops[i]?=some o)(hq:di o k N)(hs:pM o.op=true)(ab:∀(G:aK) (a:Act) (w:yp),Fr N (bG G E) a->Inv w->(execOp a.eval o).run P w = .ok (.value (v.den G)) w)
 (hn:mf P b Q N ops Inv p Fin fuel (listed.setIfInBounds i true) ⟨(k,v)::E,L,R,F,M⟩):mf P b Q N ops Inv p Fin (fuel+1) listed ⟨E,L,R,F,M⟩:=λdN a w aa hI=>by
 obtain⟨G,S,h1,h2,h3⟩:=aa;simp only [vm,dJ] at hc;obtain⟨⟨⟨iR,hr⟩,lk⟩,mF⟩:=hc
 have hr':i∈bC .any ops listed:=by simpa using hr
 have h6:=hn (dN.set hr') (a.put (some k) (v.den G)) w ⟨G,S,h1.put (dQ hq) _,h2.cons wQ,h3⟩ hI;refine Ji iR ho hs (Ac mF) LR fuel listed a w hI dN (Fo ho lk) hr' (v:=v.den G) (.inl ⟨by simp [aU,(eB hq)],λw' hw'=>?_⟩) (by rw [(eC hq)];exact h6)
 unfold nN
 rw [ab G a w' h1 hw'];exact⟨rfl,rfl⟩
def axA{o:yk}{k:Nat}{v:aq}(hT:fh P T)(i:Nat)(hc:vm ops p i listed=true)(ho:ops[i]?=some o)(hq:di o k N)(hs:pM o.op=true)(ab:nz T E L0 o.op=some v)(c7:∀x∈L0,x∈L)(hI:∀w,Inv w->iV L0 w)
 (hn:mf P b Q N ops Inv p Fin fuel (listed.setIfInBounds i true) ⟨(k,v)::E,L,R,F,M⟩):mf P b Q N ops Inv p Fin (fuel+1) listed ⟨E,L,R,F,M⟩:=λdN a w aa JZ=>by
 obtain⟨G,S,h1,h2,h3⟩:=aa;simp only [vm,dJ] at hc;obtain⟨⟨⟨iR,hr⟩,lk⟩,mF⟩:=hc
 have hr':i∈bC .any ops listed:=by simpa using hr
 obtain⟨h4,h5⟩:=zH hT h2 (λx hx=>(h3.var x (c7 x hx)).2.1) ab;have h6:=hn (dN.set hr') (a.put (some k) (v.den G)) w ⟨G,S,h1.put (dQ hq) _,h2.cons h4,h3⟩ JZ;refine Ji iR ho hs (Ac mF) LR fuel listed a w JZ dN (Fo ho lk) hr' (v:=v.den G) (.inl ⟨by simp [aU,(eB hq)],λw' hw'=>?_⟩) (by rw [(eC hq)];exact h6)
 unfold nN
 rw [h5 h1 λx hx=>by obtain⟨g,e1,e2⟩:=hI w' hw' x hx;rw [(h3.var x (c7 x hx)).2.2 g e1];exact e2]
 exact⟨rfl,rfl⟩
def CB{o:yk}{k:Nat}(v:aq)(i:Nat)(ho:ops[i]?=some o)(hq:di o k N)(hs:pM o.op=true)(c7:∀x∈L0,x∈L)(hI:∀w,Inv w->iV L0 w)
 (ab:∀(G:aK) (a:Act) (w:yp),Fr N (bG G E) a->Gt G L0 w->(execOp a.eval o).run P w = .ok (.value (v.den G)) w)
 (hn:mf P b Q N ops Inv p Fin fuel (listed.setIfInBounds i true) ⟨(k,v)::E,L,R,F,M⟩)(hc:vm ops p i listed=true:=by kernel_rfl)(wQ:v.aI:=by exact trivial):mf P b Q N ops Inv p Fin (fuel+1) listed ⟨E,L,R,F,M⟩:=λdN a w aa JZ=>by
 obtain⟨G,S,h1,h2,h3⟩:=aa;simp only [vm,dJ] at hc;obtain⟨⟨⟨iR,hr⟩,lk⟩,mF⟩:=hc
 have hr':i∈bC .any ops listed:=by simpa using hr
 have h6:=hn (dN.set hr') (a.put (some k) (v.den G)) w ⟨G,S,h1.put (dQ hq) _,h2.cons wQ,h3⟩ JZ;refine Ji iR ho hs (Ac mF) LR fuel listed a w JZ dN (Fo ho lk) hr' (v:=v.den G) (.inl ⟨by simp [aU,(eB hq)],λw' hw'=>?_⟩) (by rw [(eC hq)];exact h6)
 unfold nN
 rw [ab G a w' h1 λx hx=>by obtain⟨g,e1,e2⟩:=hI w' hw' x hx;rw [(h3.var x (c7 x hx)).2.2 g e1];exact e2]
 exact⟨rfl,rfl⟩
def CF{o:yk}{t:yn}{x:yo}{j off:Nat}{d:TypeDesc}{ai:cJ}(v:Value)(ho:o.op = .load t x)(hx:aP E x=some (.a j off))(hl:mJ L0 j=some ai)(ab:(a7 ai)[off]?=some v)(hu:P.underlying t=some d)(hr:d.isRow=false) :
  ∀(G:aK) (a:Act) (w:yp),Fr N (bG G E) a->Gt G L0 w->(execOp a.eval o).run P w = .ok (.value ((aq.v v).den G)) w:=λG a w ha hw=>by
 have h1:a.eval x = .pointer (some ⟨G j,off,none⟩):=ha.eval (bH hx);obtain⟨u,Cf,rfl,hps⟩:=tR hl;have h2:=(hw u Cf).cell off;rw [hps,ab] at h2;have h3:=Mg hu hr h2
 unfold execOp
 simp only [ho,h1,bI,h3,bS,bM]
 rfl
def DO{o:yk}{k:Nat}{t ty:yn}{x:yo}{g off:Nat}{ai:cJ}{q:aL}(hT:fh P T)(i:Nat)(ho:ops[i]?=some o)(hq:di o k N)(As:o.op = .load t x)(hx:aP E x=some (.v (.pointer (some ⟨g,off,none⟩))))(hl:tE T ai t off=some q)(bx:ch ai)(hI:∀w,Inv w->ij g ty ai w)
 (hn:mf P b Q N ops Inv p Fin fuel (listed.setIfInBounds i true) ⟨(k,.q q)::E,L,R,F,M⟩)(hc:vm ops p i listed=true:=by kernel_rfl):mf P b Q N ops Inv p Fin (fuel+1) listed ⟨E,L,R,F,M⟩ :=
 adA (.q q) (Ib hT bx hl).1 i hc ho hq (by rw [As];rfl) (λ_ _ w ha hw=>(Lj hT As hx hl ha (hI w hw)).2) hn
def sG{E':aG}{L':aH}{R':bF}{F' M':aE}{p:aE}(c7:∀x∈L0,x∈L'/\x.g.isSome=true)(hp:∀w,F' w->M' w->p w):∀a w,iz b N ⟨E',L',R',F',M'⟩ a w->iV L0 w/\p w:=λa w aa=>by
 refine⟨?_,?_⟩
 .obtain⟨G,S,_,_,h3⟩:=aa;intro x hx;obtain⟨h1,h2⟩:=c7 x hx;obtain⟨g,hg⟩:=Option.isSome_iff_exists.1 h2;have h4:=h3.var x h1;refine⟨g,hg,?_⟩;rw [<-h4.2.2 g hg];exact h4.1
 .obtain⟨G,S,_,_,h3⟩:=aa;exact hp w h3.view.fact h3.view.fresh
def JT(ops:aZ):aC->et->Bool
  | [],listed=>(bC .any ops listed).isEmpty
  | k::ks,listed=>decide (bC .any ops listed=[k])&&JT ops ks (listed.setIfInBounds k true)
def PN(l:aN):aC->aN
  | []=>[]
  | k::ks=>match l[k]? with
    | some o=>o::PN l ks
    | none=>[]
theorem WR{l:aN}:∀(ks:aC) (listed:et) (a:Act) (w:yp),(∀k∈ks,k<l.length)->JT l.toArray ks listed=true ->
  wpList P l.toArray Q (PN l ks) a w->wpAny P .any l.toArray Q ks.length listed a w
 | [],_,_,_,_,aF,h=>⟨by simpa [JT] using aF,h⟩
 | k::ks,listed,a,w,hl,aF,h=>by
  obtain⟨o,ho⟩:∃o,l[k]?=some o:=⟨_,da (hl k eh)⟩;have h0:l.toArray[k]?=some o:=by simpa using ho
  simp only [JT,dJ,decide_eq_true_eq] at aF;obtain⟨hr,hB'⟩:=aF;unfold PN at h;rw [ho] at h;dsimp only at h;refine⟨λe=>(by rw [hr] at e;cases e),λi hi=>?_⟩;rw [hr,bU] at hi;subst hi;have hl':∀j∈ks,j<l.length:=λj hj=>hl j (dS _ hj);unfold wpOp;simp only [h0];unfold wpList at h;split
  .rename_i hw;simp only [hw,if_true] at h;exact h.imp (Oper.wp_mono λa' w' h'=>WR ks _ a' w' hl' hB' h') id
  .rename_i hw;simp only [hw] at h;exact WR ks _ _ _ hl' hB' (by simpa using h)
def abW(ks:aC)(i:Nat):Bool:=ks.any λk=>Nat.beq k i
def kQ{ks:aC}(js:aC){l l':aN}(hl:PN l js=l')(h:a9 P b l.toArray (NoPanic Q) N l' e)(aF:((bC .any l.toArray listed).all (λj=>ks.all λi=>ow .any l.toArray l.toArray.size j i)&&js.all (λk=>decide (k<l.length))&&JT l.toArray js listed)=true:=by kernel_rfl) :
  mf P b Q N l.toArray Inv (abW ks) (Ru P l.toArray (NoPanic Q) js.length) 0 listed e:=λ_ a w aa _=>by
 subst hl;simp only [dJ,List.all_eq_true,decide_eq_true_eq] at aF;refine⟨λj hj i hi=>?_,WR js listed a w aF.1.2 aF.2 (h a w aa)⟩;obtain⟨k,hk,e⟩:=List.any_eq_true.1 hi;obtain rfl:=Nat.eq_of_beq_eq_true e;exact aF.1.1 j hj k hk
def lv{l:aN}{id:Nat}(ks:aC)(n m:Nat)(Inv:aE)(hn:m+n=l.length)(h0:∀a w,iz b N e a w->Inv w)(h:mf P b Q N l.toArray Inv (abW ks) (Ru P l.toArray (NoPanic Q) m) n (Array.replicate l.toArray.size false) e)(hm:P.follows .mixedOrders=true:=by kernel_rfl):cN P b (.region id l.toArray true) Q N e:=λa w aa=>by
 refine wp_region_noPanic (wp_region_any hm ?_);obtain⟨G,S,h1,h2,h3⟩:=aa;have hd:iz b N e a w.drew:=⟨G,S,h1,h2,h3.drew⟩;have h4:=aiR n _ a w.drew (h (nI.none _) a w.drew hd (h0 a _ hd));have e1:m+n=l.toArray.size:=by simpa using hn
 rw [e1] at h4;exact h4
end
def Jn(l:aC):∀v∈(av l).toArray.toList,v.oneCell'=true:=λv ab=>Bv l v (by simpa using ab)
def IY{l:aC}{n:Nat}(h:l.length=n):(av l).toArray.size=n:=by rw [fx,nM,h]
def xA:cu [0,0,0,0,0] 0:=cu.Lt (by omega) (by omega) (by omega) (by omega) (by omega) Ij
def dq:aC:=[0,0,0,0,0]
abbrev fG(l:aC):aL:=.p [.agg 5 (av l).toArray]
def ng{l:aC}(h:l.length=5):ch [.agg 5 (av l).toArray]:=λq hq=>by rw [bU.1 hq];exact⟨IY h,Jn l⟩
abbrev xB(v:Nums.F):fm {r:aC // cu r v}:={ ret:=λr=>.q (fG r.1) }
def Spec.el{f:FuncId}{args:cU}{F:aE}{v:Nums.F}(h:∀w,F w->Calls prog f args.toArray w λe w'=>∃r,cu r v/\e = .returned (.agg (av r).toArray)/\Below w.heap.size w w'):Spec f args [] F (xB v):=λw S _ bm _ hF =>
 (h w hF.now).mono λ_ _ ⟨r,hr,he,hb⟩=>⟨⟨r,hr⟩,S,he,ng hr.len,dO.wW hb,bm.fO λk hk=>hb.block k (bm.lt k hk),λ_ h _=>h,λ_ _=>trivial, au⟩
instance:dc j6:=⟨λ_ _ h hb=>h.below hb⟩
section
variable{b:bO}{fn:Func}{N:Nat}{E:aG}{L:aH}{F M:aE}{rs:List ResultVar}
def Dy{v:Nums.F}(r:aC)(ab:cu r v)(hr:fn.results=rs.toArray)(hs:rs.length<=3)(h:yf jx E L rs=some [fG r]):cl b (bodyPost prog fn (tk b (xB v)) .ret) N ⟨E,L,[],F,M⟩:=dk an ⟨r,ab⟩ hr (hs:=hs) h rfl rfl aD λ_ _=>trivial
end
def uj:rX 232 5:=⟨_,zD,by kernel_rfl⟩
def R4{F:aE}(a0 a1 a2 a3 a4:Nat)(h0:a0<18446744073709551616)(h1:a1<18446744073709551616)(h2:a2<18446744073709551616)(h3:a3<18446744073709551616)(h4:a4<18446744073709551616):cV F 212 [fG [a0,a1,a2,a3,a4]] (one (.q (fG (z8 a0 a1 a2 a3 a4)))):=⟨avX,Spec.pure (ng rfl) λw _=>amB a0 a1 a2 a3 a4 h0 h1 h2 h3 h4 w⟩
abbrev Nu(s:Nat):aL:=.p [.agg 2 (kV s)]
abbrev Nt(n:Nat):aL:=.c (.v (.int .u64 ((n:Nat):Int)))
def GL(s:Nat):ch [.agg 2 (kV s)]:=λq hq=>by rw [bU.1 hq];exact⟨akC s,λv ab=>akB s v ab⟩
section
variable{b:bO}{Q:bK}{N:Nat}{E:aG}{L:aH}{R:bF}{F M:aE}{y:Code}
def F9(j:Nat){ai:cJ}(ps':cJ)(hl:mJ L j=some ai)(he:a7 ps'=a7 ai)(bx:ch ps')(hn:cN prog b y Q N ⟨E,rj L j ps',R,F,M⟩):cN prog b y Q N ⟨E,L,R,F,M⟩:=λa w ⟨G,S,g1,g2,g3⟩=>by obtain⟨u,hu,rfl,hps⟩:=tR hl;have hb:=g3.at u hu;have h:=g3.set (Ic hl) bx;rw [he,<-hps,setRow_self w (G u.j) _ u.t (0,0) hb] at h;exact hn a w ⟨G,S,g1,g2,h⟩
end
section
variable{F:aE}
def JN{s a b:Nat}(ha:a<18446744073709551616)(hb:b<18446744073709551616)(hs:s+a*b<(2^128)):cV F 209 [Nu s,Nt a,Nt b] (one (.q (Nu (s+a*b)))):=⟨λ_ _=>by go_simp,Spec.pure (GL _) λw _=>axW s a b ha hb hs w⟩
def Lk{s:Nat}:cV F 210 [Nu s] (one (.q (Nt ((s%2251799813685248:Nat))))):=⟨awJ,Spec.pure trivial λw _=>auD s w⟩
def Kr{s:Nat}(hs:s<41538374868278621028243970633760768):cV F 211 [Nu s] (one (.q (Nt (s/2251799813685248:Nat)))):=⟨awC,Spec.pure trivial λw _=>aqD s hs w⟩
end
def zI{x y:mn}{L:aH}:∀z∈[x],z∈y::x::L:=λz hz=>by rw [bU.1 hz];exact .tail _ (.head _)
def HF{b:bO}{N:Nat}{E:aG}{x y:mn}{L:aH}{R:bF}{F M:aE}(hx:x.g.isSome=true):∀a w,iz b N ⟨E,y::x::L,R,F,M⟩ a w->iV [x] w:=iE λz hz=>⟨zI z hz,by rw [bU.1 hz];exact hx⟩
def LX(a c:Nat)(h:a<9223372036854775808):IntKind.i64.wrap ((a:Int).tdiv (c:Int))=((a/c:Nat):Int):=by have h2:=qA a c;rw [show(a:Int).tdiv (c:Int)=((a/c:Nat):Int) from rfl];generalize a/c=d at *;rw [i64_left,wrap64_in _ (by omega)]
structure ak5 where
  k:Nat
  c0:Nat
  c1:Nat
  c2:Nat
  c3:Nat
  c4:Nat
  s0:Nat
  s1:Nat
  s2:Nat
  s3:Nat
  s4:Nat
section
variable{F:aE}[dc F]{a b:aC}{x y:Nums.F}
def jr(ha:cu a x)(hb:cu b y):cV F 171 [fG a,fG b] (xB (x*y)):=⟨aw6,by
 obtain⟨b0,b1,b2,b3,b4,rfl,r0,r1,r2,r3,r4,rv⟩:=hb.ye;refine bA [fG a,fG [b0,b1,b2,b3,b4]] 95 func171 rfl (ab:=dZ (ng ha.len) (ng rfl)) λB=>ag rfl ?_;refine rS λG=>?_;refine ao λK hK=>?_;refine lv [0,1,2,3,4,5,6,7,8,9,10,11,12,13,14] 20 0 (iV [⟨3,some (G 3),234,[.agg 5 (av [b0,b1,b2,b3,b4]).toArray]⟩]) rfl (HF rfl) ?_;refine LO an 0 rfl rfl rfl rfl zI (kp (.a 3 (0+1*0)) 1 rfl rfl rfl (eO 0 rfl zD rfl rfl rfl (by decide)) (CB (.v (.int .u64 (b0:Int))) 2 rfl rfl rfl zI (λ_ h=>h) (CF _ rfl rfl rfl rfl zC rfl) (LO an 3 rfl rfl rfl rfl zI (kp (.a 3 (0+1*1)) 4 rfl rfl rfl (eO 1 rfl zD rfl rfl rfl (by decide)) (CB (.v (.int .u64 (b1:Int))) 5 rfl rfl rfl zI (λ_ h=>h) (CF _ rfl rfl rfl rfl zC rfl) (LO an 6 rfl rfl rfl rfl zI (kp (.a 3 (0+1*2)) 7 rfl rfl rfl (eO 2 rfl zD rfl rfl rfl (by decide)) (CB (.v (.int .u64 (b2:Int))) 8 rfl rfl rfl zI (λ_ h=>h) (CF _ rfl rfl rfl rfl zC rfl) (LO an 9 rfl rfl rfl rfl zI (kp (.a 3 (0+1*3)) 10 rfl rfl rfl (eO 3 rfl zD rfl rfl rfl (by decide)) (CB (.v (.int .u64 (b3:Int))) 11 rfl rfl rfl zI (λ_ h=>h) (CF _ rfl rfl rfl rfl zC rfl) (LO an 12 rfl rfl rfl rfl zI (kp (.a 3 (0+1*4)) 13 rfl rfl rfl (eO 4 rfl zD rfl rfl rfl (by decide)) (CB (.v (.int .u64 (b4:Int))) 14 rfl rfl rfl zI (λ_ h=>h) (CF _ rfl rfl rfl rfl zC rfl) ?_))))))))))))));refine eN 15 rfl λK2 aM=>kz rfl (aM _ (HF rfl) ?_);refine eN 16 rfl λK2 aM=>kz rfl (aM _ (HF rfl) ?_);refine eN 17 rfl λK2 aM=>kz rfl (aM _ (HF rfl) ?_);refine eN 18 rfl λK2 aM=>kz rfl (aM _ (HF rfl) ?_);refine eN 19 rfl λK2 aM=>kz rfl (aM _ (HF rfl) ?_);refine kQ [] rfl (kz rfl (hK _ (ag rfl (F9 10 [.agg 2 (kV 0)] rfl rfl (GL 0) (F9 11 [.agg 2 (kV 0)] rfl rfl (GL 0) (F9 12 [.agg 2 (kV 0)] rfl rfl (GL 0) (F9 13 [.agg 2 (kV 0)] rfl rfl (GL 0) (F9 14 [.agg 2 (kV 0)] rfl rfl (GL 0) (ao λK1 aS=>ag rfl (a8 ?_))))))))));let V:ak5->Env:=λs=>⟨[(32,.aT s.k),(5,.v (.int .u64 ((s.c0:Nat):Int))),(6,.v (.int .u64 ((s.c1:Nat):Int))),(7,.v (.int .u64 ((s.c2:Nat):Int))),(8,.v (.int .u64 ((s.c3:Nat):Int))),(9,.v (.int .u64 ((s.c4:Nat):Int))),(2,.a 2 0),(4,.a 4 0),(10,.a 10 0),(11,.a 11 0),(12,.a 12 0),(13,.a 13 0),(14,.a 14 0)],[⟨14,none,318,[.agg 2 (kV s.s4)]⟩,⟨13,none,318,[.agg 2 (kV s.s3)]⟩,⟨12,none,318,[.agg 2 (kV s.s2)]⟩,⟨11,none,318,[.agg 2 (kV s.s1)]⟩,⟨10,none,318,[.agg 2 (kV s.s0)]⟩,⟨4,some (G 4),234,[.agg 5 (av [0,0,0,0,0]).toArray]⟩,⟨2,some (G 2),234,[.agg 5 (av a).toArray]⟩],[],F,λ_=>True⟩;refine cI (e':=V ⟨0,b0,b1,b2,b3,b4,0,0,0,0,0⟩) (fC rfl rfl rfl λ_ h _=>h) (cY (λs=>5-s.k) V (λs=>s.k<=5/\Bq a y s.k s.c0 s.c1 s.c2 s.c3 s.c4 s.s0 s.s1 s.s2 s.s3 s.s4) ?_ ⟨0,b0,b1,b2,b3,b4,0,0,0,0,0⟩ ⟨bl _,Bq.start r0 r1 r2 r3 r4 rv⟩);rintro⟨k,c0,c1,c2,c3,c4,s0,s1,s2,s3,s4⟩ ⟨hk,hM⟩;dsimp only at hk hM;refine ag rfl (ao λK2 aM=>?_);refine bn ((k:Int)<5) rfl (λal=>?_) (λcW=>?_)
 .have al:k<5:=by omega
  have hN:=hM.next ha al;have ab:=Ae ha al;obtain⟨g0,g1,g2,g3,g4,u4,t0,t1,t2,t3,t4⟩:c0<42784196465000448/\c1<42784196465000448/\c2<42784196465000448/\c3<42784196465000448/\c4<42784196465000448/\c4<2251799813947392/\s0<=385365782560107868259994584612864/\s1<=385365782560107868259994584612864/\s2<=385365782560107868259994584612864/\s3<=385365782560107868259994584612864/\s4<=385365782560107868259994584612864:=by obtain⟨_,_,g0,g1,g2,g3,g4,u0,u1,u2,u3,u4,t0,t1,t2,t3,t4⟩:=hM;exact⟨g0,g1,g2,g3,g4,u4 (by omega),by omega,by omega,by omega,by omega,by omega⟩
  have p0:=AY ab g0;have fc:=AY ab g1;have p2:=AY ab g2;have p3:=AY ab g3;have p4:=AY ab g4;have rd:(a7 [.agg 5 (av a).toArray])[0+k]?=some (.int .u64 ((a[k]! : Nat):Int)):=xp (by rw [ha.len];exact al);obtain⟨v,hve⟩:∃v,v=a[k]!:=⟨_,rfl⟩;rw [<-hve] at hN ab p0 fc p2 p3 p4 rd;refine aR (aM _ (ao λK3 bu=>a8 (ag rfl (ck λK hK=>dP rfl (lp rfl uj al (.int .u64 (v:Int)) rd (cR hK rfl (ck λK hK=>cX (JN (s:=s0) (a:=v) (b:=c0) (by omega) (by omega) (by omega)) (λ_=>rfl) rfl λ_=>cR hK rfl (ck λK hK=>cX (JN (s:=s1) (a:=v) (b:=c1) (by omega) (by omega) (by omega)) (λ_=>rfl) rfl λ_=>cR hK rfl (ck λK hK=>cX (JN (s:=s2) (a:=v) (b:=c2) (by omega) (by omega) (by omega)) (λ_=>rfl) rfl λ_=>cR hK rfl (ck λK hK=>cX (JN (s:=s3) (a:=v) (b:=c3) (by omega) (by omega) (by omega)) (λ_=>rfl) rfl λ_=>cR hK rfl (ck λK hK=>cX (JN (s:=s4) (a:=v) (b:=c4) (by omega) (by omega) (by omega)) (λ_=>rfl) rfl λ_=>cR hK rfl (cE rfl (bu _ (cE rfl ?_))))))))))))));exact cH ⟨k+1,19*c4,c0,c1,c2,c3,s0+v*c0,s1+v*c1,s2+v*c2,s3+v*c3,s4+v*c4⟩ ⟨al,hN⟩ (by show 5-(k+1)<5-k;omega) ⟨⟨congrArg (λx=>some (aq.v (.int .i64 x))) (gv k 1 (by omega)),congrArg (λx=>some (aq.v (.int .u64 x))) (by show IntKind.u64.wrap (19*(c4:Int))=((19*c4:Nat):Int);rw [jN];omega),rfl,rfl,rfl,rfl,rfl,rfl,rfl,rfl,rfl,rfl,rfl,trivial⟩,c8 rfl rfl, .refl _,λ_ h _=>h,λ_ h=>h⟩
 .obtain rfl:k=5:=by omega
  obtain⟨ab,m0,m1,m2,m3,m4,d0,d1,d2,d3,d4⟩:=hM.fin ha;have hE:cu (z8 (s0%2251799813685248+19*(s4/2251799813685248)) (s1%2251799813685248+s0/2251799813685248) (s2%2251799813685248+s1/2251799813685248) (s3%2251799813685248+s2/2251799813685248) (s4%2251799813685248+s3/2251799813685248)) (x*y):=by have hE:=Wg (a0:=s0%2251799813685248+19*(s4/2251799813685248)) (a1:=s1%2251799813685248+s0/2251799813685248) (a2:=s2%2251799813685248+s1/2251799813685248) (a3:=s3%2251799813685248+s2/2251799813685248) (a4:=s4%2251799813685248+s3/2251799813685248) (by omega) (by omega) (by omega) (by omega) (by omega);have h:bJ (ew (z8 s0 s1 s2 s3 s4))=x*y:=ab;unfold z8 at h;rw [h] at hE;exact hE
  refine cG (a6 (a6 (cF (aS _ (eU 29 [] λK hK G S w0 aa=>bR aa (Lk (s:=s0)) rfl λ_=>bR aa (Kr m4) rfl λ_=>bR aa (Lk (s:=s1)) rfl λ_=>bR aa (Kr m0) rfl λ_=>bR aa (Lk (s:=s2)) rfl λ_=>bR aa (Kr m1) rfl λ_=>bR aa (Lk (s:=s3)) rfl λ_=>bR aa (Kr m2) rfl λ_=>bR aa (Lk (s:=s4)) rfl λ_=>bR aa (Kr m3) rfl λ_=>cw aa rfl (fb 71 ((s0%2251799813685248+19*(s4/2251799813685248):Nat):Int) rfl (by rw [jN,jN];omega) (fb 76 ((s1%2251799813685248+s0/2251799813685248:Nat):Int) rfl (by rw [jN];omega) (fb 81 ((s2%2251799813685248+s1/2251799813685248:Nat):Int) rfl (by rw [jN];omega) (fb 86 ((s3%2251799813685248+s2/2251799813685248:Nat):Int) rfl (by rw [jN];omega) (fb 91 ((s4%2251799813685248+s3/2251799813685248:Nat):Int) rfl (by rw [jN];omega) (FI aa (.q (.p [.agg 5 (av [s0%2251799813685248+19*(s4/2251799813685248),s1%2251799813685248+s0/2251799813685248,s2%2251799813685248+s1/2251799813685248,s3%2251799813685248+s2/2251799813685248,s4%2251799813685248+s3/2251799813685248]).toArray])) (ng rfl) (λC0 Q' _ hQ=>C3 ([s0%2251799813685248+19*(s4/2251799813685248),s1%2251799813685248+s0/2251799813685248,s2%2251799813685248+s1/2251799813685248,s3%2251799813685248+s2/2251799813685248,s4%2251799813685248+s3/2251799813685248].zipIdx.map λx=>(x.2,.int .u64 ((x.1:Nat):Int))) (av [s0%2251799813685248+19*(s4/2251799813685248),s1%2251799813685248+s0/2251799813685248,s2%2251799813685248+s1/2251799813685248,s3%2251799813685248+s2/2251799813685248,s4%2251799813685248+s3/2251799813685248]).toArray rfl rfl rfl (by kernel_rfl) hQ) (bR aa (R4 (s0%2251799813685248+19*(s4/2251799813685248)) (s1%2251799813685248+s0/2251799813685248) (s2%2251799813685248+s1/2251799813685248) (s3%2251799813685248+s2/2251799813685248) (s4%2251799813685248+s3/2251799813685248) (by omega) (by omega) (by omega) (by omega) (by omega)) rfl λ_=>fz aa rfl hK rfl (aJ ?_)))))))))))));exact Dy _ hE rfl (by decide) rfl⟩
omit [dc F] in
def zZ(ha:cu a x)(hb:cu b y):cV F 178 [fG a,fG b] (xB (x+y)):=⟨aw5,by
 refine bA [fG a,fG b] 23 func178 rfl (ab:=dZ (ng ha.len) (ng hb.len)) λB=>ag rfl (ao λK1 aS=>ag rfl (a8 ?_));let f:aK:=λj=>a[j]! + b[j]!;let V:Nat->Env:=λk=>⟨[(6,.aT k),(2,.a 2 0),(3,.a 3 0),(4,.a 4 0)],[⟨4,none,234,[.agg 5 (av [0,0,0,0,0]).toArray]⟩,⟨3,none,234,[.agg 5 (av b).toArray]⟩,⟨2,none,234,[.agg 5 (av (km f a k)).toArray]⟩],[],F,λ_=>True⟩;have eL:(some ⟨2,none,234,[.agg 5 (av a).toArray]⟩:Option mn)=some ⟨2,none,234,[.agg 5 (av (km f a 0)).toArray]⟩:=by rw [UJ _ ha.len]
 refine cI (e':=V 0) ⟨dB rfl, ⟨rfl,rfl,rfl,rfl,eL,rfl,trivial⟩,.refl _,λ_ h _=>h, au⟩ (cY (λk=>5-k) V (λk=>k<=5) ?_ 0 (bl _));intro k hk;refine ag rfl (ao λK2 aM=>?_);refine bn ((k:Int)<5) rfl (λal=>?_) (λcW=>?_)
 .have al:k<5:=by omega
  have ra:(a7 [.agg 5 (av (km f a k)).toArray])[0+k]?=some (.int .u64 ((a[k]! : Nat):Int)):=(xp (by rw [zr];exact al)).trans (by rw [UI _ _ al]);have rb:(a7 [.agg 5 (av b).toArray])[0+k]?=some (.int .u64 ((b[k]! : Nat):Int)):=xp (by rw [hb.len];exact al);have b0:=Ae ha al;have b1:=Ae hb al;refine aR (aM _ (ao λK3 bu=>a8 (ag rfl (w7 10 λG S w0 aa=>cw aa rfl (g8 aa rfl uj al (.int .u64 ((a[k]! : Nat):Int)) ra (cw aa rfl (g8 aa rfl uj al (.int .u64 ((b[k]! : Nat):Int)) rb (cw aa rfl (fb 17 ((f k:Nat):Int) rfl (by show _=((a[k]! + b[k]! : Nat):Int);rw [jN];omega) (sS aa rfl ?_))))))))));refine zo rfl uj al [.agg 5 (av (km f a (k+1))).toArray] (ng (zr _ _ _)) ?_ ?_ (ah (bu _ ?_))
  .show 0+k<(av (km f a k)).toArray.size;rw [fx,nM,zr];omega
  .show av (km f a (k+1))=(av (km f a k)).set (0+k) (.int .u64 ((f k:Nat):Int));rw [dI,av,av,<-Pj,oW]
  refine cE rfl ?_;exact cH (k+1) al (by show 5-(k+1)<5-k;omega) ⟨⟨congrArg (λx=>some (aq.v (.int .i64 x))) (gv k 1 (by omega)),rfl,rfl,rfl,trivial⟩,c8 rfl rfl, .refl _,λ_ h _=>h,λ_ h=>h⟩
 .obtain rfl:k=5:=by omega
  obtain⟨a0,a1,a2,a3,a4,rfl,p0,fc,p2,p3,p4,pv⟩:=ha.ye;obtain⟨b0,b1,b2,b3,b4,rfl,r0,r1,r2,r3,r4,rv⟩:=hb.ye;have hE:=Wg (a0:=a0+b0) (a1:=a1+b1) (a2:=a2+b2) (a3:=a3+b3) (a4:=a4+b4) (by omega) (by omega) (by omega) (by omega) (by omega);rw [aGV,Cn,pv,rv] at hE;refine cG (a6 (a6 (cF (aS _ (ck λK hK=>cX (R4 (a0+b0) (a1+b1) (a2+b2) (a3+b3) (a4+b4) (by omega) (by omega) (by omega) (by omega) (by omega)) (λ_=>rfl) rfl λ_=>cR hK rfl (aJ ?_))))));exact Dy _ hE rfl (by decide) rfl⟩
def zJ(ha:cu a x)(hb:cu b y):cV j6 176 [fG a,fG b] (xB (x-y)):=⟨aw7,by
 refine bA [fG a,fG b] 27 func176 rfl (ab:=dZ (ng ha.len) (ng hb.len)) λB=>ag rfl (ao λK1 aS=>ag rfl (a8 ?_));let f:aK:=λj=>a[j]! + (Gh[j]! - b[j]!);let V:Nat->Env:=λk=>⟨[(6,.aT k),(2,.a 2 0),(3,.a 3 0),(4,.a 4 0)],[⟨4,none,234,[.agg 5 (av [0,0,0,0,0]).toArray]⟩,⟨3,none,234,[.agg 5 (av b).toArray]⟩,⟨2,none,234,[.agg 5 (av (km f a k)).toArray]⟩],[],j6,λ_=>True⟩;have eL:(some ⟨2,none,234,[.agg 5 (av a).toArray]⟩:Option mn)=some ⟨2,none,234,[.agg 5 (av (km f a 0)).toArray]⟩:=by rw [UJ _ ha.len]
 refine cI (e':=V 0) ⟨dB rfl, ⟨rfl,rfl,rfl,rfl,eL,rfl,trivial⟩,.refl _,λ_ h _=>h, au⟩ (cY (λk=>5-k) V (λk=>k<=5) ?_ 0 (bl _));intro k hk;refine ag rfl (ao λK2 aM=>?_);refine bn ((k:Int)<5) rfl (λal=>?_) (λcW=>?_)
 .have al:k<5:=by omega
  have ra:(a7 [.agg 5 (av (km f a k)).toArray])[0+k]?=some (.int .u64 ((a[k]! : Nat):Int)):=(xp (by rw [zr];exact al)).trans (by rw [UI _ _ al]);have rb:(a7 [.agg 5 (av b).toArray])[0+k]?=some (.int .u64 ((b[k]! : Nat):Int)):=xp (by rw [hb.len];exact al);have b0:=Ae ha al;have b1:=Ae hb al;have b2:=aDE al;refine aR (aM _ (ao λK3 bu=>a8 (ag rfl (w7 14 λG S w0 aa=>cw aa rfl (g8 aa rfl uj al (.int .u64 ((a[k]! : Nat):Int)) ra (cw aa rfl (UM aa rfl rfl rfl rfl uj al zC rfl (λw h=>h.at al) (cw aa rfl (g8 aa rfl uj al (.int .u64 ((b[k]! : Nat):Int)) rb (cw aa rfl (fb 21 ((f k:Nat):Int) rfl (by show _=((a[k]! + (Gh[k]! - b[k]!):Nat):Int);rw [jN,jN];omega) (sS aa rfl ?_))))))))))));refine zo rfl uj al [.agg 5 (av (km f a (k+1))).toArray] (ng (zr _ _ _)) ?_ ?_ (ah (bu _ ?_))
  .show 0+k<(av (km f a k)).toArray.size;rw [fx,nM,zr];omega
  .show av (km f a (k+1))=(av (km f a k)).set (0+k) (.int .u64 ((f k:Nat):Int));rw [dI,av,av,<-Pj,oW]
  refine cE rfl ?_;exact cH (k+1) al (by show 5-(k+1)<5-k;omega) ⟨⟨congrArg (λx=>some (aq.v (.int .i64 x))) (gv k 1 (by omega)),rfl,rfl,rfl,trivial⟩,c8 rfl rfl, .refl _,λ_ h _=>h,λ_ h=>h⟩
 .obtain rfl:k=5:=by omega
  obtain⟨a0,a1,a2,a3,a4,rfl,p0,fc,p2,p3,p4,pv⟩:=ha.ye;obtain⟨b0,b1,b2,b3,b4,rfl,r0,r1,r2,r3,r4,rv⟩:=hb.ye;have hE:=Wg (a0:=a0+(4503599627370458-b0)) (a1:=a1+(4503599627370494-b1)) (a2:=a2+(4503599627370494-b2)) (a3:=a3+(4503599627370494-b3)) (a4:=a4+(4503599627370494-b4)) (by omega) (by omega) (by omega) (by omega) (by omega);rw [aH8 r0 r1 r2 r3 r4,pv,rv] at hE;refine cG (a6 (a6 (cF (aS _ (ck λK hK=>cX (R4 (a0+(4503599627370458-b0)) (a1+(4503599627370494-b1)) (a2+(4503599627370494-b2)) (a3+(4503599627370494-b3)) (a4+(4503599627370494-b4)) (by omega) (by omega) (by omega) (by omega) (by omega)) (λ_=>rfl) rfl λ_=>cR hK rfl (aJ ?_))))));exact Dy _ hE rfl (by decide) rfl⟩
omit [dc F] in
def anZ(ha:cu a x):cV F 213 [fG a] (one (.q (fG (whole a)))):=⟨U9,Spec.pure (ng (Dt ha).1) λw _=>Rd ha w⟩
omit [dc F] in
def NZ(ha:cu a x):cV F 172 [fG a] (one (.q (aw 32 (fp x)))):=⟨awA,by
 obtain⟨hl,hb,hL⟩:=Dt ha;have xK:(fp x).length=32:=xX x;have BR:∀k,k<4->∀j,j<8->((fp x)[8*k+j]!).toNat=wd (ew (whole a)) k/2^(8*j)%256:=λk hk j hj=>by rw [aiK _ _ _ hj,hL];exact El 32 x.val (by omega)
 have hC:=anZ (F:=F) ha;generalize fp x=e at *;generalize whole a=l at *;have fok:∀n,ch [.agg 32 (By (ku e n)).toArray]:=λn=>(cq (JP e n)).1;refine bA [fG a] 51 func172 rfl (ab:=iG (ng ha.len)) λB=>ag rfl (ck λK hK=>cX hC (λ_=>rfl) rfl λ_=>cR hK rfl (ag rfl (ao λK1 aS=>ag rfl (a8 ?_))));let W:aG->Nat->Env:=λE n=>⟨E++[(2,.a 2 0),(3,.a 3 0),(4,.a 4 0)],[⟨4,none,47,[.agg 32 (By (ku e n)).toArray]⟩,⟨3,none,234,[.agg 5 (av l).toArray]⟩,⟨2,none,47,[.agg 32 (By (aB 32 0)).toArray]⟩],[],F,λ_=>True⟩;let V:Nat->Env:=λk=>W [(11,.aT k)] (8*k);have eL:(some ⟨4,none,47,[.agg 32 (By (aB 32 0)).toArray]⟩:Option mn)=some ⟨4,none,47,[.agg 32 (By (ku e (8*0))).toArray]⟩:=by rw [So]
 refine cI (e':=V 0) ⟨dB rfl, ⟨eL,rfl,rfl,rfl,rfl,rfl,trivial⟩,.refl _,λ_ h _=>h, au⟩ (cY (λk=>4-k) V (λk=>k<=4) ?_ 0 (bl _));intro k hk;refine ag rfl (ao λK2 aM=>?_);refine bn ((k:Int)<4) rfl (λal=>?_) (λcW=>?_)
 .have al:k<4:=by omega
  have hwd:=aF8 hl hb al;have hW:=BR k al;have q:∀i,i<5->(a7 [.agg 5 (av l).toArray])[0+i]?=some (.int .u64 ((l[i]! : Nat):Int)):=λi hi=>xp (by rw [hl];exact hi);have r1:=q (64*k/51) (by omega);have r2:=q (64*k/51+1) (by omega);have hr:64*k%51<=51:=by omega
  obtain⟨wk,HA⟩:∃wk,wk=wd (ew l) k:=⟨_,rfl⟩;rw [<-HA] at hwd hW;refine aR (aM _ (ao λK3 bu=>a8 (ag rfl (ck λK hK=>dP rfl (ca 6 ((64*k:Nat):Int) rfl (zp 64 k (by omega)) (ah (hK _ (eU 19 [] λK hK G S w0 aa=>cw aa rfl (fb 17 ((64*k/51:Nat):Int) rfl (LX (64*k) 51 (by omega)) (g8 aa rfl uj (by show 64*k/51<5;omega) _ r1 (cw aa rfl (fb 26 ((64*k/51+1:Nat):Int) rfl ((congrArg (λx=>IntKind.i64.wrap (x+1)) (LX (64*k) 51 (by omega))).trans (gv _ 1 (by omega))) (g8 aa rfl uj (by show 64*k/51+1<5;omega) _ r2 (AQ an aa rfl (fb 32 ((51-64*k%51:Nat):Int) rfl (rU 51 (64*k%51) hr (by omega)) (cw aa rfl (fb 34 ((wk:Nat):Int) rfl (by rw [oq.shr (64*k%51) (fo hr (by decide)),pq (by show 51-64*k%51<=64;omega),<-hwd,Int.natCast_ediv,Int.natCast_pow];rfl) (fz aa rfl hK rfl (ag rfl (a8 ?_))))))))))))))))))));let V2:Nat->Env:=λj=>W [(35,.aT j),(11,.aT k),(5,.aT k),(7,.v (.int .u64 ((wk:Nat):Int)))] (8*k+j);refine cI (e':=V2 0) (hv rfl rfl rfl) (cY (λj=>8-j) V2 (λj=>j<=8) ?_ 0 (bl _));intro j hj;refine ag rfl (ao λK4 bW=>?_);refine bn ((j:Int)<8) rfl (λTs=>?_) (λcW=>?_)
  .have Ts:j<8:=by omega
   have hbj:=hW j Ts;refine aR (bW _ (ao λK5 bN=>a8 (ag rfl (ef (aj rfl (ca 44 ((8*j:Nat):Int) rfl (zp 8 j (by omega)) (dP rfl (ca 41 ((8*k+j:Nat):Int) rfl ((congrArg (λx=>IntKind.i64.wrap (x+(j:Int))) (zp 8 k (by omega))).trans (gv _ j (by omega))) (ca 46 (((e[8*k+j]!).toNat:Nat):Int) rfl (by rw [oq.shr (8*j) (by omega),HV,hbj];omega) ?_)))))))));refine zo rfl BA (by show 8*k+j<32;omega) [.agg 32 (By (ku e (8*k+(j+1)))).toArray] (fok _) ?_ ?_ (kz rfl (bN _ ?_))
   .show 0+(8*k+j)<(By (ku e (8*k+j))).toArray.size;rw [fx,dH,JP];omega
   .show By (ku e (8*k+j+1))=(By (ku e (8*k+j))).set (0+(8*k+j)) (.int .u8 ((e[8*k+j]!).toNat:Int));rw [dI,By,By,<-Sn,oW]
   refine cE rfl ?_;exact cH (j+1) Ts (by show 8-(j+1)<8-j;omega) ⟨⟨congrArg (λx=>some (aq.v (.int .i64 x))) (gv j 1 (by omega)),rfl,rfl,rfl,rfl,rfl,rfl,trivial⟩,c8 rfl rfl, .refl _,λ_ h _=>h,λ_ h=>h⟩
  .obtain rfl:j=8:=by omega
   refine cG (a6 (a6 (cF (bu _ (cE rfl ?_)))));exact cH (k+1) al (by show 4-(k+1)<4-k;omega) ⟨⟨congrArg (λx=>some (aq.v (.int .i64 x))) (gv k 1 (by omega)),rfl,rfl,rfl,trivial⟩,c8 rfl rfl, .refl _,λ_ h _=>h,λ_ h=>h⟩
 .obtain rfl:k=4:=by omega
  have eL2:(some ⟨4,none,47,[.agg 32 (By (ku e (8*4))).toArray]⟩:Option mn)=some ⟨4,none,47,[.agg 32 (By e).toArray]⟩:=by rw [show 8*4=32 from rfl,Sm xK]
  refine cG (a6 (a6 (cF (aS _ ?_))));refine cI (e':=⟨[(2,.a 2 0),(4,.a 4 0)],[⟨4,none,47,[.agg 32 (By e).toArray]⟩,⟨2,none,47,[.agg 32 (By (aB 32 0)).toArray]⟩],[],F,λ_=>True⟩) ⟨⟨rfl,rfl,trivial⟩,⟨eL2,rfl,rfl,rfl,trivial⟩,.refl _,λ_ h _=>h,λ_ h=>h⟩ ?_;refine ag rfl (aJ ?_);exact bE () rfl aD λ_ _=>trivial⟩
end
end Go.Proofs.Q
namespace Nums
end Nums
namespace Go.Proofs.Q
open Go.RowKit Go.IntWalk Nums
end Go.Proofs.Q
namespace Nums
end Nums
namespace Go.Proofs.Q
open Go.RowKit Go.IntWalk Nums
def zf(b:ae):Bool:=decide ((b[31]!).toNat<128)&&decide (fp (bJ (le b%(2^255)))=b)
def aF9(T y q r:Nat)(hr:r<8)(hT:T<256^(8*q+r))(hy:y<256)(j:Nat) :
  wd (T+256^(8*q+r)*y) j=if j=q then wd T j+256^r*y else wd T j:=by
 have hp:(256:Nat)^(8*q+r)=18446744073709551616^q*256^r:=by rw [wV,AK]
 have hr8:(256:Nat)^(r+1)<=18446744073709551616:=Ex (by omega) (show r+1<=8 by omega);have hr9:(256:Nat)^(r+1)=256^r*256:=k8 ..;have hm:(256:Nat)^r*y<=256^r*255:=yJ (aQ _) (by omega);rw [hp] at hT ⊢;have hPq:0<(18446744073709551616:Nat)^q:=MA (by omega)
 unfold wd
 by_cases EP:j=q
 .subst EP;rw [if_pos rfl,vk,Qn _ _ hPq];have hz:T/18446744073709551616^j<256^r:=Lq hT;rw [gm (by omega),gm (by omega)]
 .rw [if_neg EP]
  rcases Nat.lt_or_gt_of_ne EP with al|EM
  .obtain⟨d,rfl⟩:∃d,q=j+1+d:=⟨q-j-1,by omega⟩
   have e:(18446744073709551616:Nat)^(j+1+d)*256^r*y=18446744073709551616^j*(18446744073709551616*(18446744073709551616^d*256^r*y)):=by rw [wV,k8];simp only [vk]
   rw [e,Qn _ _ (MA (by omega)),GV]
  .obtain⟨d,rfl⟩:∃d,j=q+1+d:=⟨j-q-1,by omega⟩
   have e:(18446744073709551616:Nat)^(q+1+d)=18446744073709551616^q*18446744073709551616*18446744073709551616^d:=by rw [wV,k8]
   have hd:0<(18446744073709551616:Nat)^d:=MA (by omega);have hb:18446744073709551616^q*18446744073709551616<=(18446744073709551616:Nat)^(q+1+d):=by rw [e];exact Nat.le_mul_of_pos_right _ hd
   have h1:18446744073709551616^q*256^r+18446744073709551616^q*256^r*y<=18446744073709551616^q*18446744073709551616:=by rw [vk,<-Cw];exact yJ (aQ _) (by omega)
   rw [r9 (by omega),r9 (by omega)]
def ab8{b:ae}{n:Nat}(h:n<b.length):le (b.take (n+1))=le (b.take n)+256^n*(b[n]!).toNat:=by rw [Eu h,Du,du,pq (by omega),getElem!_pos b n h];show le (b.take n)+256^n*((b[n]).toNat+256*0)=_;rw [AB,jP]
def qo(b:ae)(n:Nat):aC:=(dV 5).map λj=>wd (le (b.take n)) j
def ME(b:ae)(n:Nat):(qo b n).length=5:=by simp [qo]
def aiL(b:ae)(n:Nat){j:Nat}(h:j<5):(qo b n)[j]! = wd (le (b.take n)) j:=by rw [getElem!_pos _ j (by rw [ME];exact h)];simp [qo]
def aFC(b:ae):qo b 0=[0,0,0,0,0]:=by
 have e:∀j,wd (le (b.take 0)) j=0:=λj=>by show 0/_%_=0;rw [Nat.zero_div]
 simp only [qo,e];rfl
def aFA{T n:Nat}(hT:T<256^n):wd T (n/8)<2^(8*(n%8)):=by
 have e:(256:Nat)^n=18446744073709551616^(n/8)*2^(8*(n%8)):=by
  have h:(256:Nat)^n=256^(8*(n/8)+n%8):=by congr 1;omega
  rw [h,wV,AK,AK]
 rw [e] at hT;have hz:=Lq hT;exact nc (Nat.mod_le _ _) hz
def aFB{b:ae}{n:Nat}(h:n<b.length):(qo b n).set (n/8) (wd (le (b.take n)) (n/8)+2^(8*(n%8))*(b[n]!).toNat)=qo b (n+1):=by
 have hT:=DN (b.take n);rw [du,pq (by omega)] at hT;have e2:(256:Nat)^n=256^(8*(n/8)+n%8):=by congr 1;omega
 have e3:(2:Nat)^(8*(n%8))=256^(n%8):=by rw [AK]
 have hy:=(b[n]!).toNat_lt;apply qv (by simp [qo]);intro j h1 h2;have hj:j<5:=by simpa [qo] using h2
 rw [Fq];simp only [qo,H5,HU];rw [ab8 h,e2,aF9 _ _ _ _ (by omega) (by rw [<-e2];exact hT) hy];by_cases EP:n/8=j
 .subst EP;rw [if_pos rfl,if_pos rfl,e3]
 .rw [if_neg EP,if_neg (λe=>EP e.symm)]
def avO{eS y m:Nat}(hm:m<=56)(hold:eS<2^m)(hy:y<256) :
  bits .or .u64 (eS:Int) (IntKind.u64.wrap ((y:Int)*2^m))=((eS+2^m*y:Nat):Int):=by
 have hp:(2:Nat)^m<=2^56:=Ex (by omega) hm
 have h56:(2:Nat)^56=72057594037927936:=by decide
 have hx:y*2^m<=255*2^56:=yJ (by omega) hp
 have f2:IntKind.u64.wrap ((y:Int)*2^m)=((y*2^m:Nat):Int):=by
  have:((y:Int)*2^m)=((y*2^m:Nat):Int):=by simp
  rw [this,mU _ (by omega)]
 rw [f2,u64_or_nat _ _ (by omega) (by omega),sK,nat_join m _ _ (Nat.mul_mod_left ..) hold,zh,oV]
def lbs(L:Nat):aC:=(dV 5).map λi=>L/2251799813685248^i%2251799813685248
def atT(L:Nat):cu (lbs L) (bJ (L%(2^255))):=by refine cu.Lt (a0:=L/2251799813685248^0%2251799813685248) (a1:=L/2251799813685248^1%2251799813685248) (a2:=L/2251799813685248^2%2251799813685248) (a3:=L/2251799813685248^3%2251799813685248) (a4:=L/2251799813685248^4%2251799813685248) (by omega) (by omega) (by omega) (by omega) (by omega) ?_;congr 1;rw [qX];simp only [fH];omega
def atS{L:Nat}(hL:L<(2^256)){i:Nat}(hi:i<5) :
  bits .and .u64 (bits .or .u64 ((wd L (51*i/64):Nat)/2^(51*i%64):Int) (IntKind.u64.wrap ((wd L (51*i/64+1):Nat)*2^(64-51*i%64):Int))) 2251799813685247=((L/2251799813685248^i%2251799813685248:Nat):Int):=by
 have key:∀(k x y r t R:Nat),y*2^t%18446744073709551616%2^k=0->x/2^r<2^k->x/2^r<18446744073709551616->y*2^t%18446744073709551616+x/2^r<18446744073709551616->(y*2^t%18446744073709551616+x/2^r)%2251799813685248=R ->
   bits .and .u64 (bits .or .u64 ((x:Nat)/2^r:Int) (IntKind.u64.wrap ((y:Nat)*2^t:Int))) 2251799813685247=(R:Int):=by
  intro k x y r t R e1 e2 e3 e5 e4
  have f1:((x:Int)/2^r)=((x/2^r:Nat):Int):=by simp
  have f2:IntKind.u64.wrap ((y:Int)*2^t)=((y*2^t%18446744073709551616:Nat):Int):=by rw [jN];simp
  rw [f1,f2,u64_or_nat _ _ e3 (by omega),sK,nat_join k _ _ e1 e2,Il _ e5,e4]
 have h5:i=0\/i=1\/i=2\/i=3\/i=4:=by omega
 unfold wd
 rcases h5 with rfl|rfl|rfl|rfl|rfl
 .exact key 64 (L/18446744073709551616^0%18446744073709551616) (L/18446744073709551616^1%18446744073709551616) 0 64 _ (by omega) (by omega) (by omega) (by omega) (by simp only [fH];omega)
 .exact key 13 (L/18446744073709551616^0%18446744073709551616) (L/18446744073709551616^1%18446744073709551616) 51 13 _ (by omega) (by omega) (by omega) (by omega) (by simp only [fH];omega)
 .exact key 26 (L/18446744073709551616^1%18446744073709551616) (L/18446744073709551616^2%18446744073709551616) 38 26 _ (by omega) (by omega) (by omega) (by omega) (by simp only [fH];omega)
 .exact key 39 (L/18446744073709551616^2%18446744073709551616) (L/18446744073709551616^3%18446744073709551616) 25 39 _ (by omega) (by omega) (by omega) (by omega) (by simp only [fH];omega)
 .exact key 52 (L/18446744073709551616^3%18446744073709551616) (L/18446744073709551616^4%18446744073709551616) 12 52 _ (by omega) (by omega) (by omega) (by omega) (by simp only [fH];omega)
def awL:Own 165:=λ_ _=>by go_simp
def ac8{F:aE}[dc F]{b:ae}{α:Type}{g:α->cM}(hb:b.length=32)(hy:zf b=true->∀r,cu r (bJ (le b%(2^255)))->∃v,g v = .t [fG r,.c (.v (.bool true))])(hn:zf b=false->∃v,g v = .t [fG dq,.c (.v (.bool false))]):cV F 165 [aw 32 b] { ret:=g }:=⟨awL,by
 have hG:zf b=decide (fp (bJ (le b%(2^255)))=b):=by
  unfold zf;by_cases he:fp (bJ (le b%(2^255)))=b
  .have h128:(b[31]!).toNat<128:=by
    have:=VV (bJ (le b%(2^255)))
    rwa [he] at this
   rw [decide_eq_true h128,Bool.true_and]
  .rw [decide_eq_false he,Bool.and_false]
 rw [hG] at hy hn;clear hG;let f:aK:=λi=>le b/2251799813685248^i%2251799813685248;have hE:cu (km f [0,0,0,0,0] 5) (bJ (le b%(2^255))):=atT (le b);generalize bJ (le b%(2^255))=z at *;have hL:=DN b;rw [hb] at hL;have hC:cV F 172 [fG (km f [0,0,0,0,0] 5)] (one (.q (aw 32 (fp z)))):=NZ hE;have hez:=xX z;generalize fp z=ez at *;refine bA [aw 32 b] 60 func165 rfl (ab:=iG (cq hb).1) λB=>ag rfl (ag rfl (ao λK1 aS=>ag rfl (a8 ?_)));let V:Nat->Env:=λn=>⟨[(9,.aT n),(1,.a 1 0),(2,.a 2 0),(4,.a 4 0)],[⟨4,none,232,[.agg 5 (av (qo b n)).toArray]⟩,⟨2,none,234,[.agg 5 (av dq).toArray]⟩,⟨1,none,47,[.agg 32 (By b).toArray]⟩],[],F,λ_=>True⟩;have eL:(some ⟨4,none,232,[.agg 5 (av [0,0,0,0,0]).toArray]⟩:Option mn)=some ⟨4,none,232,[.agg 5 (av (qo b 0)).toArray]⟩:=by rw [aFC]
 refine cI (e':=V 0) ⟨dB rfl, ⟨eL,rfl,rfl,rfl,rfl,rfl,trivial⟩,.refl _,λ_ h _=>h, au⟩ (cY (λn=>32-n) V (λn=>n<=32) ?_ 0 (bl _));intro n Hn;refine ag rfl (ao λK2 aM=>?_);refine bn ((n:Int)<32) rfl (λal=>?_) (λcW=>?_)
 .have al:n<32:=by omega
  have hT:=DN (b.take n);rw [du,pq (by omega)] at hT;have lH:=aFA hT;have h0:n/8<5:=by omega
  have ra:(a7 [.agg 5 (av (qo b n)).toArray])[0+n/8]?=some (.int .u64 ((wd (le (b.take n)) (n/8):Nat):Int)):=(xp (by rw [ME];exact h0)).trans (by rw [aiL b n h0]);have rb:(a7 [.agg 32 (By b).toArray])[0+n]?=some (.int .u8 ((b[n]!).toNat:Int)):=by rw [dI];exact ub (by omega)
  have hy8:=(b[n]!).toNat_lt;have hm:8*(n%8)<=56:=by omega
  have Oe:8*(n%8)<=64:=by omega
  refine aR (aM _ (ao λK3 bu=>a8 (ag rfl (w7 13 λG S w0 aa=>AQ an aa rfl (fb 13 ((n/8:Nat):Int) rfl (LX n 8 (by omega)) (g8 aa rfl uj h0 _ ra (AQ an aa rfl (g8 aa rfl BA al _ rb (AQ an aa rfl (fb 22 ((8*(n%8):Nat):Int) rfl ((zp (n%8) 8 (by omega)).trans (by rw [oV])) (cw aa rfl (fb 24 ((wd (le (b.take n)) (n/8)+2^(8*(n%8))*(b[n]!).toNat:Nat):Int) rfl (by rw [mU _ (by omega),show min (8*(n%8)) IntKind.u64.bits=8*(n%8) from pq Oe];exact avO hm lH hy8) (sS aa rfl ?_)))))))))))));refine zo rfl uj h0 [.agg 5 (av (qo b (n+1))).toArray] (ng (ME _ _)) ?_ ?_ (ah (bu _ ?_))
  .show 0+n/8<(av (qo b n)).toArray.size;rw [fx,nM,ME];omega
  .show av (qo b (n+1))=(av (qo b n)).set (0+n/8) (.int .u64 _);rw [dI,av,av,<-aFB (by omega),oW]
  refine cE rfl ?_;exact cH (n+1) al (by show 32-(n+1)<32-n;omega) ⟨⟨congrArg (λx=>some (aq.v (.int .i64 x))) (gv n 1 (by omega)),rfl,rfl,rfl,trivial⟩,c8 rfl rfl, .refl _,λ_ h _=>h,λ_ h=>h⟩
 obtain rfl:n=32:=by omega
 have hT:b.take 32=b:=kE (by omega);have rw5:∀j,j<5->(a7 [.agg 5 (av (qo b 32)).toArray])[0+j]?=some (.int .u64 ((wd (le b) j:Nat):Int)):=λj hj=>(xp (by rw [ME];exact hj)).trans (by rw [aiL b 32 hj,hT]);refine cG (a6 (a6 (cF (aS _ (ag rfl (ao λK1 aS=>ag rfl (a8 ?_)))))));let U:Nat->Env:=λk=>⟨[(27,.aT k),(1,.a 1 0),(2,.a 2 0),(4,.a 4 0),(6,.a 6 0)],[⟨6,none,234,[.agg 5 (av (km f [0,0,0,0,0] k)).toArray]⟩,⟨4,none,232,[.agg 5 (av (qo b 32)).toArray]⟩,⟨2,none,234,[.agg 5 (av dq).toArray]⟩,⟨1,none,47,[.agg 32 (By b).toArray]⟩],[],F,λ_=>True⟩;refine cI (e':=U 0) (hv rfl rfl rfl) (cY (λk=>5-k) U (λk=>k<=5) ?_ 0 (bl _));intro k hk;refine ag rfl (ao λK2 aM=>?_);refine bn ((k:Int)<5) rfl (λal=>?_) (λcW=>?_)
 .have al:k<5:=by omega
  have hlb:=atS hL al;have h0:51*k/64<5:=by omega
  have h1:51*k/64+1<5:=by omega
  have hr:51*k%64<=64:=by omega
  refine aR (aM _ (ao λK3 bu=>a8 (ag rfl (ck λK hK=>dP rfl (ca 8 ((51*k:Nat):Int) rfl (zp 51 k (by omega)) (ah (hK _ (w7 20 λG S w0 aa=>AQ an aa rfl (fb 34 ((51*k/64:Nat):Int) rfl (LX (51*k) 64 (by omega)) (g8 aa rfl uj h0 _ (rw5 _ h0) (cw aa rfl (fb 42 ((51*k/64+1:Nat):Int) rfl ((congrArg (λx=>IntKind.i64.wrap (x+1)) (LX (51*k) 64 (by omega))).trans (gv _ 1 (by omega))) (g8 aa rfl uj h1 _ (rw5 _ h1) (AQ an aa rfl (fb 47 ((64-51*k%64:Nat):Int) rfl (rU 64 (51*k%64) hr (by omega)) (cw aa rfl (fb 50 ((f k:Nat):Int) rfl (by rw [oq.shr (51*k%64) hr,pq (by show 64-51*k%64<=64;omega),Int.natCast_ediv,Int.natCast_pow];exact hlb) (sS aa rfl ?_))))))))))))))))));refine zo rfl uj al [.agg 5 (av (km f [0,0,0,0,0] (k+1))).toArray] (ng (zr _ _ _)) ?_ ?_ (ah (bu _ ?_))
  .show 0+k<(av (km f [0,0,0,0,0] k)).toArray.size;rw [fx,nM,zr];omega
  .show av (km f [0,0,0,0,0] (k+1))=(av (km f [0,0,0,0,0] k)).set (0+k) (.int .u64 ((f k:Nat):Int));rw [dI,av,av,<-Pj,oW]
  refine cE rfl ?_;exact cH (k+1) al (by show 5-(k+1)<5-k;omega) ⟨⟨congrArg (λx=>some (aq.v (.int .i64 x))) (gv k 1 (by omega)),rfl,rfl,rfl,rfl,trivial⟩,c8 rfl rfl, .refl _,λ_ h _=>h,λ_ h=>h⟩
 obtain rfl:k=5:=by omega
 refine cG (a6 (a6 (cF (aS _ (ao λK1 aS=>eU 4 [] λK hK G S w0 aa=>bR aa hC rfl λ_=>cw aa rfl (vH aa (.b (!decide (ez=b))) rfl (F7 rfl rfl rfl dp (by kernel_rfl) hez hb) (fz aa rfl hK rfl ?_)))))));refine pD (!decide (ez=b)) rfl (λh=>?_) (λh=>?_)
 .obtain⟨v,ab⟩:=hn (by rwa [Bool.not_eq_true'] at h);refine ag rfl (aJ ?_);exact dk an v rfl rfl ab rfl aD λ_ _=>trivial
 .obtain⟨v,ab⟩:=hy (by rwa [Bool.not_eq_false'] at h) _ hE;refine aR (aS _ (ag rfl (aJ ?_)));exact dk an v rfl rfl ab rfl aD λ_ _=>trivial⟩
section
variable{b:bO}{Q:Exit → Act → yp → Prop}{ops:aZ}{N fuel i k:Nat}{E:aG}{L L0:aH}{R R' own:bF}{F M F' Inv:yp → Prop}{o:yk}{rest:aN}{p:Nat → Bool}{Fin:et → Act → yp → Prop}{listed:et}{v:aq}
def cK(i:Nat)(h:(ops[i]?, o.guard, o.dst, Nat.blt k N, pM o.op, nz jx E L0 o.op)=(some o, none, some k, true, true, some v))(c7:∀x∈L0, x∈L)(hI:∀w, Inv w → iV L0 w)
   (hn:mf prog b Q N ops Inv p Fin fuel (listed.setIfInBounds i true) ⟨(k, v)::E, L, R, F, M⟩)(hc:vm ops p i listed=true:=by kernel_rfl):mf prog b Q N ops Inv p Fin (fuel+1) listed ⟨E, L, R, F, M⟩ := by
  simp only [Prod.mk.injEq] at h;obtain⟨h1, h2, h3, h4, h5, h6⟩ := h;exact axA an i hc h1 (lu h2 h3 h4) h5 h6 c7 hI hn
def j3(i:Nat)(h:(ops[i]?, o.guard, o.dst, Nat.blt k N, pM o.op, nz jx E L0 o.op)=(some o, none, some k, true, true, some v))(c7:∀x∈L0, x∈L)
   (hn:mf prog b Q N ops (iV L0) p Fin fuel (listed.setIfInBounds i true) ⟨(k, v)::E, L, R, F, M⟩)(hc:vm ops p i listed=true:=by kernel_rfl):mf prog b Q N ops (iV L0) p Fin (fuel+1) listed ⟨E, L, R, F, M⟩ := cK i (hc:=hc) h c7 (fun _ h => h) hn
end
end Go.Proofs.Q
