import Derived.Test.YtedhfbgocgnilaaGreatDoorMd
import Derived.Test.YtedhfbgocgnilaaGreatDoorMa
import Derived.Test.YtedhfbgocgnilaaGreatDoorMc
import Derived.Test.YtedhfbgocgnilaaGreatDoorMb
import Derived.Lib.AppendZeros
import Derived.Maps.OwnSet
import Derived.Maps.Keyed
import Derived.Carry
import Derived.Maps.RangeRun
import Derived.RangeFuncNested
import Derived.RangeFuncBound
import Derived.RangeFuncCalls
import Derived.RangeFuncLeaves
import Derived.OrdersIn
open Go.Lib renaming hid->iB
open Option.some renaming inj->jm
open Bool renaming and_eq_true->dJ
open Go.Sem renaming run_bind->bI,run_pure->bM
open Go renaming World->yp
set_option linter.defProp false
open Go.Proofs.Tryz
set_option maxRecDepth 100000
set_option maxHeartbeats 2000000
open Array renaming toList_push->mY,mem_of_getElem?->oH,getElem?_eq_some_iff->po,getElem?_modify->P4,ext'->Mz,getElem?_toList->C2
open False renaming elim->tP
open Go.Act renaming put->nO
open Go.Builtin renaming zeroCells->kH,len_->oC
open Go.ChangeMaps renaming setBlock->iS,heap_setBlock_same->qG
open Go.Ending renaming returned->oT
open Go.Exit renaming inBlock->fB
open Go.Fence renaming wide->n5
open Go.Instr renaming lookup->iY,findKey->nD,checkKey->oS,mapUpdate->sA,index->tO,field->vX
open Go.MapKept renaming run_getObj_map->gW,run_setObj_map->tG
open Go.Next renaming value->oO
open Go.Obj renaming cells->j8
open Go.Op renaming equalIn->cO
open Go.Oper renaming wp->fW
open Go.Region renaming wanted->aU
open Go.Result renaming andThen->iQ,ok->pE,andThen_ok->bS
open Go.Value renaming int->bQ,bool->oE
open Int renaming fdiv->lP,fdiv_eq_ediv_of_nonneg->tM
open List renaming replicate->aB,setIfInBounds_toArray->eX,length->jQ,append_inj->sL,extract_eq_take_drop->tJ,append_nil->fj,length_append->aV,mem_singleton->bU,getElem?_eq_getElem->da,mem_cons->bT,getElem?_eq_some_iff->eY,mem_cons_of_mem->dS,mem_of_getElem?->eg,mem_cons_self->eh,length_take->du,append_assoc->ei,mem_map->dv,mem_append->iA,take_append_drop->oN,length_drop->k7,nil_append->lD,map_set->oW,set_cons_succ->Ah,set_cons_zero->C7,mem_range'_1->Dr,mem_append_left->HO,mem_append_right->KZ,forIn_cons->Q8,length_map->dL,size_toArray->fx,take_of_length_le->kE,length_set->jO,not_mem_nil->xG,getElem_mem->AD,map_append->jl,length_replicate->nb,take_length->kW,drop_zero->Dv,getElem?_map->lC,getElem?_of_mem->Dq,pairwise_map->QQ,nodup_append->QR
open List.Pairwise renaming nil->qE
open Nat renaming blt->aW,zero_add->dI,le_refl->aQ,le_of_ble_eq_true->cL,zero_le->bl,lt_of_le_of_lt->nc,add_sub_cancel_left->xD,le_trans->fo,min_eq_left->pq,le_of_eq->vF,mod_eq_of_lt->gm,pow_succ->k8,div_le_self->qA,mul_assoc->vk,div_div_eq_div_mul->C9,pow_zero->xW,pow_add->wV,sub_self->si,add_mul_div_left->Qn,pow_pos->MA,le_succ->DU
open Std.Legacy.Range renaming size->gC
open UInt8 renaming ofNat->bX,toNat_ofNat_of_lt'->mZ,toNat_lt->ur
namespace Go.Proofs.Q
open Go.RowKit Go.IntWalk Nums
def as2:(prog.info? 89).map (λi=>(i.zero,i.size,i.bytes))=some (some (.int .u64 0),1,8):=by kernel_rfl
def adF(w:yp)(l:aC)(i:Nat)(hi:i<l.length):(part 89 (av l).toArray (i*1)).run prog w = .ok (.int .u64 (l[i]:Nat)) w:=by
 have EE:(isAgg 89).run prog w = .ok false w:=by unfold isAgg;rw [bI,run_underlying zC w];rfl
 have hc:(av l)[i]?=some (.int .u64 (l[i]:Nat)):=by simp [av,da hi]
 unfold part;simp [bI,EE,hc,bM]
def avG(d x y:Nat)(w:yp):(cO (d+1) 89 (.int .u64 (x:Int)) (.int .u64 (y:Int))).run prog w = .ok (decide (x=y)) w:=by
 simp [cO,run_underlying zC];by_cases h:x=y
 .simp [h]
 .simp [h];omega
def Yu(d n t:Nat)(l m:aC)(ht:prog.underlying t=some (.array n 89))(hl:l.length=n)(hm:m.length=n)(w:yp) :
  (cO (d+2) t (.agg (av l).toArray) (.agg (av m).toArray)).run prog w = .ok (decide (l=m)) w:=by
 obtain⟨i0,qa,wS,vE,KS⟩:=info_parts as2
 have hI:∀(I:aC),(∀i∈I,i<n)->(forIn I ((none:Option Bool),()) λi _=>do
   let a <-part 89 (av l).toArray (i*1)
   let b <-part 89 (av m).toArray (i*1)
   let r <-cO (d+1) 89 a b
   if (!r)=true then pure (ForInStep.done (some false,())) else pure (ForInStep.yield (none,()))).run prog w = .ok (if ∀i∈I,l[i]! = m[i]! then(none,()) else(some false,())) w:=by
  intro I
  induction I with
  | nil=>intro _;simp [bM]
  | cons i I ih =>
   intro h
   have hi:i<l.length:=by have:=h i (by simp);omega
   have hj:i<m.length:=by have:=h i (by simp);omega
   have hp:=adF w l i hi;have hq:=adF w m i hj;have he:=avG d l[i] m[i] w;have e1:l[i]! = l[i]:=getElem!_pos l i hi;have e2:m[i]! = m[i]:=getElem!_pos m i hj
   by_cases hx:l[i]=m[i]
   .rw [show decide (l[i]=m[i])=true by simp [hx]] at he
    simp only [Q8,bI,hp,hq,bS,he,Bool.not_true,Bool.false_eq_true,if_false,bM];rw [ih (λj hj=>h j (by simp [hj]))];congr 1;by_cases ha:∀i∈I,l[i]! = m[i]!
    .have hb:∀j∈i::I,l[j]! = m[j]!:=by
      intro j hj;rcases List.mem_cons.mp hj with rfl|hj
      .rw [e1,e2,hx]
      .exact ha j hj
     rw [if_pos ha,if_pos hb]
    .rw [if_neg ha,if_neg (λhb=>ha λj hj=>hb j (dS _ hj))]
   .rw [show decide (l[i]=m[i])=false by simp [hx]] at he;simp only [Q8,bI,hp,hq,bS,he,Bool.not_false,if_true,bM];rw [if_neg (λhb=>hx (by have:=hb i (eh ..);rw [e1,e2] at this;exact this))]
 rw [cO];simp only [bI,run_underlying ht,bS,sizeOf,typeInfo,run_program,qa,vE,bM,Std.Legacy.Range.forIn_eq_forIn_range']
 rw [hI _ (λi hi=>by have:=Dr.1 hi;simp [gC] at this;omega)]
 by_cases BZ:l=m
 .subst BZ;simp [bM]
 .have b8:¬ ∀i∈List.range' 0 n 1,l[i]! = m[i]!:=λha=>BZ (by
   apply List.ext_getElem (by rw [hl,hm]);intro i h1 h2;have:=ha i (Dr.2 (by omega))
   rwa [getElem!_pos l i h1,getElem!_pos m i h2] at this)
  have hs:gC [:n]=n:=by simp [gC]
  rw [hs,if_neg b8,show decide (l=m)=false by simp [BZ]];rfl
def LS(w:yp)(l:aC)(hl:l.length=5):(part 232 (av l).toArray 0).run prog w = .ok (.agg (av l).toArray) w:=by
 have EE:(isAgg 232).run prog w = .ok true w:=by unfold isAgg;rw [bI,run_underlying zD w];rfl
 have hs:(sizeOf 232).run prog w = .ok 5 w:=by kernel_rfl
 have he:(av l).toArray.extract 0 (0+5)=(av l).toArray:=by apply Mz;simp only [List.extract_toArray,tJ,dI,Nat.sub_zero,Dv];exact kE (by rw [nM,hl];exact aQ _)
 unfold part;simp only [bI,EE,bS,if_true,hs,bM,he]
def aA4(l:aC)(hl:l.length=5)(w:yp):(vX 234 (.agg (av l).toArray) 0).run prog w = .ok (.agg (av l).toArray) w:=by have hp:=LS w l hl;unfold vX;simp only [bI,run_underlying A7,bS];exact hp
def anV(l m:aC)(hl:l.length=5)(hm:m.length=5)(w:yp) :
  (cO 10000 234 (.agg (av l).toArray) (.agg (av m).toArray)).run prog w = .ok (decide (l=m)) w:=by
 have he:=Yu 9997 5 232 l m zD hl hm w
 have aa:prog.stoodInHeld 234 = false:=by kernel_rfl
 rw [cO];simp only [bI,run_underlying A7,bS,run_program,aa];have he':(cO 9999 232 (.agg (av l).toArray) (.agg (av m).toArray)).run prog w = .ok (decide (l=m)) w:=he;rw [if_neg (by decide)];have hp:=LS w l hl;have hq:=LS w m hm;generalize decide (l=m)=q at *
 cases q<;>simp [bI,hp,hq,he',bM]
theorem abN:∀{a b:aC},a.length=b.length->(∀y∈a,y<2251799813685248)->(∀y∈b,y<2251799813685248)->ew a=ew b->a=b
 | [],[],_,_,_,_=>rfl
 | x::a,y::b,hl,ha,hb,h=>by
  have h1:=ha x (eh ..);have h2:=hb y (eh ..);have h3:x+2251799813685248*ew a=y+2251799813685248*ew b:=h;have h4:x=y:=by omega
  have h5:ew a=ew b:=by omega
  rw [h4,abN (by simpa using hl) (λz hz=>ha z (dS _ hz)) (λz hz=>hb z (dS _ hz)) h5]
def aFG{a b:aC}{x y:F}(ha:cu a x)(hb:cu b y):whole a=whole b↔x=y:=by
 obtain⟨l1,b1,v1⟩:=Dt ha;obtain⟨l2,b2,v2⟩:=Dt hb;constructor
 .intro h;apply Fin.ext;rw [<-v1,<-v2,h]
 .rintro rfl;exact abN (by rw [l1,l2]) b1 b2 (by rw [v1,v2])
def as6{a b:aC}{x y:F}(ha:cu a x)(hb:cu b y)(w:yp) :
  Calls prog 214 #[.agg (av a).toArray,.agg (av b).toArray] w λe w'=>e = .returned (.bool (decide (x=y)))/\Below w.heap.size w w':=by
 have hq:decide (x=y)=decide (whole a=whole b):=decide_eq_decide.2 (aFG ha hb).symm;rw [hq];clear hq;have l1:=(Dt ha).1;have l2:=(Dt hb).1;have hE:=λw1=>anV (whole a) (whole b) l1 l2 w1;have H1:=λw1=>Rd ha w1;have H2:=λw1=>Rd hb w1;generalize decide (whole a=whole b)=q at *;generalize whole a=u at *;generalize whole b=v at *;have T9:=ha.len;have hzb:=hb.len;have h0:bB ((w.alloc (j8 (av a).toArray 234)).alloc (j8 (av b).toArray 234)) w.heap.size 234 (av a).toArray:=heap_alloc2_old w _ _;have h1:bB ((w.alloc (j8 (av a).toArray 234)).alloc (j8 (av b).toArray 234)) (w.heap.size+1) 234 (av b).toArray:=heap_alloc2_new w _ _;have kx:Below w.heap.size w ((w.alloc (j8 (av a).toArray 234)).alloc (j8 (av b).toArray 234)):=((Below.refl _ _).alloc (aQ _) _).alloc (by simp) _;clear ha hb
 go_enter func214,ntmps214
 go_wp2
 refine ayP (by kernel_rfl) (aCX (by kernel_rfl)) (λ_ _ d _ _ h=>by cases d<;>exact h) (XF w.heap.size T9 _ rfl rfl rfl (λ_ h=>h.z7 h0) ?_);simp only [nO,eX,C7,Ah];refine XG rfl U9 (λw1=>H1 w1) rfl rfl ?_;simp only [nO,eX,C7,Ah];refine XF (w.heap.size+1) hzb _ rfl rfl rfl (λ_ h=>h.z7 h1) ?_;simp only [nO,eX,C7,Ah];refine XG rfl U9 (λw1=>H2 w1) rfl rfl ?_;simp only [nO,eX,C7,Ah];refine al3 (av u).toArray (av v).toArray rfl rfl rfl rfl (by kernel_rfl) hE ?_;simp only [nO,eX,C7,Ah];refine al0 rfl rfl ?_;simp only [nO,eX,C7,Ah];refine Gm ?_
 intro w1 fy
 have jz:=Nc kx fy
 go_wp2
 go_ret
 exact⟨rfl,jz⟩
def aFH{a:aC}{x:F}(ha:cu a x):(whole a)[0]! % 2=x.val%2:=by obtain⟨l1,_,v1⟩:=Dt ha;obtain⟨a0,a1,a2,a3,a4,h⟩:=ye l1;rw [<-v1,h,qX];show a0%2=_;omega
def av9{a:aC}{x:F}(ha:cu a x)(w:yp) :
  Calls prog 173 #[.agg (av a).toArray] w λe w'=>e = .returned (.bool (decide (x.val%2=1)))/\Below w.heap.size w w':=by
 have ho:=aFH ha;obtain⟨l1,l2,_⟩:=Dt ha;have H1:=λw1=>iB (Rd ha w1);rw [<-ho];clear ho;obtain⟨a0,a1,a2,a3,a4,h⟩:=ye l1;rw [h] at H1 l2 ⊢;have ha0:a0<2251799813685248:=l2 a0 (by simp);have e0:(av [a0,a1,a2,a3,a4]).toArray = #[.int .u64 (a0:Int),.int .u64 (a1:Int),.int .u64 (a2:Int),.int .u64 (a3:Int),.int .u64 (a4:Int)]:=rfl;have e1:[a0,a1,a2,a3,a4][0]! = a0:=rfl;rw [e1];rw [e0] at H1;have T9:=abE ha.len;have h0:=bB.new w 234 (av a).toArray;have kx:Below w.heap.size w (w.alloc (j8 (av a).toArray 234)):=(Below.refl _ _).alloc (aQ _) _
 have hand:bits .and .u64 (a0:Int) 1=((a0%2:Nat):Int):=by have h:=u64_and_nat a0 1 (by omega) (by omega);rw [nat_mask1] at h;exact h
 go_enter func173,ntmps173
 go_wp2_with (refine wpList_load_row rfl 234 _ rfl w.heap.size rfl 234 (av a).toArray (0,0) _ h0 A7 rfl (Gc _ T9) ?_)
 refine(H1 _).out.mono ?_
 rintro e w1 ⟨rfl,fy⟩
 have jz:=Nc kx fy
 have yV:∀w1,(vX 234 (.agg #[.int .u64 (a0:Int),.int .u64 (a1:Int),.int .u64 (a2:Int),.int .u64 (a3:Int),.int .u64 (a4:Int)]) 0).run prog w1 = .ok (.agg #[.int .u64 (a0:Int),.int .u64 (a1:Int),.int .u64 (a2:Int),.int .u64 (a3:Int),.int .u64 (a4:Int)]) w1 :=
  λw1=>aA4 [a0,a1,a2,a3,a4] rfl w1
 have Hg:∀w1,(tO 232 (.agg #[.int .u64 (a0:Int),.int .u64 (a1:Int),.int .u64 (a2:Int),.int .u64 (a3:Int),.int .u64 (a4:Int)]) (.int .i64 0)).run prog w1 = .ok (.int .u64 (a0:Int)) w1:=λw1=>by kernel_rfl
 have aq6:(((a0%2:Nat):Int)==1)=decide (a0%2=1):=by rw [Bool.eq_iff_iff];simp;omega
 generalize EC:a0%2=m at hand;rw [EC] at aq6;have HD:=iB (show decide (m=1)=decide (a0%2=1) by rw [EC]);clear EC
 go_wp2
 go_ret
 exact⟨congrArg (λq=>oT (oE q)) HD.out,jz⟩
def aBO(w:yp):Calls prog 174 #[.int .u64 1] w λe w'=>∃r,cu r 1/\e = .returned (.agg (av r).toArray)/\Below w.heap.size w w':=by have h:=aBQ 1 (by omega) w;rw [wU] at h;exact h
section
variable{F:aE}
def V5:cV F 174 [.c (.v (.int .u64 1))] (xB 1):=⟨ax0,Spec.el λw _=>aBO w⟩
end
section
variable{F:aE}{a:aC}{x:Nums.F}
def awN:Own 173:=λ_ _=>by go_simp
def PL(ha:cu a x):cV F 173 [fG a] (one (.q (.c (.b (decide (x.val%2=1)))))):=⟨awN,Spec.pure trivial λw _=>av9 ha w⟩
end
end Go.Proofs.Q
namespace Nums
namespace Ed
section
variable{n:Nat}[NeZero n]{d:Fin n}
def fw.W9(hn:eu n){x y z t:Fin n}{P:bz n}(r:fw x y z P)(ht:t*z=x*y):t=P.x*P.y*z:=by refine cancel hn r.z ?_;rw [ht,r.x,r.y];grind only
def aHC(px py qx qy z1 z2:Fin n):(py*z1+px*z1)*(qy*z2+qx*z2)-(py*z1-px*z1)*(qy*z2-qx*z2)=(px*qy+py*qx)*(2*(z1*z2)):=by grind only
def aHB(px py qx qy z1 z2:Fin n):(py*z1+px*z1)*(qy*z2+qx*z2)+(py*z1-px*z1)*(qy*z2-qx*z2)=(py*qy+px*qx)*(2*(z1*z2)):=by grind only
def ai9(px py qx qy z1 z2 d:Fin n):px*py*z1*((qx*qy*z2+qx*qy*z2)*d)=d*px*qx*py*qy*(2*(z1*z2)):=by grind only
def ai8(z1 z2:Fin n):z1*(z2+z2)=2*(z1*z2):=by grind only
def ajM(k u:Fin n):u+k*u=(1+k)*u:=by grind only
def ajN(k u:Fin n):u-k*u=(1-k)*u:=by grind only
def fw.Xc(g:Good n d){P Q:bz n}(hP:c9 d P)(hQ:c9 d Q){e f gg h u:Fin n}(hu:u≠0)(he:e=(P.x*Q.y+P.y*Q.x)*u)(hf:f=(1-ev d P Q)*u)(hg:gg=(1+ev d P Q)*u)(hh:h=(P.y*Q.y+P.x*Q.x)*u) :
  fw (e*f) (gg*h) (f*gg) (Ed.add d P Q):=by
 have hx:=FX g hP hQ;have hy:=FW g hP hQ;have n1:=DB g hP hQ;have n2:=Cl g hP hQ;subst he hf hg hh;refine⟨jd g.pr (jd g.pr n2 hu) (jd g.pr n1 hu),?_,?_⟩
 .rw [<-hx];grind only
 .rw [<-hy];grind only
def fw.plus(g:Good n d){P Q:bz n}(hP:c9 d P)(hQ:c9 d Q){x1 y1 z1 t1 x2 y2 z2 t2:Fin n}(r:fw x1 y1 z1 P)(h1:t1*z1=x1*y1)(s:fw x2 y2 z2 Q)(h2:t2*z2=x2*y2){un li z t e f gg h:Fin n}
 (og:un=(y1-x1)*(y2-x2))(Z5:li=(y1+x1)*(y2+x2))(hz:z=z1*(z2+z2))(ht:t=t1*((t2+t2)*d))(he:e=li-un)(hf:f=z-t)(hg:gg=z+t)(hh:h=li+un) :
  fw (e*f) (gg*h) (f*gg) (Ed.add d P Q)/\e*h*(f*gg)=e*f*(gg*h):=by
 have e1:=r.W9 g.pr h1;have e2:=s.W9 g.pr h2;have hu:(2:Fin n)*(z1*z2)≠0:=jd g.pr g.two (jd g.pr r.z s.z);refine⟨fw.Xc g hP hQ hu ?_ ?_ ?_ ?_,by grind only⟩
 .rw [he,Z5,og,r.x,r.y,s.x,s.y,aHC]
 .rw [hf,hz,ht,e1,e2,ai9,ai8,<-ajN];rfl
 .rw [hg,hz,ht,e1,e2,ai9,ai8,<-ajM];rfl
 .rw [hh,Z5,og,r.x,r.y,s.x,s.y,aHB]
def ajS(px py z:Fin n):px*z*(py*z)+px*z*(py*z)=(px*py+py*px)*(z*z):=by grind only
def ajQ(px py z:Fin n):py*z*(py*z)-px*z*(px*z)=(py*py-px*px)*(z*z):=by grind only
def ajP(px py z:Fin n):py*z*(py*z)+px*z*(px*z)=(py*py+px*px)*(z*z):=by grind only
def ajR(k u:Fin n):u+u-(1+k)*u=(1-k)*u:=by grind only
def ajI{P:bz n}(hP:c9 d P):P.y*P.y-P.x*P.x=1+ev d P P:=by have h:P.y*P.y-P.x*P.x=1+d*P.x*P.x*P.y*P.y:=hP;rw [h];rfl
def fw.dbl(g:Good n d){P:bz n}(hP:c9 d P){x y z:Fin n}(r:fw x y z P){xx yy ua xy e gg h f:Fin n}(hxx:xx=x*x)(hyy:yy=y*y)(Ub:ua=z*z)(pw:xy=x*y)
 (he:e=xy+xy)(hg:gg=yy-xx)(hh:h=yy+xx)(hf:f=ua+ua-gg):fw (e*f) (gg*h) (f*gg) (Ed.add d P P)/\e*h*(f*gg)=e*f*(gg*h):=by
 have hu:z*z≠0:=jd g.pr r.z r.z
 have ZM:gg=(1+ev d P P)*(z*z):=by rw [hg,hyy,hxx,r.x,r.y,ajQ,ajI hP]
 refine⟨fw.Xc g hP hP hu ?_ ?_ ZM ?_,by grind only⟩
 .rw [he,pw,r.x,r.y,ajS]
 .rw [hf,Ub,ZM,ajR]
 .rw [hh,hyy,hxx,r.x,r.y,ajP]
def fw.one(hn:eu n)(x y:Fin n):fw x y 1 ⟨x,y⟩:=⟨λh=>DJ hn h.symm,by show x=x*1;grind only,by show y=y*1;grind only⟩
def aGX(g:Good n d){P:bz n}(hP:c9 d P)(hy:P.y=1):P=zero:=by
 have h:P.y*P.y-P.x*P.x=1+d*P.x*P.x*P.y*P.y:=hP;rw [hy] at h;have h2:P.x*P.x*(d+1)=0:=by grind only
 have hd:d+1≠0:=λh0=>by obtain⟨i,hi⟩:=g.i;refine g.d i ?_;rw [hi];grind only
 have hx:P.x=0:=by
  by_cases hx:P.x=0
  .exact hx
  .exact absurd h2 (jd g.pr (jd g.pr hx hx) hd)
 cases P;simp only at hx hy;rw [hx,hy];rfl
def fw.aGY(g:Good n d){P:bz n}(hP:c9 d P){x y z:Fin n}(r:fw x y z P):y=z↔P=Ed.zero:=by
 constructor
 .intro h;refine aGX g hP (cancel g.pr r.z ?_);rw [<-r.y,h];grind only
 .rintro rfl;rw [r.y];show 1*z=z;grind only
end
end Ed
end Nums
namespace Go.Proofs.Q
open Go.RowKit Go.IntWalk Nums
def cx(X Y Z T:aC):aC:=X++(Y++(Z++T))
def DT:aC:=cx dq dq dq dq
def ak8(X Y Z T:aC):av (cx X Y Z T)=av X++(av Y++(av Z++av T)):=by simp [cx,av]
def adI{X Y Z T:aC}(hX:X.length=5)(hY:Y.length=5)(hZ:Z.length=5)(hT:T.length=5):(cx X Y Z T).length=20:=by simp [cx,hX,hY,hZ,hT]
def aBK{n:Nat}(h:n=20):(prog.info? 276).map (·.size)=some n:=by rw [h];kernel_rfl
def P5(w:yp)(A V Z:aC)(off:Nat)(ho:A.length=off)(hV:V.length=5):(part 234 (av A++(av V++av Z)).toArray off).run prog w = .ok (.agg (av V).toArray) w:=by
 have EE:(isAgg 234).run prog w = .ok true w:=by unfold isAgg;rw [bI,run_underlying A7 w];rfl
 have hs:(sizeOf 234).run prog w = .ok 5 w:=by kernel_rfl
 have he:(av A++(av V++av Z)).toArray.extract off (off+5)=(av V).toArray:=by apply Mz;simp only [List.extract_toArray,tJ];rw [List.drop_append,List.drop_eq_nil_of_le (by rw [nM];omega),nM,ho,si,Dv,lD,xD,List.take_append,nM,hV,si,List.take_zero,fj,kE (by rw [nM,hV];exact aQ _)]
 unfold part;simp only [bI,EE,bS,if_true,hs,bM,he]
def NA(d:Nat)(l m:aC)(hl:l.length=5)(hm:m.length=5)(w:yp) :
  (cO (d+3) 234 (.agg (av l).toArray) (.agg (av m).toArray)).run prog w = .ok (decide (l=m)) w:=by
 have he:=Yu d 5 232 l m zD hl hm w
 have aa:prog.stoodInHeld 234 = false:=by kernel_rfl
 rw [cO];simp only [bI,run_underlying A7,bS,run_program,aa];rw [if_neg (by decide)];have hp:=LS w l hl;have hq:=LS w m hm;generalize decide (l=m)=q at *
 cases q<;>simp [bI,hp,hq,he,bM]
def Yv(X Y Z T X' Y' Z' T':aC)(hX:X.length=5)(hY:Y.length=5)(hZ:Z.length=5)(hT:T.length=5)(hX':X'.length=5)(hY':Y'.length=5)(hZ':Z'.length=5)(hT':T'.length=5)(w:yp) :
  (cO 10000 236 (.agg (av (cx X Y Z T)).toArray) (.agg (av (cx X' Y' Z' T')).toArray)).run prog w = .ok (decide (X=X'/\Y=Y'/\Z=Z'/\T=T')) w:=by
 have e1:=NA 9996 X X' hX hX' w;have e2:=NA 9996 Y Y' hY hY' w;have e3:=NA 9996 Z Z' hZ hZ' w;have e4:=NA 9996 T T' hT hT' w
 have fc:∀X Y Z T:aC,X.length=5->(part 234 (av (cx X Y Z T)).toArray 0).run prog w = .ok (.agg (av X).toArray) w:=λX Y Z T h=>by have:=P5 w [] X (Y++(Z++T)) 0 rfl h;simpa [cx,av] using this
 have p2:∀X Y Z T:aC,X.length=5->Y.length=5->(part 234 (av (cx X Y Z T)).toArray 5).run prog w = .ok (.agg (av Y).toArray) w:=λX Y Z T h h2=>by have:=P5 w X Y (Z++T) 5 h h2;simpa [cx,av] using this
 have p3:∀X Y Z T:aC,X.length=5->Y.length=5->Z.length=5->(part 234 (av (cx X Y Z T)).toArray 10).run prog w = .ok (.agg (av Z).toArray) w:=λX Y Z T h h2 h3=>by have:=P5 w (X++Y) Z T 10 (by simp [h,h2]) h3;simpa [cx,av] using this
 have p4:∀X Y Z T:aC,X.length=5->Y.length=5->Z.length=5->T.length=5->(part 234 (av (cx X Y Z T)).toArray 15).run prog w = .ok (.agg (av T).toArray) w:=λX Y Z T h h2 h3 h4=>by have:=P5 w (X++(Y++Z)) T [] 15 (by simp [h,h2,h3]) h4;simpa [cx,av] using this
 have aa:prog.stoodInHeld 236 = false:=by kernel_rfl
 have a1:=fc X Y Z T hX;have a2:=p2 X Y Z T hX hY;have a3:=p3 X Y Z T hX hY hZ;have a4:=p4 X Y Z T hX hY hZ hT;have b1:=fc X' Y' Z' T' hX';have b2:=p2 X' Y' Z' T' hX' hY';have b3:=p3 X' Y' Z' T' hX' hY' hZ';have b4:=p4 X' Y' Z' T' hX' hY' hZ' hT';generalize (av (cx X Y Z T)).toArray=u at *;generalize (av (cx X' Y' Z' T')).toArray=v at *;clear fc p2 p3 p4;rw [cO];simp only [bI,run_underlying underlying236,bS,run_program,aa];rw [if_neg (by decide)]
 by_cases h1:X=X'<;>by_cases h2:Y=Y'<;>by_cases h3:Z=Z'<;>by_cases h4:T=T' <;>
  simp only [h1,h2,h3,h4,decide_true,decide_false,and_true,and_false] at e1 e2 e3 e4 ⊢ <;>
  simp [bI,a1,a2,a3,a4,b1,b2,b3,b4,e1,e2,e3,e4,h1,h2,h3,h4,bM]
structure rr(l:aC)(A:Ed.bz p):Prop where
  ex:∃X Y Z T x y z t,l=cx X Y Z T/\cu X x/\cu Y y/\cu Z z/\cu T t/\Ed.fw x y z A/\t*z=x*y
  on:Ed.c9 bP A
def oK(l:aC)(A:Ed.bz p):Prop:=(l=DT/\A=Ed.zero)\/rr l A
structure Gn(l:aC)(A:Ed.bz p):Prop where
  ex:∃X Y Z T x y z t,l=cx X Y Z T/\cu X (y+x)/\cu Y (y-x)/\cu Z (z+z)/\cu T ((t+t)*bP)/\Ed.fw x y z A/\t*z=x*y
  on:Ed.c9 bP A
def oK.on{l:aC}{A:Ed.bz p}(h:oK l A):Ed.c9 bP A:=by
 rcases h with⟨_,rfl⟩|h
 .exact Ed.DC
 .exact h.on
def auV{l:aC}{z:F}(h:cu l z)(hz:z≠0):l≠dq:=by rintro rfl;exact hz (h.val.symm.trans Ij)
def rr.ne{X Y Z T:aC}{z:F}(hZ:cu Z z)(hz:z≠0):¬(X=dq/\Y=dq/\Z=dq/\T=dq):=λh=>auV hZ hz h.2.2.1
def avU:Own 166:=λ_ _=>by go_simp
def awQ:Own 169:=λ_ _=>by go_simp
def aw8:Own 177:=λ_ _=>by go_simp
def avT:Own 206:=λ_ _=>by go_simp
def awP:Own 204:=λ_ _=>by go_simp
def aw3:Own 179:=λ_ _=>by go_simp
def Yt(w:yp):(cO 10000 236 (.agg (av DT).toArray) (.agg (av DT).toArray)).run prog w = .ok true w:=by have:=Yv dq dq dq dq dq dq dq dq rfl rfl rfl rfl rfl rfl rfl rfl w;rw [decide_eq_true ⟨rfl,rfl,rfl,rfl⟩] at this;exact this
def ac6{l:aC}{A:Ed.bz p}(h:rr l A)(w:yp):(cO 10000 236 (.agg (av l).toArray) (.agg (av DT).toArray)).run prog w = .ok false w:=by obtain⟨⟨X,Y,Z,T,x,y,z,t,rfl,hX,hY,hZ,hT,hr,_⟩,_⟩:=h;have:=Yv X Y Z T dq dq dq dq hX.len hY.len hZ.len hT.len rfl rfl rfl rfl w;rw [decide_eq_false (rr.ne hZ hr.z)] at this;exact this
def Sk:ae:=[163,120,89,19,202,77,235,117,171,216,65,65,77,10,112,0,152,232,121,119,121,64,199,140,115,254,111,43,238,108,3,82]
def RV:ae:=[26,213,37,143,96,45,86,201,178,167,37,149,96,199,44,105,92,220,214,253,49,226,164,192,254,83,110,205,211,54,105,33]
def RW:ae:=[88,102,102,102,102,102,102,102,102,102,102,102,102,102,102,102,102,102,102,102,102,102,102,102,102,102,102,102,102,102,102,102]
def aoX:zf Sk=true:=by decide +kernel
def aoU:zf RV=true:=by decide +kernel
def aoV:zf RW=true:=by decide +kernel
def atY:bJ (le Sk%(2^255))=bP:=xZ (by decide +kernel)
def atV:bJ (le RV%(2^255))=bJ sa:=xZ (by decide +kernel)
def atW:bJ (le RW%(2^255))=bJ rA:=xZ (by decide +kernel)
structure fF where
  X:aC
  Y:aC
  Z:aC
  T:aC
def fF.l(P:fF):aC:=cx P.X P.Y P.Z P.T
abbrev fF.ai(P:fF):cJ:=[.agg 5 (av P.X).toArray,.agg 5 (av P.Y).toArray,.agg 5 (av P.Z).toArray,.agg 5 (av P.T).toArray]
abbrev gY(P:fF):aL:=.p P.ai
structure fF.aI(P:fF):Prop where
  X:P.X.length=5
  Y:P.Y.length=5
  Z:P.Z.length=5
  T:P.T.length=5
def fF.aI.ai{P:fF}(h:P.aI):ch P.ai:=λq hq=>by
 simp only [fF.ai,bT,xG,or_false] at hq;rcases hq with rfl|rfl|rfl|rfl
 .exact⟨IY h.X,Jn _⟩
 .exact⟨IY h.Y,Jn _⟩
 .exact⟨IY h.Z,Jn _⟩
 .exact⟨IY h.T,Jn _⟩
def Yf(P:fF):(gY P).den = .agg (av P.l).toArray:=by show Value.agg (a7 P.ai)=_;unfold fF.l;rw [ak8,fF.ai,lE,lE,lE,lE];simp [bz.cells,a7]
def P7{X Y Z T:aC}{x y z t:Nums.F}(hX:cu X x)(hY:cu Y y)(hZ:cu Z z)(hT:cu T t):(⟨X,Y,Z,T⟩:fF).aI:=⟨hX.len,hY.len,hZ.len,hT.len⟩
abbrev zz(V:aC->Prop):fm {P:fF // V P.l/\P.aI}:={ ret:=λP=>.q (gY P.1) }
def Vi{P:fF}(hP:P.aI){X Y Z T:aC}{x y z:Nums.F}(hX:cu X x)(hY:cu Y y)(hZ:cu Z z)(e:P.l=cx X Y Z T):P=⟨X,Y,Z,T⟩:=by obtain⟨X',Y',Z',T'⟩:=P;unfold fF.l cx at e;obtain⟨h1,e⟩:=sL e (hP.X.trans hX.len.symm);obtain⟨h2,e⟩:=sL e (hP.Y.trans hY.len.symm);obtain⟨h3,h4⟩:=sL e (hP.Z.trans hZ.len.symm);dsimp only at h1 h2 h3 h4;rw [h1,h2,h3,h4]
def rr.nums{P:fF}{A:Ed.bz p}(h:rr P.l A)(hP:P.aI):∃x y z t,cu P.X x/\cu P.Y y/\cu P.Z z/\cu P.T t/\Ed.fw x y z A/\t*z=x*y:=by obtain⟨X,Y,Z,T,x,y,z,t,e,hX,hY,hZ,hT,hr⟩:=h.ex;obtain rfl:=Vi hP hX hY hZ e;exact⟨x,y,z,t,hX,hY,hZ,hT,hr⟩
def Gn.nums{P:fF}{A:Ed.bz p}(h:Gn P.l A)(hP:P.aI):∃x y z t,cu P.X (y+x)/\cu P.Y (y-x)/\cu P.Z (z+z)/\cu P.T ((t+t)*bP)/\Ed.fw x y z A/\t*z=x*y:=by obtain⟨X,Y,Z,T,x,y,z,t,e,hX,hY,hZ,hT,hr⟩:=h.ex;obtain rfl:=Vi hP hX hY hZ e;exact⟨x,y,z,t,hX,hY,hZ,hT,hr⟩
def rr.of{X Y Z T:aC}{x y z t:Nums.F}{A:Ed.bz p}(hX:cu X x)(hY:cu Y y)(hZ:cu Z z)(hT:cu T t)(hR:Ed.fw x y z A)(ht:t*z=x*y)(l9:Ed.c9 bP A):rr (fF.l ⟨X,Y,Z,T⟩) A/\fF.aI ⟨X,Y,Z,T⟩:=⟨⟨⟨X,Y,Z,T,x,y,z,t,rfl,hX,hY,hZ,hT,hR,ht⟩,l9⟩,P7 hX hY hZ hT⟩
section
variable{b:bO}{fn:Func}{N:Nat}{E:aG}{L:aH}{F M:aE}{rs:List ResultVar}
def x7{V:aC->Prop}(P:fF)(hP:V P.l/\P.aI)(hr:fn.results=rs.toArray)(hs:rs.length<=3)(h:yf jx E L rs=some [gY P]):cl b (bodyPost prog fn (tk b (zz V)) .ret) N ⟨E,L,[],F,M⟩:=dk an ⟨P,hP⟩ hr (hs:=hs) h rfl rfl aD λ_ _=>trivial
end
def Fj:aC:=[1718705420411056,234908883556509,2233514472574048,2117202627021982,765476049583133]
def Fh:F:=bJ (ew Fj)
def anG:cu Fj Fh:=cu.Lt (by omega) (by omega) (by omega) (by omega) (by omega) rfl
def as0:Fh*Fh = -1:=by unfold Fh;rw [<-qH];have:bJ (ew Fj*ew Fj)=bJ (p-1):=xZ (by decide +kernel);rw [this,Qd (by decide),wU,show bJ p=0 from xZ (a:=p) (b:=0) (by decide)];generalize (1:F)=u;grind only
def amA(u v:F)(c:F)(hc:gL (u*(v*v*v)*(v*v*v)*v) (2^252-3)=c) :
  u*(v*v*v)*c*(u*(v*v*v)*c)*v=u*gL (u*(v*v*v)*(v*v*v)*v) CC:=by
 have e:CC=(2^252-3)+(2^252-3)+1:=by decide
 rw [e,wF,LA,hc];generalize hs:u*(v*v*v)*(v*v*v)*v=s;subst hs
 grind only
def quarter{u v y:F}(hu:u≠0)(h:v*y*y=u) :
  gL (u*(v*v*v)*(v*v*v)*v) CC=1\/gL (u*(v*v*v)*(v*v*v)*v) CC = -1:=by
 have hs:u*(v*v*v)*(v*v*v)*v=(v*v*v*v*y)*(v*v*v*v*y):=by rw [<-h];grind only
 have b8:v*v*v*v*y≠0:=by
  intro h0;apply hu;rw [<-h];by_cases ab:v=0
  .rw [ab];grind only
  .have Cg:=jd nf (jd nf (jd nf ab ab) ab) ab
   rcases zero_or nf h0 with h1|h1
   .exact absurd h1 Cg
   .rw [h1];grind only
 have h2:=afS b8;rw [<-aHA,aG9] at h2;rw [hs];generalize gL (v*v*v*v*y*(v*v*v*v*y)) CC=t at *
 have h3:t*t=1*1:=by rw [show gL t 2=t*t from by rw [wF,PG]] at h2;rw [h2];grind only
 exact ahL nf h3
def az8{u v X:F}(hX:u*(v*v*v)*gL (u*(v*v*v)*(v*v*v)*v) (2^252-3)=X)(h1:¬X*X*v=u)(h2:¬X*Fh*(X*Fh)*v=u)(y:F):v*y*y≠u:=by
 intro h;have hc:=amA u v _ rfl;rw [hX] at hc;have hu:u≠0:=by rintro rfl;apply h1;rw [hc];grind only
 rcases quarter hu h with h3|h3
 .apply h1;rw [hc,h3];grind only
 .apply h2;rw [h3] at hc;have hi:=as0;generalize Fh=i at *;clear h h1 h2 hX h3 hu;grind only
def az7{u v X:F}(h:X*X*v=u)(ho:¬X.val%2=1):v*X*X=u/\X.val%2=0:=by refine⟨?_,by omega⟩;rw [<-h];grind only
def az9{u v X:F}(h:X*X*v=u)(ho:X.val%2=1):v*(0-X)*(0-X)=u/\(0-X).val%2=0:=by
 have b8:X≠0:=by rintro rfl;revert ho;decide
 have e:0-X = -X:=by grind only
 refine⟨?_,?_⟩
 .rw [<-h];grind only
 .rw [e,Qb b8];omega
section
variable{F:aE}[dc F]{a b:aC}{x:Nums.F}
def ax2:Own 207:=λ_ _=>by go_simp
def awO:Own 208:=λ_ _=>by go_simp
def aw4:Own 215:=λ_ _=>by go_simp
def awE:Own 214:=λ_ _=>by go_simp
def awD:Own 170:=λ_ _=>by go_simp
def awT:Own 175:=λ_ _=>by go_simp
omit [dc F] in
def Ui{y:Nums.F}(ha:cu a x)(hb:cu b y):cV F 214 [fG a,fG b] (one (.q (.c (.b (decide (x=y)))))):=⟨awE,Spec.pure trivial λw _=>as6 ha hb w⟩
def tS{d e:Nat}(ha:cu a (gL x d))(hb:cu b (gL x e)):cV F 171 [fG a,fG b] (xB (gL x (d+e))):=by rw [LA];exact jr ha hb
def _root_.Nums.cu.pow{r:aC}{d e:Nat}(h:cu r (gL x d))(he:d=e):cu r (gL x e):=he▸h
def xc{d:Nat}(ha:cu a (gL x d))(n:Nat)(hn:n<300):cV F 207 [fG a,.c (.v (.int .i64 (n:Int)))] (xB (gL x (d*2^n))):=⟨ax2,by
 refine bA [fG a,.c (.v (.int .i64 (n:Int)))] 13 func207 rfl (ab:=dZ (ng ha.len) trivial) λB=>ag rfl (ao λK hK=>ag rfl (a8 ?_));let V:Nat×aC->Env:=λs=>⟨[(6,.aT s.1),(5,.aT n),(4,.a 4 0),(2,.a 2 0)],[⟨4,none,234,[.agg 5 (av [0,0,0,0,0]).toArray]⟩,⟨2,none,234,[.agg 5 (av s.2).toArray]⟩],[],F,λ_=>True⟩;refine cI (e':=V (0,a)) (fC rfl rfl rfl λ_ h _=>h) (cY (λs=>n-s.1) V (λs=>s.1<=n/\cu s.2 (gL x (d*2^s.1))) ?_ (0,a) ⟨bl _,ha.pow (Nat.mul_one d).symm⟩);rintro⟨i,l⟩ ⟨hi,hl⟩;dsimp only at hi hl;refine ag rfl (ao λK1 aS=>?_);refine bn ((i:Int)<(n:Int)) rfl (λal=>?_) (λcW=>?_)
 .refine aR (aS _ ?_);refine ao λK2 aM=>a8 (ef (cX (tS hl hl) (λ_=>rfl) rfl λ⟨r,v⟩=>kz rfl (aM _ (cE rfl ?_))));exact cH (i+1,r) ⟨by show i+1<=n;omega,v.pow (by rw [<-Nat.mul_two,vk,<-k8])⟩ (by show n-(i+1)<n-i;omega) ⟨⟨congrArg (λx=>some (aq.v (.int .i64 x))) (gv i 1 (by omega)),rfl,rfl,rfl,trivial⟩,c8 rfl rfl, .refl _,λ_ h _=>h,λ_ h=>h⟩
 .obtain rfl:i=n:=by omega
  refine cG (a6 (a6 (cF (hK _ (ag rfl (aJ ?_))))));exact Dy l hl rfl (by decide) rfl⟩
def acT(ha:cu a x):cV F 208 [fG a] (xB (gL x (2^250-1))):=⟨awO,by
 refine bA [fG a] 50 func208 rfl (ab:=iG (ng ha.len)) λB=>?_;have h:cu a (gL x 1):=by rw [PG];exact ha
 refine ag rfl (eU 4 [(3,234)] λK hK G S w0 aa=>bR aa (xc h 1 (by decide)) rfl λ⟨_,v⟩=>bR aa (tS v h) rfl λ⟨_,h2⟩=>fz aa rfl hK rfl (eU 4 [(4,234)] λK hK G S w0 aa=>bR aa (xc h2 2 (by decide)) rfl λ⟨_,v⟩=>bR aa (tS v h2) rfl λ⟨_,h4⟩=>fz aa rfl hK rfl (eU 4 [(5,234)] λK hK G S w0 aa=>bR aa (xc h4 1 (by decide)) rfl λ⟨_,v⟩=>bR aa (tS v h) rfl λ⟨_,h5⟩=>fz aa rfl hK rfl (eU 4 [(6,234)] λK hK G S w0 aa=>bR aa (xc h5 5 (by decide)) rfl λ⟨_,v⟩=>bR aa (tS v h5) rfl λ⟨_,h10⟩=>fz aa rfl hK rfl (eU 4 [(7,234)] λK hK G S w0 aa=>bR aa (xc h10 10 (by decide)) rfl λ⟨_,v⟩=>bR aa (tS v h10) rfl λ⟨_,h20⟩=>fz aa rfl hK rfl (eU 4 [(8,234)] λK hK G S w0 aa=>bR aa (xc h20 20 (by decide)) rfl λ⟨_,v⟩=>bR aa (tS v h20) rfl λ⟨_,h40⟩=>fz aa rfl hK rfl (eU 4 [(9,234)] λK hK G S w0 aa=>bR aa (xc h40 10 (by decide)) rfl λ⟨_,v⟩=>bR aa (tS v h10) rfl λ⟨_,h50⟩=>fz aa rfl hK rfl (eU 4 [(10,234)] λK hK G S w0 aa=>bR aa (xc h50 50 (by decide)) rfl λ⟨_,v⟩=>bR aa (tS v h50) rfl λ⟨_,h100⟩=>fz aa rfl hK rfl (eU 7 [] λK hK G S w0 aa=>bR aa (xc h100 100 (by decide)) rfl λ⟨_,v⟩=>bR aa (tS v h100) rfl λ⟨_,v2⟩=>bR aa (xc v2 50 (by decide)) rfl λ⟨_,v3⟩=>bR aa (tS v3 h50) rfl λ⟨r,v4⟩=>fz aa rfl hK rfl (aJ ?_))))))))));exact Dy r (v4.pow (by decide +kernel)) rfl (by decide) rfl⟩
def anK(ha:cu a x):cV F 215 [fG a] (xB (gL x (2^252-3))):=⟨aw4,by
 refine bA [fG a] 8 func215 rfl (ab:=iG (ng ha.len)) λB=>?_;have h:cu a (gL x 1):=by rw [PG];exact ha
 refine ag rfl (eU 5 [] λK hK G S w0 aa=>bR aa (acT ha) rfl λ⟨_,v⟩=>bR aa (xc v 2 (by decide)) rfl λ⟨_,v2⟩=>bR aa (tS v2 h) rfl λ⟨r,v3⟩=>fz aa rfl hK rfl (aJ ?_));exact Dy r (v3.pow (by decide +kernel)) rfl (by decide) rfl⟩
def as5(ha:cu a x):cV F 170 [fG a] (xB (jn x)):=⟨awD,by
 refine bA [fG a] 19 func170 rfl (ab:=iG (ng ha.len)) λB=>?_;have h:cu a (gL x 1):=by rw [PG];exact ha
 refine ag rfl (ck λK hK=>cX (tS h h) (λ_=>rfl) rfl λ⟨_,h2⟩=>cR hK rfl (eU 6 [(4,234)] λK hK G S w0 aa=>bR aa (xc h2 2 (by decide)) rfl λ⟨_,v⟩=>bR aa (tS v h2) rfl λ⟨_,v2⟩=>bR aa (tS v2 h) rfl λ⟨_,h11⟩=>fz aa rfl hK rfl (eU 5 [] λK hK G S w0 aa=>bR aa (acT ha) rfl λ⟨_,v⟩=>bR aa (xc v 5 (by decide)) rfl λ⟨_,v2⟩=>bR aa (tS v2 h11) rfl λ⟨r,v3⟩=>fz aa rfl hK rfl (aJ ?_))));exact Dy r (v3.pow (by decide +kernel)) rfl (by decide) rfl⟩
end
abbrev ahE(x:Nums.F):fm {r:aC // cu r x}:={ ret:=λr=>.t [fG r.1,.c (.v (.bool true))] }
abbrev noP:fm Unit:=one (.t [fG dq,.c (.v (.bool false))])
structure Jk(u v:Nums.F) where
  r:aC
  ok:Bool
  h:(∃x,cu r x/\v≠0/\(v*x*x=u/\x.val%2=0)/\ok=true)\/((v=0\/∀x,v*x*x≠u)/\r=[0,0,0,0,0]/\ok=false)
abbrev az6(u v:Nums.F):fm (Jk u v):={ ret:=λr=>.t [fG r.r,.c (.v (.bool r.ok))] }
def cV.to{α β:Type}{F:aE}{fn:FuncId}{qs:oG}{f:α->cM}{g:β->cM}(c:cV F fn qs ({ ret:=f }:fm α))(h:∀x,∃y,f x=g y):cV F fn qs ({ ret:=g }:fm β):=⟨c.own,λw S X h1 h2 h3=>(c.spec w S X h1 h2 h3).mono λ_ _ ⟨x,S',i1,i2,i3,i4,i5,_⟩=>by obtain⟨y,e⟩:=h x;exact⟨y,S',by rw [i1];exact congrArg (λr:cM=>oT r.den) e,by show(g y).eJ.aI;rw [<-e];exact i2,i3,i4,i5,λ_ _=>trivial, au⟩⟩
def aeY{a b:aC}{u v:Nums.F}(hA:cu a u)(aF:cu b v):cV j6 175 [fG a,fG b] (az6 u v):=⟨awT,by
 refine bA [fG a,fG b] 56 func175 rfl (ab:=dZ (ng hA.len) (ng aF.len)) λB=>ag rfl (ao λK0 jf=>ck λK hK=>cX (Ui aF xA) (λ_=>rfl) rfl λ_=>cR hK rfl ?_);refine bn (v=0) rfl (λh0=>?_) (λh0=>aR (jf _ ?_))
 .refine ag rfl (aJ ?_);exact bE (⟨[0,0,0,0,0],false,.inr ⟨.inl h0,rfl,rfl⟩⟩:Jk u v) rfl aD λ_ _=>trivial
 refine eU 5 [(6,234)] λK hK G S w0 aa=>bR aa (jr aF aF) rfl λ⟨_,v1⟩=>bR aa (jr v1 aF) rfl λ⟨_,v2⟩=>fz aa rfl hK rfl (eU 12 [(7,234)] λK hK G S w0 aa=>bR aa (jr hA v2) rfl λ⟨_,v3⟩=>bR aa (jr hA v2) rfl λ⟨_,v4⟩=>bR aa (jr v4 v2) rfl λ⟨_,v5⟩=>bR aa (jr v5 aF) rfl λ⟨_,v6⟩=>bR aa (anK v6) rfl λ⟨_,v7⟩=>bR aa (jr v3 v7) rfl λ⟨r,hr⟩=>fz aa rfl hK rfl ?_);obtain⟨X,hX⟩:∃X,u*(v*v*v)*gL (u*(v*v*v)*(v*v*v)*v) (2^252-3)=X:=⟨_,rfl⟩;have Og:=az8 hX;rw [hX] at hr;refine ao λK0 jf=>?_;have go:∀(r:aC) (Y:Nums.F),cu r Y->(¬Y*Y*v=u->∀y,v*y*y≠u)->∀e,gj e ⟨[(2,.a 2 0),(3,.a 3 0),(4,.a 4 0),(7,.a 7 0)],[⟨7,none,234,[.agg 5 (av r).toArray]⟩,⟨4,none,234,[.agg 5 (av [0,0,0,0,0]).toArray]⟩,⟨3,none,234,[.agg 5 (av b).toArray]⟩,⟨2,none,234,[.agg 5 (av a).toArray]⟩],[],j6,λ_=>True⟩->cl B K0 56 e:=λr Y hr hn e he=>ft he (jf _ ?_)
 .refine eU 8 [] λK hK G S w0 aa=>bR aa (jr hr hr) rfl λ⟨_,v1⟩=>bR aa (jr v1 aF) rfl λ⟨_,v2⟩=>bR aa (Ui v2 hA) rfl λ_=>fz aa rfl hK rfl ?_
  by_cases h1:X*X*v=u
  .refine pD false (congrArg (λq=>some (aq.b (!q))) (decide_eq_true h1)) (λh=>by cases h) λ_=>aR ?_;exact go r X hr (λh=>absurd h1 h) _ (hv rfl rfl rfl)
  .refine pD true (congrArg (λq=>some (aq.b (!q))) (decide_eq_false h1)) (λ_=>ef ?_) λh=>by cases h
   refine dP rfl (zn (.p [.agg 5 (av Fj).toArray]) (ng (l:=Fj) rfl) (λG S w C0 Q' _ _ hQ=>C3 [(0,.int .u64 1718705420411056),(1,.int .u64 234908883556509),(2,.int .u64 2233514472574048),(3,.int .u64 2117202627021982),(4,.int .u64 765476049583133)] (av Fj).toArray rfl rfl rfl (by kernel_rfl) hQ) rfl (cX (jr hr anG) (λ_=>rfl) rfl λ⟨r2,v3⟩=>kz rfl ?_));exact go r2 _ v3 (λh=>Og h1 h) _ (hv rfl rfl rfl)
 refine ao λK1 aS=>eU 8 [] λK hK G S w0 aa=>bR aa (jr hr hr) rfl λ⟨_,v1⟩=>bR aa (jr v1 aF) rfl λ⟨_,v2⟩=>bR aa (Ui v2 hA) rfl λ_=>fz aa rfl hK rfl ?_;by_cases h1:Y*Y*v=u
 .refine pD false (congrArg (λq=>some (aq.b (!q))) (decide_eq_true h1)) (λh=>by cases h) λ_=>aR (aS _ ?_)
  refine ao λK2 aM=>ck λK hK=>cX (PL hr) (λ_=>rfl) rfl λ_=>cR hK rfl ?_;refine bn (Y.val%2=1) rfl (λho=>ef ?_) (λho=>aR (aM _ ?_))
  .refine cX (zJ xA hr) (λ_=>rfl) rfl λ⟨r2,v3⟩=>kz rfl (aM _ ?_);refine ag rfl (aJ ?_);exact bE (⟨r2,true,.inl ⟨0-Y,v3,h0,az9 h1 ho,rfl⟩⟩:Jk u v) rfl aD λ_ _=>trivial
  .refine ag rfl (aJ ?_);exact bE (⟨r,true,.inl ⟨Y,hr,h0,az7 h1 ho,rfl⟩⟩:Jk u v) rfl aD λ_ _=>trivial
 .refine pD true (congrArg (λq=>some (aq.b (!q))) (decide_eq_false h1)) (λ_=>?_) λh=>by cases h
  refine ag rfl (aJ ?_);exact bE (⟨[0,0,0,0,0],false,.inr ⟨.inr (hn h1),rfl,rfl⟩⟩:Jk u v) rfl aD λ_ _=>trivial⟩
def Pv{F:aE}[dc F]{b:ae}{x:Nums.F}(hb:b.length=32)(hg:zf b=true)(hx:bJ (le b%(2^255))=x):cV F 165 [aw 32 b] (ahE x):=ac8 hb (λ_ r hr=>⟨⟨r,hx▸hr⟩,rfl⟩) λh=>by rw [hg] at h;cases h
def ac7{n:Nat}[NeZero n](t z:Fin n):(0-t)*z=0-t*z:=by grind only
def auX{n:Nat}[NeZero n](x y:Fin n):(0-x)*y=0-x*y:=ac7 x y
def _root_.Nums.Ed.fw.ajV{n:Nat}[NeZero n]{X Y Z:Fin n}{P:Ed.bz n}(r:Ed.fw X Y Z P):Ed.fw (0-X) Y Z (Ed.neg P):=by
 have h:=r.neg;have e : -X=0-X:=by grind only
 rwa [e] at h
section
variable{F:aE}[dc F]
def M8{X Y:aC}{x y:Nums.F}(hX:cu X x)(hY:cu Y y)(l9:Ed.c9 bP ⟨x,y⟩):cV F 166 [fG X,fG Y] (zz (rr · ⟨x,y⟩)):=⟨avU,by refine bA [fG X,fG Y] 12 func166 rfl (ab:=dZ (ng hX.len) (ng hY.len)) λb=>?_;refine ag rfl ?_;refine eU 7 [] λK hK G S w0 aa=>?_;refine bR aa V5 rfl λ⟨r,v⟩=>bR aa (jr hX hY) rfl λ⟨s,u⟩=>fz aa rfl hK rfl (aJ ?_);exact x7 ⟨X,Y,r,s⟩ (rr.of hX hY v u (Ed.fw.one nf x y) (by grind only) l9) rfl (by decide) rfl⟩
def Yx:cV F 177 [] (xB bP):=⟨aw8,by refine bA [] 9 func177 rfl λb=>?_;refine ag rfl (ck λK hK=>?_);refine Up 32 Sk rfl rfl (by kernel_rfl) (by kernel_rfl) rfl ?_;refine cX (Pv rfl aoX atY) (λ_=>rfl) rfl λ⟨r,v⟩=>cR hK rfl (ag rfl (aJ ?_));exact Dy r v rfl (by decide) rfl⟩
def avY:Own 127:=λ_ _=>by go_simp
def XI:cV F 127 [] (zz (rr · base)):=⟨avY,by refine bA [] 18 func127 rfl λb=>?_;refine ag rfl (ck λK hK=>?_);refine Up 32 RV rfl rfl (by kernel_rfl) (by kernel_rfl) rfl ?_;refine cX (Pv rfl aoU atV) (λ_=>rfl) rfl λ⟨r,v⟩=>cR hK rfl (ck λK hK=>?_);refine Up 32 RW rfl rfl (by kernel_rfl) (by kernel_rfl) rfl ?_;refine cX (Pv rfl aoV atW) (λ_=>rfl) rfl λ⟨s,u⟩=>cR hK rfl (ck λK hK=>cX (M8 v u wT) (λ_=>rfl) rfl λ⟨P,hP⟩=>cR hK rfl (aJ ?_));exact x7 P hP rfl (by decide) rfl⟩
def R5(P:fF):a7 P.ai=(av P.l).toArray:=by have h:=Yf P;injection h
def Rb{P:fF}{A:Ed.bz p}(h:oK P.l A)(hP:P.aI):cV F 169 [gY P] (zz (rr · A)):=⟨awQ,by
 refine bA [gY P] 10 func169 rfl (ab:=iG hP.ai) λb=>?_;have hq:=R5 P;refine ag rfl (ao λK0 jf=>ck λK hK=>aj rfl ?_);rcases h with⟨h,rfl⟩|h
 .refine zn (.v (.bool true)) trivial (λG S w C0 Q' _ _ hQ=>JO (a7 P.ai) (av DT).toArray rfl rfl rfl rfl (by kernel_rfl) (by rw [hq,h];exact Yt) hQ) rfl ?_;refine cR hK rfl (ir rfl (ck λK2 aM=>cX V5 (λ_=>rfl) rfl λ⟨r,v⟩=>cX (M8 xA v Ed.DC) (λ_=>rfl) rfl λ⟨P,hP⟩=>cR aM rfl (aJ ?_)));exact x7 P hP rfl (by decide) rfl
 .refine zn (.v (.bool false)) trivial (λG S w C0 Q' _ _ hQ=>JO (a7 P.ai) (av DT).toArray rfl rfl rfl rfl (by kernel_rfl) (by rw [hq];exact ac6 h) hQ) rfl ?_;refine cR hK rfl (dY rfl (aR (jf _ (ag rfl (aJ ?_)))));exact x7 P ⟨h,hP⟩ rfl (by decide) rfl⟩
end
def Xw{P:fF}{A:Ed.bz p}(h:oK P.l A)(hP:P.aI):cV j6 206 [gY P] (zz (Gn · A)):=⟨avT,by refine bA [gY P] 28 func206 rfl (ab:=iG hP.ai) λb=>?_;refine ag rfl (ck λK hK=>cX (Rb h hP) (λ_=>rfl) rfl λ⟨P,h,hP⟩=>cR hK rfl ?_);obtain⟨x,y,z,t,hX,hY,hZ,hT,hR,ht⟩:=h.nums hP;refine eU 23 [] λK hK G S w0 aa=>?_;refine bR aa (zZ hY hX) rfl λ⟨r1,v1⟩=>bR aa (zJ hY hX) rfl λ⟨r2,v2⟩=>bR aa (zZ hZ hZ) rfl λ⟨r3,v3⟩=>bR aa (zZ hT hT) rfl λ⟨r4,v4⟩=>bR aa Yx rfl λ⟨r5,v5⟩=>bR aa (jr v4 v5) rfl λ⟨r6,v6⟩=>fz aa rfl hK rfl (aJ ?_);exact x7 ⟨r1,r2,r3,r6⟩ ⟨⟨⟨_,_,_,_,x,y,z,t,rfl,v1,v2,v3,v6,hR,ht⟩,h.on⟩,P7 v1 v2 v3 v6⟩ rfl (by decide) rfl⟩
def adO{P Q:fF}{A B:Ed.bz p}(h:oK P.l A)(hP:P.aI)(h':Gn Q.l B)(hQ:Q.aI):cV j6 204 [gY P,gY Q] (zz (rr · (Ed.add bP A B))):=⟨awP,by refine bA [gY P,gY Q] 66 func204 rfl (ab:=dZ hP.ai hQ.ai) λb=>?_;obtain⟨x',y',z',t',hX',hY',hZ',hT',hR',ht'⟩:=h'.nums hQ;refine ag rfl (ck λK hK=>cX (Rb h hP) (λ_=>rfl) rfl λ⟨P,h,hP⟩=>cR hK rfl ?_);obtain⟨x,y,z,t,hX,hY,hZ,hT,hR,ht⟩:=h.nums hP;refine eU 16 [(5,234),(6,234)] λK hK G S w0 aa=>?_;refine bR aa (zJ hY hX) rfl λ⟨r,v⟩=>bR aa (jr v hY') rfl λ⟨r1,v1⟩=>bR aa (zZ hY hX) rfl λ⟨r,v⟩=>bR aa (jr v hX') rfl λ⟨r2,v2⟩=>fz aa rfl hK rfl ?_;refine eU 10 [(7,234),(8,234)] λK hK G S w0 aa=>?_;refine bR aa (jr hZ hZ') rfl λ⟨r3,v3⟩=>bR aa (jr hT hT') rfl λ⟨r4,v4⟩=>fz aa rfl hK rfl ?_;refine eU 12 [(9,234),(10,234),(11,234),(12,234)] λK hK G S w0 aa=>?_;refine bR aa (zJ v2 v1) rfl λ⟨e,ve⟩=>bR aa (zJ v3 v4) rfl λ⟨f,vf⟩=>bR aa (zZ v3 v4) rfl λ⟨g,vg⟩=>bR aa (zZ v2 v1) rfl λ⟨i,vi⟩=>fz aa rfl hK rfl ?_;refine eU 13 [] λK hK G S w0 aa=>?_;refine bR aa (jr ve vf) rfl λ⟨r5,v5⟩=>bR aa (jr vg vi) rfl λ⟨r6,v6⟩=>bR aa (jr vf vg) rfl λ⟨r7,v7⟩=>bR aa (jr ve vi) rfl λ⟨r8,v8⟩=>fz aa rfl hK rfl (aJ ?_);have hE:=Ed.fw.plus dn h.on h'.on hR ht hR' ht' rfl rfl rfl rfl rfl rfl rfl rfl;exact x7 ⟨r5,r6,r7,r8⟩ (rr.of v5 v6 v7 v8 hE.1 hE.2 (Ed.zm dn h.on h'.on)) rfl (by decide) rfl⟩
def awK:Own 134:=λ_ _=>by go_simp
def auW{P:fF}{A:Ed.bz p}(h:oK P.l A)(hP:P.aI):cV j6 134 [gY P] (zz (rr · (Ed.neg A))):=⟨awK,by refine bA [gY P] 18 func134 rfl (ab:=iG hP.ai) λb=>?_;refine ag rfl (ck λK hK=>cX (Rb h hP) (λ_=>rfl) rfl λ⟨P,h,hP⟩=>cR hK rfl ?_);obtain⟨x,y,z,t,hX,hY,hZ,hT,hR,ht⟩:=h.nums hP;refine eU 13 [] λK hK G S w0 aa=>?_;refine bR aa (zJ xA hX) rfl λ⟨r,v⟩=>bR aa (zJ xA hT) rfl λ⟨s,u⟩=>fz aa rfl hK rfl (aJ ?_);exact x7 ⟨r,P.Y,P.Z,s⟩ (rr.of v hY hZ u (Ed.fw.ajV hR) (by rw [ac7,auX,ht]) (Ed.Cr h.on)) rfl (by decide) rfl⟩
def Yb{A:Ed.bz p}(l9:Ed.c9 bP A){i:Nat}:Ed.mul bP (2^(i+1)) A=Ed.add bP (Ed.mul bP (2^i) A) (Ed.mul bP (2^i) A):=by rw [k8,Nat.mul_two,Ed.mul_add dn l9]
def ak0(n:Nat)(A:Ed.bz p)(i:Nat)(P:fF):Prop:=∃x y z t,cu P.X x/\cu P.Y y/\cu P.Z z/\cu P.T t/\Ed.fw x y z (Ed.mul bP (2^i) A)/\(i=0\/i=n->t*z=x*y)
def Ns{P:fF}{A:Ed.bz p}(h:oK P.l A)(hP:P.aI)(n:Nat)(hn:n<4294967296):cV j6 179 [gY P,.c (.v (.int .i64 (n:Int)))] (zz (oK · (Ed.mul bP (2^n) A))):=⟨aw3,by
 refine bA [gY P,.c (.v (.int .i64 (n:Int)))] 76 func179 rfl (ab:=dZ hP.ai trivial) λb=>?_;have hq:=R5 P;refine ag rfl (ao λK0 jf=>ck λK hK=>aj rfl ?_);rcases h with⟨h,rfl⟩|h
 .refine zn (.v (.bool true)) trivial (λG S w C0 Q' _ _ hQ=>JO (a7 P.ai) (av DT).toArray rfl rfl rfl rfl (by kernel_rfl) (by rw [hq,h];exact Yt) hQ) rfl ?_;refine cR hK rfl (ir rfl (ag rfl (aJ ?_)));exact x7 P ⟨.inl ⟨h,Ed.mul_zero dn _⟩,hP⟩ rfl (by decide) rfl
 .refine zn (.v (.bool false)) trivial (λG S w C0 Q' _ _ hQ=>JO (a7 P.ai) (av DT).toArray rfl rfl rfl rfl (by kernel_rfl) (by rw [hq];exact ac6 h) hQ) rfl ?_
  refine cR hK rfl (dY rfl (aR (jf _ (ao λK hK=>ag rfl (a8 ?_)))));let F:Nat×fF->Env:=λs=>⟨[(19,.aT s.1),(18,.aT n),(1,.aT n),(4,.a 4 0),(2,.a 2 0)],[⟨4,none,236,(⟨dq,dq,dq,dq⟩:fF).ai⟩,⟨2,none,236,s.2.ai⟩],[],j6,λ_=>True⟩;obtain⟨x,y,z,t,hX,hY,hZ,hT,hR,ht⟩:=h.nums hP;have l9:=h.on;refine cI (e':=F (0,P)) (fC rfl rfl rfl λ_ h _=>h) (cY (λs=>n-s.1) F (λs=>s.1<=n/\ak0 n A s.1 s.2/\s.2.aI) ?_ (0,P) ⟨bl _,⟨x,y,z,t,hX,hY,hZ,hT,by rw [xW,Ed.Mh dn];exact hR,λ_=>ht⟩,hP⟩);clear hX hY hZ hT hR ht h hP hq P;rintro⟨i,P⟩ ⟨hi,hD,hP⟩;dsimp only at hi hD hP;refine ag rfl (ao λK1 aS=>?_);refine bn ((i:Int)<(n:Int)) rfl (λal=>?_) (λcW=>?_)
  .refine aR (aS _ ?_)
   refine ao λK2 aM=>a8 (ag rfl ?_);obtain⟨x,y,z,t,hX,hY,hZ,hT,hR,ht⟩:=hD;refine eU 20 [(6,234),(7,234),(8,234),(9,234)] λK hK G S w0 aa=>bR aa (jr hX hX) rfl λ⟨r1,v1⟩=>bR aa (jr hY hY) rfl λ⟨r2,v2⟩=>bR aa (jr hZ hZ) rfl λ⟨r3,v3⟩=>bR aa (jr hX hY) rfl λ⟨r4,v4⟩=>fz aa rfl hK rfl (eU 9 [(10,234),(11,234),(12,234)] λK hK G S w0 aa=>bR aa (zZ v4 v4) rfl λ⟨e,ve⟩=>bR aa (zJ v2 v1) rfl λ⟨g,vg⟩=>bR aa (zZ v2 v1) rfl λ⟨j,vj⟩=>fz aa rfl hK rfl (eU 5 [(13,234)] λK hK G S w0 aa=>bR aa (zZ v3 v3) rfl λ⟨f0,vf0⟩=>bR aa (zJ vf0 vg) rfl λ⟨f,vf⟩=>fz aa rfl hK rfl (eU 10 [] λK hK G S w0 aa=>bR aa (jr ve vf) rfl λ⟨r5,v5⟩=>bR aa (jr vg vj) rfl λ⟨r6,v6⟩=>bR aa (jr vf vg) rfl λ⟨r7,v7⟩=>fz aa rfl hK rfl ?_)));have hE:=Ed.fw.dbl dn (Ed.qJ dn l9 (2^i)) hR rfl rfl rfl rfl rfl rfl rfl rfl;rw [<-Yb l9] at hE;have hw:IntKind.i64.wrap ((n:Int)-1)=(n:Int)-1:=jv rfl (by omega) (by omega);refine ag rfl ?_;refine bn ((i:Int)=IntKind.i64.wrap ((n:Int)-1)) rfl (λhl=>?_) (λhl=>?_)
   .refine ef ?_;refine cX (jr ve vj) (λ_=>rfl) rfl λ⟨r8,v8⟩=>aj rfl (ah (aM _ (cE rfl ?_)));exact cH (i+1,⟨r5,r6,r7,r8⟩) ⟨by show i+1<=n;omega,⟨_,_,_,_,v5,v6,v7,v8,hE.1,λ_=>hE.2⟩,P7 v5 v6 v7 v8⟩ (by show n-(i+1)<n-i;omega) ⟨⟨pC (by omega) (by omega),rfl,rfl,rfl,rfl,trivial⟩,c8 rfl rfl, .refl _,λ_ h _=>h,λ_ h=>h⟩
   .refine aR (aM _ ?_);refine cE rfl ?_;exact cH (i+1,⟨r5,r6,r7,dq⟩) ⟨by show i+1<=n;omega,⟨_,_,_,0,v5,v6,v7,xA,hE.1,λh=>by rw [hw] at hl;omega⟩,P7 v5 v6 v7 xA⟩ (by show n-(i+1)<n-i;omega) ⟨⟨pC (by omega) (by omega),rfl,rfl,rfl,rfl,trivial⟩,c8 rfl rfl, .refl _,λ_ h _=>h,λ_ h=>h⟩
  .obtain rfl:i=n:=by omega
   refine cG (a6 (a6 (cF (hK _ ?_))));obtain⟨x,y,z,t,hX,hY,hZ,hT,hR,ht⟩:=hD;refine ag rfl (aJ ?_);exact x7 P ((rr.of hX hY hZ hT hR (ht (.inr rfl)) (Ed.qJ dn l9 _)).imp_left .inr) rfl (by decide) rfl⟩
def oK.W5{l:aC}{A:Ed.bz p}(h:oK l A):∃X Y Z T x y z t,l=cx X Y Z T/\cu X x/\cu Y y/\cu Z z/\cu T t/\(y=z↔A=Ed.zero):=by
 rcases h with⟨rfl,rfl⟩|⟨⟨X,Y,Z,T,x,y,z,t,rfl,hX,hY,hZ,hT,hR,_⟩,l9⟩
 .exact⟨dq,dq,dq,dq,0,0,0,0,rfl,xA,xA,xA,xA,by simp⟩
 .exact⟨X,Y,Z,T,x,y,z,t,rfl,hX,hY,hZ,hT,hR.aGY dn l9⟩
def LI{x y:F}:Ed.c9 bP ⟨x,y⟩↔(y*y*bP+1)*x*x=y*y-1:=by show y*y-x*x=1+bP*x*x*y*y↔_;constructor<;>intro h<;>grind only
def Yd{b:ae}{A:Ed.bz p}{y:F}{s:Nat}(hle:le b=y.val+(2^255)*s)(h:hB A=b):A.y=y/\A.x.val%2=s:=by rw [<-h,FF] at hle;unfold vI at hle;have h1:=y.isLt;have h2:=A.y.isLt;have h3:=MC;exact⟨Fin.ext (by omega),by omega⟩
def Yc{b:ae}(hb:b.length=32){x y:F}{s:Nat}(hle:le b=y.val+(2^255)*s)(hs:x.val%2=s):hB ⟨x,y⟩=b:=by apply FN (by rw [FA,hb]);rw [FF,hle];unfold vI;rw [hs]
def alI(m:Nat)(h:m<128):bits .or .u8 (m:Int) 128=((m+128:Nat):Int):=by
 have key:∀m:Nat,m<128->bits .or .u8 (m:Int) 128=((m+128:Nat):Int)   := by decide +kernel
 exact key m h
def abL(m:Nat)(h:m<256):bits .and .u8 (m:Int) 127=((m%128:Nat):Int):=by
 have key:∀m:Nat,m<256->bits .and .u8 (m:Int) 127=((m%128:Nat):Int)   := by decide +kernel
 exact key m h
def amO{a b:aC}{y:F}(hA:cu a (y*y-1))(aF:cu b (y*y*bP+1)) :
  ((∃x,x.val%2=0/\Ed.c9 bP ⟨x,y⟩/\cV j6 175 [fG a,fG b] (ahE x))\/((∀x,¬Ed.c9 bP ⟨x,y⟩)/\cV j6 175 [fG a,fG b] noP)):=by
 have ab:=Q4 y
 by_cases hx:∃x,Ed.c9 bP ⟨x,y⟩
 .left
  obtain⟨x0,h0⟩:=hx;have key:∀x:F,(y*y*bP+1)*x*x=y*y-1/\x.val%2=0->x=FP x0:=λx hx=>by
   have h1:=LI.1 h0;have h2:x*x=x0*x0:=by
    refine cancel nf ab ?_;have e1:x*x*(y*y*bP+1)=(y*y*bP+1)*x*x:=by grind only
    have e2:x0*x0*(y*y*bP+1)=(y*y*bP+1)*x0*x0:=by grind only
    rw [e1,e2,hx.1,h1]
   exact afY (h2.trans (aeC x0).symm) (by rw [hx.2,ae0])
  refine⟨FP x0,ae0 x0,?_,(aeY hA aF).to ?_⟩
  .rw [QA,aeC];exact(QA _ _).1 h0
  .rintro⟨r,ok,⟨x,hr,_,hx,rfl⟩|⟨h|h,_⟩⟩
   .exact⟨⟨r,key x hx▸hr⟩,rfl⟩
   .exact absurd h ab
   .exact absurd (LI.1 h0) (h x0)
 .refine .inr ⟨λx h=>hx ⟨x,h⟩,(aeY hA aF).to ?_⟩
  rintro⟨r,ok,⟨x,_,_,h,_⟩|⟨_,rfl,rfl⟩⟩
  .exact absurd ⟨x,LI.2 h.1⟩ hx
  .exact⟨(),rfl⟩
def awB:Own 129:=λ_ _=>by go_simp
def anS(x y:Nums.F)(w:yp):(cO 10000 47 (.agg (By (fp x)).toArray) (.agg (By (fp y)).toArray)).run prog w = .ok (decide (x=y)) w:=by rw [anT _ _ (xX _) (xX _)];congr 1;exact decide_eq_decide.2 ⟨aH2,congrArg fp⟩
def aw0:Own 131:=λ_ _=>by go_simp
def aBP{P:fF}{A:Ed.bz p}(h:oK P.l A)(hP:P.aI):cV j6 131 [gY P] (one (.q (.c (.b (decide (hB (Ed.mul bP 8 A)=hB Ed.zero)))))):=⟨aw0,by refine bA [gY P] 12 func131 rfl (ab:=iG hP.ai) λb=>?_;refine ag rfl (ck λK hK=>?_);refine cX (Ns h hP 3 (by decide)) (λ_=>rfl) rfl λ⟨P,h,hP⟩=>?_;refine cR hK rfl ?_;obtain⟨X,Y,Z,T,x,y,z,t,e,hX,hY,hZ,hT,hi⟩:=h.W5;obtain rfl:=Vi hP hX hY hZ e;have hi:=hi.trans ⟨congrArg hB,PY h.on Ed.DC⟩;refine eU 8 [] λK hK G S w0 aa=>?_;refine bR aa (NZ hY) rfl λ_=>bR aa (NZ hZ) rfl λ_=>?_;refine FI aa (.b (decide (hB (Ed.mul bP (2^3) A)=hB Ed.zero))) trivial (λC0 Q' _ hQ=>JO (By (fp y)).toArray (By (fp z)).toArray rfl rfl rfl rfl (by kernel_rfl) (by rw [<-decide_eq_decide.2 hi];exact anS y z) hQ) ?_;refine fz aa rfl hK rfl (aJ ?_);exact bE () rfl aD λ_ _=>trivial⟩
def adK{P:fF}{A:Ed.bz p}(h:oK P.l A)(hP:P.aI):cV j6 129 [gY P] (one (.q (aw 32 (hB A)))):=⟨awB,by
 refine bA [gY P] 25 func129 rfl (ab:=iG hP.ai) λb=>ag rfl (ck λK hK=>cX (Rb h hP) (λ_=>rfl) rfl λ⟨P,h,hP⟩=>cR hK rfl ?_);obtain⟨x,y,z,t,hX,hY,hZ,hT,hR,ht⟩:=h.nums hP;have Zo:=hR.Xx nf;refine ck λK hK=>cX (as5 hZ) (λ_=>rfl) rfl λ⟨r,v⟩=>cR hK rfl (ck λK hK=>cX (jr hY v) (λ_=>rfl) rfl λ⟨s,u⟩=>?_);rw [Zo.2] at u;refine cX (NZ u) (λ_=>rfl) rfl λ_=>cR hK rfl (ao λK0 jf=>ck λK hK=>cX (jr hX v) (λ_=>rfl) rfl λ⟨s,u⟩=>?_);rw [Zo.1] at u;refine cX (PL u) (λ_=>rfl) rfl λ_=>cR hK rfl ?_;have h31:=VV A.y;refine bn (A.x.val%2=1) rfl (λho=>?_) (λho=>?_)
 .refine ef ?_
  refine lp rfl BA (cL rfl) _ (ub (l:=fp A.y) (j:=31) (by rw [xX];decide)) (dP rfl ?_);refine zo rfl BA (cL rfl) [.agg 32 (By (hB A)).toArray] (cq (FA A)).1 ?_ ?_ (ah (jf _ ?_))
  .show _<(By (fp A.y)).toArray.size;rw [Uy (xX _)];exact cL rfl
  .show By (hB A)=(By (fp A.y)).set 31 (.int .u8 (bits .or .u8 ((fp A.y)[31]!.toNat:Int) 128));rw [alI _ h31,aGA ho,By,By,oW,mZ (by show _<256;omega)]
  .refine ag rfl (aJ ?_);exact bE () rfl aD λ_ _=>trivial
 .refine aR (jf _ ?_);refine ag rfl (aJ ?_);rw [<-aEA ho];exact bE () rfl aD λ_ _=>trivial⟩
def atU{n:ae}(i:Nat)(hi:i/8<n.length):(n[i/8]!).toNat/2^(i%8)%2=le n/2^i%2:=by
 have e1:n=n.take (i/8)++(n[i/8]! :: n.drop (i/8+1)):=by
  conv=>lhs;rw [<-oN (i/8) n]
  rw [List.drop_eq_getElem_cons hi,getElem!_pos n (i/8) hi]
 have e2:le n=le (n.take (i/8))+256^(i/8)*((n[i/8]!).toNat+256*le (n.drop (i/8+1))):=by
  conv=>lhs;rw [e1]
  rw [Du,du,pq (by omega)];rfl
 have h1:=DN (n.take (i/8));rw [du,pq (by omega)] at h1;have e3:(2:Nat)^i=256^(i/8)*2^(i%8):=by rw [show(256:Nat)=2^8 by decide,<-Nat.pow_mul,<-wV];congr 1;omega
 rw [e2,e3,<-C9,Qn _ _ (by exact MA (by decide)),Nat.div_eq_of_lt h1,dI];have h8:i%8<8:=Nat.mod_lt _ (by decide);generalize (n[i/8]!).toNat=c;generalize le (n.drop (i/8+1))=d;generalize i%8=k at *;have e4:(256:Nat)=2^k*2^(8-k):=by rw [<-wV,show k+(8-k)=8 by omega]
 rw [e4,vk,Qn _ _ (MA (by decide))];have e5:2^(8-k)*d=2*(2^(7-k)*d):=by rw [show 8-k=(7-k)+1 by omega,k8];grind only
 rw [e5];omega
def tj(b:ae):ae:=b.set 31 (bX ((b[31]!).toNat%128))
def X3{b:ae}(hb:b.length=32):(tj b).length=32:=by rw [tj,jO,hb]
def Ux{b:ae}(hb:b.length=32):le b=le (tj b)+(2^255)*((b[31]!).toNat/128)/\le (tj b)<(2^255):=by have h1:=le_top hb;have h2:=ahR hb;have h3:=aj6 hb (bX ((b[31]!).toNat%128));rw [mZ (by show _<256;omega)] at h3;unfold tj;omega
def aoW{b:ae}(hb:b.length=32):zf (tj b)=decide (le (tj b)<p):=by
 have h:=(Ux hb).2;have hl:=X3 hb;have h128:=(ahJ hl).2 h;unfold zf;rw [gm h,decide_eq_true h128,Bool.true_and];congr 1;refine propext ⟨λe=>?_,λe=>?_⟩
 .rw [<-e,FO];exact(bJ _).isLt
 .exact(aHH hl (x:=bJ (le (tj b))) (by rw [DD,gm e])).symm
def av4{b:ae}(hb:b.length=32)(h:¬le (tj b)<p):¬ ∃A,Ed.c9 bP A/\hB A=b:=by rintro⟨A,_,rfl⟩;have h1:=Ux hb;rw [FF] at h1;unfold vI at h1;have h2:=A.y.isLt;have h3:=MC;omega
structure Gp(b:ae) where
  P:fF
  e:Int
  ok:(∃A,rr P.l A/\P.aI/\hB A=b/\e=0)\/((¬ ∃A,Ed.c9 bP A/\hB A=b)/\P=⟨dq,dq,dq,dq⟩/\e=50)
abbrev amW(b:ae):fm (Gp b):={ ret:=λr=>.t [gY r.P,.c (.v (.int .i64 r.e))] }
def av0{F:aE}[dc F]{b:ae}(hb:b.length=32)(hg:zf b=false):cV F 165 [aw 32 b] noP:=ac8 hb (λh=>by rw [hg] at h;cases h) λ_=>⟨(),rfl⟩
def aw1:Own 130:=λ_ _=>by go_simp
def amX{b:ae}(hb:b.length=32):cV j6 130 [aw 32 b] (amW b):=⟨aw1,by
 refine bA [aw 32 b] 57 func130 rfl (ab:=iG (cq hb).1) λB=>?_;have hle:=Ux hb;have ZL:=aoW hb;have fM:=X3 hb;have al:=(b[31]!).toNat_lt;have h31:(a7 [.agg 32 (By b).toArray])[31]?=some (.int .u8 (b[31]!.toNat:Int)):=ub (l:=b) (j:=31) (by omega);obtain⟨od,Dg⟩:∃od:Bool,decide (lP (b[31]!.toNat:Int) (2^min 7 IntKind.u8.bits)=1)=od:=⟨_,rfl⟩;have aa1:od=decide (b[31]!.toNat/128=1):=by rw [<-Dg];refine decide_eq_decide.2 ?_;show lP (b[31]!.toNat:Int) 128=1↔_;rw [tM _ (by decide)];omega
 refine ag rfl (ck λK hK=>lp rfl BA (cL rfl) _ h31 (dP rfl (me 4 (.b od) rfl (congrArg _ Dg) (ah (hK _ (ck λK hK=>lp rfl BA (cL rfl) _ h31 (dP rfl ?_)))))));refine zo rfl BA (cL rfl) [.agg 32 (By (tj b)).toArray] (cq fM).1 ?_ ?_ (ah (hK _ ?_))
 .show _<(By b).toArray.size;rw [Uy hb];exact cL rfl
 .show By (tj b)=(By b).set 31 (.int .u8 (bits .and .u8 (b[31]!.toNat:Int) 127));rw [abL _ al,tj,By,By,oW,mZ (by show _<256;omega)]
 refine ck λK hK=>?_;by_cases hg:le (tj b)<p
 .have Kv:le b=(bJ (le (tj b))).val+(2^255)*(b[31]!.toNat/128):=by rw [DD,gm hg];exact hle.1
  refine cX (Pv (x:=bJ (le (tj b))) fM (by rw [ZL,decide_eq_true hg]) (by rw [gm hle.2])) (λ_=>rfl) rfl λ⟨r,v⟩=>?_;generalize bJ (le (tj b))=y at *;refine cR hK rfl (ao λK0 jf=>ag rfl (dY rfl (aR (jf _ (eU 4 [(7,234),(8,234)] λK hK G S w0 aa=>bR aa V5 rfl λ⟨r1,v1⟩=>bR aa (jr v v) rfl λ⟨r2,v2⟩=>fz aa rfl hK rfl (s_T (x:=.tmp 40) (z:=.tmp 41) 12 9 6 234 (by kernel_rfl) λK hK G S w0 aa=>bR aa (zJ v2 v1) rfl λ⟨r3,v3⟩=>bR aa Yx rfl λ⟨r4,v4⟩=>bR aa (jr v2 v4) rfl λ⟨r5,v5⟩=>bR aa (zZ v5 v1) rfl λ⟨r6,v6⟩=>?_))))));rcases amO v3 v6 with⟨x,kj,l9,hR⟩|⟨o7,hR⟩
  .refine bR aa hR rfl λ⟨r7,v7⟩=>?_
   refine n_T aa hK rfl (ao λK0 jf=>ag rfl (dY rfl (aR (jf _ (ao λK0 jf=>ag rfl ?_)))));cases od with
   | false =>
    refine pD false rfl (λh=>by cases h) (λ_=>?_);refine aR (jf _ (ao λK0 jf=>ck λK hK=>cX (PL v7) (λ_=>rfl) rfl λ_=>dP rfl (b6 (.b (!(_==_))) rfl (VS rfl rfl rfl (λ_=>rfl) λ_=>rfl) (pd 52 false rfl (by rw [decide_eq_false (by omega)];rfl) (ah (hK _ (dY rfl (aR (jf _ (ck λK hK=>cX (M8 v7 v l9) (λ_=>rfl) rfl λ⟨P,hP⟩=>cR hK rfl (aJ ?_)))))))))))
    have h00:b[31]!.toNat/128=0:=by have:=of_decide_eq_false aa1.symm;omega
    exact bE (⟨P,0,.inl ⟨_,hP.1,hP.2,Yc hb (s:=0) (by rw [<-h00];exact Kv) kj,rfl⟩⟩:Gp b) rfl aD λ_ _=>trivial
   | true =>
    have h01:b[31]!.toNat/128=1:=of_decide_eq_true aa1.symm;rw [h01] at Kv;refine pD true rfl (λ_=>?_) (λh=>by cases h);refine ef (cX (zJ xA v7) (λ_=>rfl) rfl λ⟨r8,v8⟩=>dP rfl (ah (jf _ (ao λK0 jf=>ck λK hK=>cX (PL v8) (λ_=>rfl) rfl λ_=>dP rfl (b6 (.b (!(_==_))) rfl (VS rfl rfl rfl (λ_=>rfl) λ_=>rfl) ?_)))))
    by_cases np:x=0
    .refine pd 52 true rfl (by rw [np];decide) (ah (hK _ ?_))
     refine ir rfl (ag rfl (aJ ?_));refine bE (⟨⟨dq,dq,dq,dq⟩,50,.inr ⟨?_,rfl,rfl⟩⟩:Gp b) rfl aD λ_ _=>trivial;rintro⟨A,hA,Sz⟩;obtain⟨e1,e2⟩:=Yd Kv Sz;have h3:Ed.c9 bP ⟨A.x,y⟩:=by rw [<-e1];exact hA
     have h4:=LI.1 h3;have h5:=LI.1 l9;rw [<-h5,np] at h4;have h6:A.x=0:=by
      by_cases h:A.x=0
      .exact h
      .exact absurd (h4.trans (by grind only)) (jd nf (jd nf (Q4 y) h) h)
     rw [h6] at e2;revert e2;decide
    .have hpo:(0-x:Nums.F).val%2=1:=by rw [show(0-x:Nums.F) = -x from by grind only,Qb np,kj]
     refine pd 52 false rfl (by rw [decide_eq_true hpo];rfl) (ah (hK _ (dY rfl (aR (jf _ (ck λK hK=>?_))))));have aqV:Ed.c9 bP ⟨0-x,y⟩:=by rw [show(0-x:Nums.F) = -x from by grind only];exact Ed.Cr l9
     refine cX (M8 v8 v aqV) (λ_=>rfl) rfl λ⟨P,hP⟩=>cR hK rfl (aJ ?_);exact bE (⟨P,0,.inl ⟨_,hP.1,hP.2,Yc hb (s:=1) Kv hpo,rfl⟩⟩:Gp b) rfl aD λ_ _=>trivial
  .refine bR aa hR rfl λ_=>?_;refine n_T aa hK rfl (ao λK0 jf=>ag rfl (ir rfl (ag rfl (aJ ?_))));refine bE (⟨⟨dq,dq,dq,dq⟩,50,.inr ⟨?_,rfl,rfl⟩⟩:Gp b) rfl aD λ_ _=>trivial;rintro⟨A,hA,Sz⟩;obtain⟨e1,_⟩:=Yd Kv Sz;exact o7 A.x (by rw [<-e1];exact hA)
 .refine cX (av0 fM (by rw [ZL,decide_eq_false hg])) (λ_=>rfl) rfl λ_=>?_;refine cR hK rfl (ao λK0 jf=>ag rfl (ir rfl (ag rfl (aJ ?_))));exact bE (⟨⟨dq,dq,dq,dq⟩,50,.inr ⟨av4 hb hg,rfl,rfl⟩⟩:Gp b) rfl aD λ_ _=>trivial⟩
def jJ(l:aC):cU:=l.map λx:Nat=>.int .u8 (x:Int)
def Xg(l:aC):(jJ l).length=l.length:=by simp [jJ]
def Xf{l:aC}{j:Nat}(h:j<l.length):(jJ l).toArray[j]?=some (.int .u8 (l[j]! : Nat)):=by simp [jJ,h]
def ak2(l:aC):∀u∈jJ l,u.oneCell'=true:=by intro u hu;obtain⟨x,_,rfl⟩:=dv.1 hu;rfl
def ak3(l:aC):∀v∈(jJ l).toArray.toList,v.oneCell'=true:=λv ab=>ak2 l v (by simpa using ab)
def Xh{l:aC}{n:Nat}(h:l.length=n):(jJ l).toArray.size=n:=by rw [fx,Xg,h]
def FE(m:Nat)(h:m<256):bits .and .u8 (m:Int) 1=((m%2:Nat):Int):=by
 have key:∀m:Nat,m<256->bits .and .u8 (m:Int) 1=((m%2:Nat):Int):=by decide +kernel
 exact key m h
def aBD(k:Nat)(h:k<4):IntKind.u8.wrap (1*2^k)=((2^k:Nat):Int):=by
 have hk:k=0\/k=1\/k=2\/k=3:=by omega
 rcases hk with rfl|rfl|rfl|rfl<;>decide
def orK(k x:Nat)(hk:k<4)(hx:x<2^k):bits .or .u8 (x:Nat) ((2^k:Nat):Int)=((x+2^k:Nat):Int):=by
 have k0:∀x:Nat,x<1->bits .or .u8 (x:Int) 1=((x+1:Nat):Int):=by decide +kernel
 have k1:∀x:Nat,x<2->bits .or .u8 (x:Int) 2=((x+2:Nat):Int):=by decide +kernel
 have k2:∀x:Nat,x<4->bits .or .u8 (x:Int) 4=((x+4:Nat):Int):=by decide +kernel
 have k3:∀x:Nat,x<8->bits .or .u8 (x:Int) 8=((x+8:Nat):Int):=by decide +kernel
 have hk':k=0\/k=1\/k=2\/k=3:=by omega
 rcases hk' with rfl|rfl|rfl|rfl
 .exact k0 x hx
 .exact k1 x hx
 .exact k2 x hx
 .exact k3 x hx
def an0{N i:Nat}{f:Int}{d:aC}(h:uc N i f d)(hf:¬f+4<=(i:Int)):∃m:Nat,f=m:=by
 rcases h.last with h|⟨m,h,_⟩
 .exact absurd h (by omega)
 .exact⟨m,h⟩
def Xz:rX 278 256:=⟨_,underlying278,by kernel_rfl⟩
def aw2:Own 205:=λ_ _=>by go_simp
abbrev eDs(d:aC):aL:=.p [.agg 256 (jJ d).toArray]
def Yi{d:aC}(h:d.length=256):ch [.agg 256 (jJ d).toArray]:=λq hq=>by rw [bU.1 hq];exact⟨Xh h,ak3 d⟩
abbrev an1(b:ae):fm {d:aC // d.length=256/\nq d=le b/\∀j,j<256->d[j]! = 0\/(d[j]! % 2=1/\d[j]! < 16)}:={ ret:=λd=>.q (eDs d.1) }
def ajX(n:Nat):By (aB n 0)=jJ (aB n 0):=by simp [By,jJ]
def ajY{n:Nat}{l:ae}{j:Nat}(h:j<l.length):(a7 [.agg n (By l).toArray])[0+j]?=some (.int .u8 ((l[j]!).toNat:Int)):=by rw [dI];exact ub h
def ak1{n:Nat}{l:aC}{j:Nat}(h:j<l.length):(a7 [.agg n (jJ l).toArray])[0+j]?=some (.int .u8 (l[j]! : Nat)):=by rw [dI];exact Xf h
def alL{c i:Nat}(h:c<256)(hi:i<=8):bits .and .u8 (lP (c:Int) (2^min i IntKind.u8.bits)) 1=((c/2^i%2:Nat):Int):=by
 have e:lP (c:Int) (2^min i IntKind.u8.bits)=((c/2^i:Nat):Int):=by rw [show min i IntKind.u8.bits=i from pq hi,tM _ (Int.pow_nonneg (by decide))];simp
 rw [e,FE _ (nc (qA _ _) h)]
def an3{F:aE}[dc F]{b:ae}(hb:b.length=32):cV F 205 [aw 32 b] (an1 b):=⟨aw2,by
 refine bA [aw 32 b] 34 func205 rfl (ab:=iG (cq hb).1) λB=>ag rfl (ag rfl (ag rfl (ao λK1 aS=>ag rfl (a8 ?_))));let P:Nat×Int×aC×ct->Env:=λs=>⟨[(6,.aT s.1),(4,.v (.int .i64 s.2.1)),(1,.a 1 0),(2,.a 2 0),(3,.a 3 0)],[⟨3,none,278,[.agg 256 s.2.2.2]⟩,⟨2,none,278,[.agg 256 (By (aB 256 0)).toArray]⟩,⟨1,none,47,[.agg 32 (By b).toArray]⟩],[],F,λ_=>True⟩;refine cI (e':=P (0, -4,aB 256 0,(By (aB 256 0)).toArray)) (fC rfl rfl rfl λ_ h _=>h) (cY (λs=>256-s.1) P (λs=>s.1<=256/\uc (le b) s.1 s.2.1 s.2.2.1/\s.2.2.2=(jJ s.2.2.1).toArray) ?_ (0, -4,aB 256 0,(By (aB 256 0)).toArray) ⟨bl _,uc.start _,congrArg List.toArray (ajX 256)⟩);rintro⟨i,f,d,D⟩ ⟨hi,hD,hd⟩;dsimp only at hi hD hd;subst hd;refine ag rfl (ao λK2 aM=>?_);refine bn ((i:Int)<256) rfl (λal=>?_) (λcW=>?_)
 .have iR:i<256:=by omega
  refine aR (aM _ (ao λK3 bu=>a8 (ag rfl (ao λK4 bW=>ck λK hK=>dP rfl (ca 10 ((i/8:Nat):Int) rfl (I6 i 8 (by omega)) (lp rfl BA (by show i/8<32;omega) _ (ajY (l:=b) (j:=i/8) (by omega)) (dP rfl ?_)))))));have qR:=atU (n:=b) i (by omega);have hx:=alL (c:=b[i/8]!.toNat) (i:=i%8) (ur _) (by omega);rw [qR] at hx;refine me 17 (.b (decide (le b/2^i%2=0))) rfl (by show aq.b (decide (bits .and .u8 (lP (b[i/8]!.toNat:Int) (2^min (i%8) IntKind.u8.bits)) 1=0))=_;rw [hx];exact congrArg aq.b (decide_eq_decide.2 (by omega))) (ah (hK _ ?_));have fy:IntKind.i64.wrap ((i:Int)+1)=((i+1:Nat):Int):=gv i 1 (by omega);refine bn (le b/2^i%2=0) rfl (λhz=>?_) (λhz=>?_)
  .refine cG (a6 (cF (bu _ ?_)));refine cE rfl ?_;exact cH (i+1,f,d,(jJ d).toArray) ⟨iR,hD.zero hz,rfl⟩ (by show 256-(i+1)<256-i;omega) ⟨⟨congrArg (λx=>some (aq.v (.int .i64 x))) fy,rfl,rfl,rfl,rfl,trivial⟩,c8 rfl rfl, .refl _,λ_ h _=>h,λ_ h=>h⟩
  .refine aR (bW _ ?_)
   refine ao λK5 bN=>?_;have jy:le b/2^i%2=1:=by omega
   have hf4:IntKind.i64.wrap (f+4)=f+4:=by rcases hD.last with h|⟨m,h,hm,_⟩<;>rw [i64_left,wrap64_in _ (by omega)]
   refine ck λK hK=>dP rfl (me 21 (.b (decide ((i:Int)>=f+4))) rfl (by rw [hf4]) (ah (hK _ ?_)));have go:∀(m:Nat) (hm:m<=i) (h4:i-m<4) (G9:d[m]! < 2^(i-m)) (NP:uc (le b) (i+1) m (d.set m (d[m]! + 2^(i-m)))) e,wh ((6,.aT i)::(5,.aT i)::(4,.aT m)::(1,.a 1 0)::(2,.a 2 0)::(3,.a 3 0)::[]) e->cl B K5 34 ⟨e,(P (i,f,d,(jJ d).toArray)).L,[],F,λ_=>True⟩:=λm hm h4 G9 NP e he=>by
    refine ft (e':=⟨[(6,.aT i),(5,.aT i),(4,.aT m),(1,.a 1 0),(2,.a 2 0),(3,.a 3 0)],(P (i,f,d,(jJ d).toArray)).L,[],F,λ_=>True⟩) ⟨he,c8 rfl rfl, .refl _,λ_ h _=>h,λ_ h=>h⟩ (bN _ ?_);have G8:=hD.len;refine w7 9 λG S w0 aa=>cw aa rfl (g8 aa rfl Xz (by show m<256;omega) _ (ak1 (l:=d) (j:=m) (by omega)) (AQ an aa rfl (fb 28 ((i-m:Nat):Int) rfl (rU i m hm (by omega)) (cw aa rfl ?_))));refine fb 30 ((d[m]! + 2^(i-m):Nat):Int) rfl ?_ ?_
    .show bits .or .u8 (d[m]! : Int) (IntKind.u8.wrap (1*2^min (i-m) IntKind.u8.bits))=_;rw [show min (i-m) IntKind.u8.bits=i-m from pq (by show i-m<=8;omega),aBD _ h4,orK _ _ h4 G9]
    refine Pr aa rfl Xz (by show m<256;omega) (sS aa rfl ?_);refine OY rfl [.agg 256 (jJ (d.set m (d[m]! + 2^(i-m)))).toArray] (Yi (by rw [jO,G8])) ?_ ?_ (ah ?_)
    .show 0+m<(jJ d).toArray.size;rw [Xh G8];omega
    .show jJ (d.set m _)=(jJ d).set (0+m) _;rw [dI,jJ,oW];rfl
    refine bu _ (cE rfl ?_);exact cH (i+1,m,d.set m (d[m]! + 2^(i-m)),_) ⟨iR,NP,rfl⟩ (by show 256-(i+1)<256-i;omega) ⟨⟨congrArg (λx=>some (aq.v (.int .i64 x))) fy,rfl,rfl,rfl,rfl,trivial⟩,c8 rfl rfl, .refl _,λ_ h _=>h,λ_ h=>h⟩
   refine bn ((i:Int)>=f+4) rfl (λcW=>?_) (λcW=>?_)
   .refine ef (dP rfl (ah ?_));have BS:=hD.hi i (aQ _) iR;refine go i (aQ _) (by omega) (by rw [BS];exact Nat.two_pow_pos _) (by rw [BS,si];exact hD.fresh iR jy) _ ⟨rfl,rfl,rfl,rfl,rfl,rfl,trivial⟩
   .obtain⟨m,rfl⟩:=an0 hD (by omega);obtain⟨hmi,G9,NP⟩:=hD.more iR jy (by omega);exact aR (go m (by omega) (by omega) G9 NP _ ⟨rfl,rfl,rfl,rfl,rfl,rfl,trivial⟩)
 .obtain rfl:i=256:=by omega
  have arM:nq d=le b:=by have h1:=DN b;rw [hb,show(256:Nat)^32=2^256 from by decide] at h1;rw [hD.sum,gm h1]
  refine cG (a6 (a6 (cF (aS _ (ag rfl (aJ ?_))))));exact bE ⟨d,hD.len,arM,hD.odd⟩ rfl aD λ_ _=>trivial⟩
def Nv{P:fF}(h:P.aI):ch (gY P).fA/\(gY P).cp.length=20:=⟨h.ai,by show(gY P).den.cells.toList.length=20;rw [Yf];show(av P.l).length=20;rw [nM];exact adI h.X h.Y h.Z h.T⟩
structure iI where
  M:List fF
  d:aC
  A:Ed.bz p
structure iI.aI(r:iI):Prop where
  m8:r.M.length=8
  ms:∀j P,r.M[j]?=some P->P.aI/\Gn P.l (Ed.mul bP (2*j+1) r.A)
  dl:r.d.length=256
  odd:∀j,j<256->r.d[j]! = 0\/(r.d[j]! % 2=1/\r.d[j]! < 16)
  on:Ed.c9 bP r.A
abbrev Sf(M:List fF)(d:aC):aL:=.p [.agg 160 (de gY M).toArray,.agg 256 (jJ d).toArray]
def anE{M:List fF}{d:aC}(h:jL 20 gY M)(hm:M.length=8)(hd:d.length=256):ch (Sf M d).fA:=λq hq=>by
 rcases bT.1 hq with rfl|hq
 .exact⟨by show(de gY M).toArray.size=160;rw [fx,wG h,hm],λv ab=>St h v ab⟩
 .exact Yi hd q hq
abbrev rowP(A:Ed.bz p)(b:ae):fm {r:iI // r.aI/\r.A=A/\nq r.d=le b}:={ ret:=λr=>.q (Sf r.1.M r.1.d) }
def awU:Own 168:=λ_ _=>by go_simp
def W7:List fF:=aB 8 ⟨dq,dq,dq,dq⟩
def VI{P:fF}{A:Ed.bz p}{b:ae}(h:oK P.l A)(hP:P.aI)(hb:b.length=32):cV j6 168 [gY P,aw 32 b] (rowP A b):=⟨awU,by
 refine bA [gY P,aw 32 b] 27 func168 rfl (ab:=dZ hP.ai (cq hb).1) λB=>ag rfl (ck λK hK=>cX (an3 hb) (λ_=>rfl) rfl λ⟨d,hd,hs,ho⟩=>cR hK rfl (ck λK hK=>cX (Ns h hP 1 (by decide)) (λ_=>rfl) rfl λ⟨P2,h2,Ez⟩=>cX (Xw h2 Ez) (λ_=>rfl) rfl λ⟨W,hW,hWo⟩=>cR hK rfl (ao λK1 aS=>ag rfl (a8 ?_))));have l9:=h.on;have h0:(aB 160 (bQ .u64 0)).toArray=(de gY W7).toArray:=by kernel_rfl
 have wS:(⟨dq,dq,dq,dq⟩:fF).aI:=⟨rfl,rfl,rfl,rfl⟩;let V:Nat×fF×List fF×ct->Env:=λs=>⟨[(14,.aT s.1),(2,.a 2 0),(4,.a 4 0),(5,.a 5 0),(6,.a 6 0)],[⟨6,none,276,W.ai⟩,⟨5,none,280,[.agg 160 s.2.2.2,.agg 256 (jJ d).toArray]⟩,⟨4,none,280,[.agg 160 (aB 160 (bQ .u64 0)).toArray,.agg 256 (By (aB 256 0)).toArray]⟩,⟨2,none,236,s.2.1.ai⟩],[],j6,λ_=>True⟩;refine cI (e':=V (0,P,W7,(aB 160 (bQ .u64 0)).toArray)) (fC rfl rfl rfl λ_ h _=>h) (cY (λs=>8-s.1) V (λs=>s.1<=8/\oK s.2.1.l (Ed.mul bP (2*s.1+1) A)/\s.2.1.aI/\s.2.2.1.length=8/\jL 20 gY s.2.2.1/\(∀j P,j<s.1->s.2.2.1[j]?=some P->P.aI/\Gn P.l (Ed.mul bP (2*j+1) A))/\s.2.2.2=(de gY s.2.2.1).toArray) ?_ (0,P,W7,(aB 160 (bQ .u64 0)).toArray) ⟨bl _,by rw [Nat.mul_zero,dI,Ed.Mh dn];exact h,hP,nb,λx hx=>by rw [List.eq_of_mem_replicate hx];exact Nv wS,λ_ _ h=>absurd h (by omega),h0⟩);clear h hP P;rintro⟨i,P,M,C⟩ ⟨hi,h,hP,hm,hM,hj,hC⟩;dsimp only at hi h hP hm hM hj hC;subst hC;refine ag rfl (ao λK2 aM=>?_);refine bn ((i:Int)<8) rfl (λal=>?_) (λcW=>?_)
 .have iR:i<8:=by omega
  refine aR (aM _ (ao λK3 bu=>a8 (ag rfl (ck λK hK=>cX (Xw h hP) (λ_=>rfl) rfl λ⟨Q,hQ,Al⟩=>dP rfl (b6 (.a 5 (0+20*i)) rfl (eO i rfl underlying277 (by kernel_rfl) rfl rfl iR) ?_)))));rw [dI];refine atF Q rfl rfl rfl rfl rfl hM (Nv Al) (by rw [hm];exact iR) (ah (hK _ (ef (cX (adO h hP hW hWo) (λ_=>rfl) rfl λ⟨P',h',hP'⟩=>dP rfl (ah (bu _ (cE rfl ?_)))))));refine cH (i+1,P',M.set i Q,(de gY (M.set i Q)).toArray) ⟨iR,?_,hP',by rw [jO,hm],hM.set (Nv Al),λj P jg hp=>?_,rfl⟩ (by show 8-(i+1)<8-i;omega) ⟨⟨congrArg (λx=>some (aq.v (.int .i64 x))) (gv i 1 (by omega)),rfl,rfl,rfl,rfl,trivial⟩,c8 rfl rfl, .refl _,λ_ h _=>h,λ_ h=>h⟩
  .show oK P'.l (Ed.mul bP (2*(i+1)+1) A);rw [show 2*(i+1)+1=(2*i+1)+2^1 by omega,Ed.mul_add dn l9];exact .inr h'
  .by_cases e:i=j
   .subst e;have hp:(M.set i Q)[i]?=some P:=hp;rw [List.getElem?_set_self (by rw [hm];exact iR)] at hp;cases hp;exact⟨Al,hQ⟩
   .have hp:(M.set i Q)[j]?=some P:=hp;rw [List.getElem?_set_ne e] at hp;have jg:j<i+1:=jg;exact hj j P (by omega) hp
 .obtain rfl:i=8:=by omega
  refine cG (a6 (a6 (cF (aS _ (ag rfl (aJ ?_))))));exact bE ⟨⟨M,d,A⟩,⟨hm,λj P hp=>hj j P (by rw [<-hm];exact(eY.1 hp).1) hp,hd,ho,l9⟩,rfl,hs⟩ rfl aD λ_ _=>trivial⟩
def ay6(v:Nat)(h:v<16):IntKind.u8.wrap ((v:Int).tdiv 2)=((v/2:Nat):Int):=by
 have key:∀v:Nat,v<16->IntKind.u8.wrap ((v:Int).tdiv 2)=((v/2:Nat):Int):=by decide +kernel
 exact key v h
def JE(rs:List iI)(j:Nat):aC:=(rs[j]?.map iI.d).getD []
def X5{rs:List iI}{j:Nat}{r:iI}(h:rs[j]?=some r):JE rs j=r.d:=by rw [JE,h];rfl
def acR{rs:List iI}(h:∀r∈rs,r.aI):∀A∈rs.map iI.A,Ed.c9 bP A:=λA hA=>by obtain⟨r,hr,rfl⟩:=dv.1 hA;exact(h r hr).on
def Bz(rs:List iI)(k:Nat):Ed.bz p:=Ed.mS bP (rs.map iI.A) 0 λm=>nq ((JE rs m).drop k)
def Gf(rs:List iI)(k j:Nat):Ed.bz p:=Ed.mS bP (rs.map iI.A) 0 λm=>if m<j then nq ((JE rs m).drop k) else 2*nq ((JE rs m).drop (k+1))
def akG{rs:List iI}(h:∀r∈rs,r.aI):Bz rs 256=Ed.zero:=by refine Ed.afT dn λj _ hj=>?_;rw [dL,dI] at hj;rw [X5 (da hj),List.drop_of_length_le (by rw [(h _ (AD hj)).dl];exact aQ _)];rfl
def aD9{rs:List iI}(h:∀r∈rs,r.aI)(k:Nat):Gf rs k 0=Ed.add bP (Bz rs (k+1)) (Bz rs (k+1)):=by rw [Bz,<-Ed.ahI dn (acR h)];exact Ed.Pl λj _ _=>if_neg (by omega)
def aD7{rs:List iI}(k:Nat):Gf rs k rs.length=Bz rs k :=
 Ed.Pl λj _ hj=>if_pos (by simpa using hj)
def ahB{rs:List iI}(h:∀r∈rs,r.aI){k j:Nat}{r:iI}(hj:rs[j]?=some r)(hk:k<256):Gf rs k (j+1)=Ed.add bP (Gf rs k j) (Ed.mul bP r.d[k]! r.A):=by
 refine Ed.afU dn (acR h) 0 j r.d[k]! _ _ r.A (by rw [lC,hj];rfl) ?_ λm hm=>?_
 .simp only [dI];rw [if_pos (by omega),if_neg (by omega),X5 hj,aDJ (by rw [(h r (eg hj)).dl];exact hk),Nat.add_comm]
 .simp only [dI] at hm
  by_cases e:m<j
  .rw [if_pos (by omega),if_pos e]
  .rw [if_neg (by omega),if_neg e]
def aD8{rs:List iI}(h:∀r∈rs,r.aI){k j:Nat}{r:iI}(hj:rs[j]?=some r)(hk:k<256)(h0:r.d[k]! = 0):Gf rs k (j+1)=Gf rs k j:=by rw [ahB h hj hk,h0,Ed.Cx,Ed.add_zero dn]
def aBJ{l:aC}(h:l.length=20):(prog.info? 276).map (·.size)=some (av l).toArray.size:=aBK (IY h)
abbrev xw(r:iI):aL:=Sf r.M r.d
def iI.aI.okF{r:iI}(h:r.aI):jL 20 gY r.M:=λP hP=>by obtain⟨j,hj,rfl⟩:=List.getElem_of_mem hP;exact Nv (h.ms j _ (da hj)).1
def iI.aI.row{r:iI}(h:r.aI):ch (xw r).fA:=anE h.okF h.m8 h.dl
def iI.cp{r:iI}:(xw r).cp=de gY r.M++jJ r.d:=by show(a7 [.agg 160 (de gY r.M).toArray,.agg 256 (jJ r.d).toArray]).toList=_;rw [lE];simp [bz.cells,a7]
def iI.aI.flat{r:iI}(h:r.aI):(de gY r.M).length=160:=by rw [wG h.okF,h.m8]
section
variable{rs:List iI}{gs go c:Nat}{w:yp}{j:Nat}{r:iI}
def azH(h:ar 416 xw (some ⟨gs,go,none⟩) c rs w)(hj:rs[j]?=some r)(hr:r.aI){m:Nat}(hm:m<256):w.cell? ⟨gs,go+416*j+160+1*m,none⟩=some (.int .u8 (r.d[m]! : Nat)):=by obtain⟨b,o,e,_,h1⟩:=h.2.2.2.2 (by have:=(eY.1 hj).1;omega);cases e;have h2:=h1 j r hj (160+m) (.int .u8 (r.d[m]! : Nat)) (by rw [iI.cp,List.getElem?_append_right (by rw [hr.flat];omega),hr.flat,xD];have:=Xf (l:=r.d) (j:=m) (by rw [hr.dl];exact hm);simpa using this);rw [show go+416*j+160+1*m=go+416*j+(160+m) by omega];exact h2
def azI(h:ar 416 xw (some ⟨gs,go,none⟩) c rs w)(hj:rs[j]?=some r)(hr:r.aI){i:Nat}{P:fF}(hi:r.M[i]?=some P):w.rangeAt gs (go+416*j+0+20*i) (a7 P.ai).toList:=by obtain⟨b,o,e,_,h1⟩:=h.2.2.2.2 (by have:=(eY.1 hj).1;omega);cases e;obtain⟨A,Z,h2,h3,_⟩:=C5 hr.okF hi;have h4:=L7 (A:=A) (B:=(gY P).cp) (Z:=Z++jJ r.d) (h1 j r hj) (by rw [iI.cp,h2,ei,ei]);rw [h3] at h4;rw [Nat.add_zero];exact h4
end
def U8:Own 167:=λ_ _=>by go_simp
def ahA{rs:List iI}{A:aO}{c0:Nat}(bx:∀r∈rs,r.aI)(hlen:rs.length<4294967296):cV (λw=>j6 w/\ar 416 xw A c0 rs w) 167 [.c (.v (.slice A rs.length c0))] (zz (oK · (Bz rs 0))):=⟨U8,by
 refine bA [.c (.v (.slice A rs.length c0))] 45 func167 rfl λB=>ag rfl (ag rfl (ag rfl (ao λK1 aS=>ag rfl (a8 ?_))));have wS:(⟨dq,dq,dq,dq⟩:fF).aI:=⟨rfl,rfl,rfl,rfl⟩;let L:fF->aH:=λP=>[⟨3,none,236,P.ai⟩,⟨2,none,236,(⟨dq,dq,dq,dq⟩:fF).ai⟩];let V:Nat×Nat×fF->Env:=λs=>⟨[(8,.aT s.1),(4,.aT s.2.1),(0,.v (.slice A rs.length c0)),(2,.a 2 0),(3,.a 3 0)],L s.2.2,[],λw=>j6 w/\ar 416 xw A c0 rs w,λ_=>True⟩;refine cI (e':=V (0,0,⟨dq,dq,dq,dq⟩)) (fC rfl rfl rfl λ_ h _=>h) (cY (λs=>256-s.1) V (λs=>s.1<=256/\s.2.1<=s.1/\s.2.2.aI/\∃P,oK s.2.2.l P/\Ed.mul bP (2^s.2.1) P=Bz rs (256-s.1)) ?_ (0,0,⟨dq,dq,dq,dq⟩) ⟨bl _,aQ _,wS,Ed.zero,.inl ⟨rfl,rfl⟩,by rw [xW,Ed.mul_zero dn];exact(akG bx).symm⟩);rintro⟨i,c,W⟩ ⟨hi,hc,hW,P,hP,hs⟩;dsimp only at hi hc hW hP hs;refine ag rfl (ao λK2 aM=>?_);refine bn ((i:Int)<256) rfl (λal=>?_) (λcW=>?_)
 .refine aR (aM _ ?_)
  refine ao λK3 bu=>a8 (ag rfl (ag rfl (ag rfl (a8 ?_))));obtain⟨k,hk⟩:∃k,256-i=k+1:=⟨255-i,by omega⟩;have iD:255-(i:Int)=(k:Int):=by omega
  let V2:Nat×Nat×fF->Env:=λs=>⟨[(15,.aT s.1),(14,.aT rs.length),(5,.aT i),(8,.aT i),(4,.aT s.2.1),(0,.v (.slice A rs.length c0)),(2,.a 2 0),(3,.a 3 0)],L s.2.2,[],λw=>j6 w/\ar 416 xw A c0 rs w,λ_=>True⟩;refine cI (e':=V2 (0,c+1,W)) ⟨⟨rfl,rfl,rfl,rfl,congrArg (λx=>some (aq.v (.int .i64 x))) (gv c 1 (by omega)),rfl,rfl,rfl,trivial⟩,c8 rfl rfl, .refl _,λ_ h _=>h,λ_ h=>h⟩ (cY (λs=>rs.length-s.1) V2 (λs=>s.1<=rs.length/\s.2.1<=i+1/\s.2.2.aI/\∃P,oK s.2.2.l P/\Ed.mul bP (2^s.2.1) P=Gf rs k s.1) ?_ (0,c+1,W) ⟨bl _,by show c+1<=i+1;omega,hW,P,hP,by rw [Yb hP.on,hs,hk,<-aD9 bx]⟩);clear hs hP hW hc P;rintro⟨j,c2,kV⟩ ⟨hj,hc,hW,P,hP,hs⟩;dsimp only at hj hc hW hP hs;refine ag rfl (ao λK5 bN=>?_);refine bn ((j:Int)<(rs.length:Int)) rfl (λal=>?_) (λcW=>?_)
  .have Ao:j<rs.length:=by omega
   refine aR (bN _ (ao λK6 cr=>a8 (ag rfl ?_)));have hr:rs[j]?=some rs[j]:=da Ao;have KL:=bx _ (AD Ao);have aIH:=KL.odd k (by omega);have TL:=ahB bx hr (k:=k) (by omega);have arD:=aD8 bx hr (k:=k) (by omega);generalize rs[j]=r at *;refine lQ (∃b o,A=some ⟨b,o,none⟩) (λw h _=>by obtain⟨b,o,e,_⟩:=h.2.2.2.2.2 (by omega);exact⟨b,o,e⟩) λ⟨gs,go,hA⟩=>?_;subst hA;have fy:IntKind.i64.wrap ((j:Int)+1)=((j+1:Nat):Int):=gv j 1 (by omega);refine ck λK hK=>aj rfl (ca 21 (k:Int) rfl (by rw [iD,i64_left,wrap64_in _ (by omega)]) (b6 (.v (.pointer (some ⟨gs,go+416*j,none⟩))) rfl (lO j rfl underlying312 (by kernel_rfl) rfl rfl Ao) (aj rfl (b6 (.v (.pointer (some ⟨gs,go+416*j+160+1*k,none⟩))) rfl (Md k rfl underlying278 (by kernel_rfl) rfl rfl (by omega)) (jq (.v (.int .u8 (r.d[k]! : Nat))) rfl (afI rfl rfl nu rfl λG S w hw=>azH hw.fact.2 hr KL (by omega)) (cR hK rfl (ag rfl ?_)))))));generalize ab:r.d[k]! = v at *;refine bn ((v:Int)>0) rfl (λnn=>?_) (λnn=>?_)
   .have wQ:v%2=1/\v<16:=by omega
    have hm8:=KL.m8;obtain⟨Q,hQ⟩:∃Q,r.M[v/2]?=some Q:=⟨_,da (by omega)⟩;obtain⟨Al,Zc⟩:=KL.ms _ _ hQ;rw [show 2*(v/2)+1=v from by omega] at Zc;refine eU 12 [] λK hK G S w0 aa=>bR aa ((Ns hP hW c2 (by omega)).imp λ_ h=>h.1) rfl λ⟨P',hP',hPo'⟩=>AQ an aa rfl (fb 34 ((v/2:Nat):Int) rfl (ay6 v wQ.2) (vH aa (.v (.pointer (some ⟨gs,go+416*j,none⟩))) rfl (lO j rfl underlying312 (by kernel_rfl) rfl rfl Ao) (AQ an aa rfl (vH aa (.v (.pointer (some ⟨gs,go+416*j+0+20*(v/2),none⟩))) rfl (Md (v/2) rfl underlying277 (by kernel_rfl) rfl rfl (by omega)) (AR aa (.q (gY Q)) (ab:=Al.ai) rfl (afJ rfl rfl underlying276 rfl (by rw [R5];exact aBJ (adI Al.X Al.Y Al.Z Al.T)) rfl λG S w hw=>azI hw.fact.2 hr KL hQ) (bR aa ((adO hP' hPo' Zc Al).imp λ_ h=>h.1) rfl λ⟨P3,NR,apO⟩=>fz aa rfl hK rfl (cE rfl (cr _ (cE rfl ?_)))))))));rw [hs,<-TL] at NR;exact cH (j+1,0,P3) ⟨Ao,bl _,apO,_,.inr NR,by rw [xW,Ed.Mh dn]⟩ (by show rs.length-(j+1)<rs.length-j;omega) ⟨⟨congrArg (λx=>some (aq.v (.int .i64 x))) fy,rfl,rfl,rfl,rfl,rfl,rfl,rfl,trivial⟩,c8 rfl rfl, .refl _,λ_ h _=>h,λ_ h=>h⟩
   .refine aR (cr _ ?_);refine cE rfl ?_;exact cH (j+1,c2,kV) ⟨Ao,hc,hW,P,hP,hs.trans (arD (by omega)).symm⟩ (by show rs.length-(j+1)<rs.length-j;omega) ⟨⟨congrArg (λx=>some (aq.v (.int .i64 x))) fy,rfl,rfl,rfl,rfl,rfl,rfl,rfl,trivial⟩,c8 rfl rfl, .refl _,λ_ h _=>h,λ_ h=>h⟩
  .obtain rfl:j=rs.length:=by omega
   rw [aD7] at hs;refine cG (a6 (a6 (cF (bu _ (cE rfl ?_)))));exact cH (i+1,c2,kV) ⟨by show i+1<=256;omega,hc,hW,P,hP,by rw [hs];congr 1;show k=256-(i+1);omega⟩ (by show 256-(i+1)<256-i;omega) ⟨⟨congrArg (λx=>some (aq.v (.int .i64 x))) (gv i 1 (by omega)),rfl,rfl,rfl,rfl,trivial⟩,c8 rfl rfl, .refl _,λ_ h _=>h,λ_ h=>h⟩
 .obtain rfl:i=256:=by omega
  refine cG (a6 (a6 (cF (aS _ (ck λK hK=>cX ((Ns hP hW c (by omega)).imp λ_ h=>h.1) (λ_=>rfl) rfl λ⟨P',hP',J3⟩=>cR hK rfl (aJ ?_))))));rw [hs] at hP';exact x7 P' ⟨hP',J3⟩ rfl (by decide) rfl⟩
def akE(r:iI):Bz [r] 0=Ed.mul bP (nq r.d) r.A:=by show Ed.add bP (Ed.mul bP (nq (r.d.drop 0)) r.A) Ed.zero=_;rw [Ed.add_zero dn,Dv]
def akF(r s:iI):Bz [r,s] 0=Ed.add bP (Ed.mul bP (nq r.d) r.A) (Ed.mul bP (nq s.d) s.A):=by show Ed.add bP (Ed.mul bP (nq (r.d.drop 0)) r.A) (Ed.add bP (Ed.mul bP (nq (s.d.drop 0)) s.A) Ed.zero)=_;rw [Ed.add_zero dn,Dv,Dv]
def acQ{rs:List iI}(h:∀r∈rs,r.aI):jL 416 xw rs:=λr hr=>⟨(h r hr).row,by rw [iI.cp,aV,(h r hr).flat,Xg,(h r hr).dl]⟩
def avZ:Own 128:=λ_ _=>by go_simp
def avW:Own 133:=λ_ _=>by go_simp
def axX{P:fF}{A:Ed.bz p}{b:ae}(h:oK P.l A)(hP:P.aI)(hb:b.length=32):cV j6 128 [gY P,aw 32 b] (zz (oK · (Ed.mul bP (le b) A))):=⟨avZ,by
 refine bA [gY P,aw 32 b] 10 func128 rfl (ab:=dZ hP.ai (cq hb).1) λB=>ag rfl (ck λK hK=>cX (VI h hP hb) (λ_=>rfl) rfl λ⟨r,hr,hA,hs⟩=>?_);have bx:∀x∈[r],x.aI:=λx hx=>by rw [bU.1 hx];exact hr
 refine jC (fe:=xw) an B.B.heap.size [r] rfl rfl rfl (λ_=>rfl) rfl (h0:=cL rfl) (h24:=cL rfl) (acQ bx) (aQ _) λA'=>asZ 0 rfl (aQ _) (er (own:=[]) (F':=λw=>j6 w/\ar 416 xw A' 1 [r] w) [.slice A' [r].length 1] (hf:=U8) rfl (ahA bx (cL rfl)).spec (λw h1 h2=>⟨h1,h2.1⟩) λ⟨P',hP',J3⟩=>cR hK rfl (aJ ?_));rw [akE,hA,hs] at hP';exact x7 P' ⟨hP',J3⟩ rfl (by decide) rfl⟩
def alU{P:fF}{A:Ed.bz p}{n m:ae}(hn:n.length=32)(h:oK P.l A)(hP:P.aI)(hm:m.length=32):cV j6 133 [aw 32 n,gY P,aw 32 m] (zz (oK · (Ed.add bP (Ed.mul bP (le n) base) (Ed.mul bP (le m) A)))):=⟨avW,by
 refine bA [aw 32 n,gY P,aw 32 m] 15 func133 rfl (ab:=λu hu=>by
  rcases bT.1 hu with rfl|hu
  .exact(cq hn).1
  .exact dZ (v:=gY P) (v2:=aw 32 m) hP.ai (cq hm).1 u hu) λB=>?_
 refine ag rfl ?_;refine nw 8 (hm:=rfl) λK hK G S w0 aa=>?_;refine SM aa XI rfl (λ_ _ hw _=>hw.fact) λ⟨P1,h1,hP1⟩=>SM aa (VI (.inr h1) hP1 hn) rfl (λ_ _ hw _=>hw.fact) λ⟨r,hr,hA,hs⟩=>SM aa (VI h hP hm) rfl (λ_ _ hw _=>hw.fact) λ⟨s,dU,vn,uH⟩=>?_;have bx:∀x∈[r,s],x.aI:=λx hx=>by
  rcases bT.1 hx with rfl|hx
  .exact hr
  .rw [bU.1 hx];exact dU
 refine Zm xw an [r,s] (acQ bx) rfl rfl rfl rfl (λ_=>rfl) rfl (cL rfl) (cL rfl) λg=>wL (F':=λw=>j6 w/\ar 416 xw (some ⟨g,0,none⟩) 2 [r,s] w) aa [cj g 2 2] rfl rfl (how:=U8) rfl rfl (λ_=>rfl) (ahA bx (cL rfl)).spec (λw hw hu=>⟨hw.fact,hu 6 _ rfl (by kernel_rfl)⟩) λ⟨P',hP',J3⟩ _=>jR aa (cR hK rfl (aJ ?_));rw [akF,hA,hs,vn,uH] at hP';exact x7 P' ⟨hP',J3⟩ rfl (by decide) rfl⟩
section
variable{b:bO}{ops:aZ}{Q:bK}{N:Nat}{G:aK}{S:cn}{E E':aG}{L L':aH}{R:bF}{F M:aE}{w0:yp}{Z:Act->Prop}{l l' rest:aN}{k:Nat}{f:FuncId}{svs:nH}{r:cM}{o:Oper}{y:Code}
def l_P(hf:Own f)(hr:r.eJ.aI)(h:Pw ops N l E L=some (l',E',L',k,f,svs))(hs:∀G S w,View G S L' R F M w->Calls prog f (svs.map (aq.den G)).toArray w λe w'=>e = .returned r.den/\Below w.heap.size w w')(hn:a9 prog b ops Q N l' ⟨(k,r.eJ)::E',L',R,F,M⟩):a9 prog b ops Q N l ⟨E,L,R,F,M⟩:=by
 unfold Pw at h;split at h
 .rename_i o l2 E2 L2 h2
  split at h
  .rename_i k2 f2 v2 h3;simp only [Option.some.injEq,Prod.mk.injEq] at h;obtain⟨rfl,rfl,rfl,rfl,rfl,rfl⟩:=h;obtain⟨hg,hd,hk,xs,ats,ho,hx⟩:=Jz h3;refine dP h2 λa w ⟨G,S,h1,h4,h5⟩=>?_;have hr':=JA (w:=w) hf ho hx h1;unfold wpList;rw [if_pos (by simp [aU,hg])];refine .inl ?_;unfold fW;rw [hr'];simp only [Oper.upon,hd];refine(hs G S w h5.view).mono ?_;rintro e w' ⟨rfl,hb⟩;have h6:=h1.put hk r.den;rw [<-cM.ql _ G] at h6;have h7:=hn _ w' ⟨G,S,h6,h4.cons hr,h5.later hb⟩;rw [cM.ql] at h7;exact h7
  .cases h
 .cases h
def n_P(aa:bj b G S L R F M w0)(hf:Own f)(hr:r.eJ.aI)(h:Px ops N L l E=some (l',E',k,f,svs))(hs:∀w,View G S L R F M w->Calls prog f (svs.map (aq.den G)).toArray w λe w'=>e = .returned r.den/\Below w.heap.size w w')(hn:gB prog ops N w0 Z G l' ((k,r.eJ)::E')):gB prog ops N w0 Z G l E:=by
 unfold Px at h;split at h
 .rename_i o l2 E2 h2
  split at h
  .rename_i k2 f2 v2 h3;simp only [Option.some.injEq,Prod.mk.injEq] at h;obtain⟨rfl,rfl,rfl,rfl,rfl⟩:=h;obtain⟨hg,hd,hk,xs,ats,ho,hx⟩:=Jz h3;refine cw aa h2 λhE=>GR (v2.map (aq.den G)).toArray r.den hg hd hk hf (λw hw=>hs w (aa.later hw).view) ho (vh hx) ?_;have h:=hn (hE.cons hr);rw [bG,cM.ql] at h;exact h
  .cases h
 .cases h
end
instance:dc eI:=⟨λ_ _ h hb=>h.below hb⟩
instance aIT{P:aO}{ls:aX}:dc (λw=>lX w P ls):=⟨λ_ _ h hb=>h.later hb⟩
def ax1:Own 95:=λ_ _=>by go_simp
def avV:Own 96:=λ_ _=>by go_simp
def U5:Own 121:=λ_ _=>by go_simp
def ad3:Own 53:=λ_ _=>by go_simp
def CW{d:ae}(h:d.length=32):(eM kT 0 d).length=64:=by rw [Nm (by rw [h];decide)];rfl
def J9(l:ae):a7 [.agg 32 (By (l.take 32)).toArray,.agg 32 (By (l.drop 32)).toArray]=a7 [.agg 64 (By l).toArray]:=by apply Mz;simp [a7,bz.cells,By,List.map_take,List.map_drop]
def aDG{x y:bz}(h:ch [x])(h2:ch [y]):ch [x,y]:=λq hq=>by
 rcases bT.1 hq with rfl|hq
 .exact h _ eh
 .exact h2 q hq
def Zp{l:ae}(h:l.length=64):ch [.agg 32 (By (l.take 32)).toArray,.agg 32 (By (l.drop 32)).toArray]:=aDG (cq (by rw [du,h];rfl)).1 (cq (by rw [k7,h])).1
def V9{x y:mn}{L:aH}:∀z∈[x,y],z∈x::y::L:=λz hz=>by
 rcases bT.1 hz with rfl|hz
 .exact .head _
 .rw [bU.1 hz];exact .tail _ (.head _)
def inv2{b:bO}{N:Nat}{E:aG}{x y:mn}{L:aH}{R:bF}{F M:aE}(hx:x.g.isSome=true)(hy:y.g.isSome=true):∀a w,iz b N ⟨E,x::y::L,R,F,M⟩ a w->iV [x,y] w:=iE λz hz=>⟨V9 z hz,by
 rcases bT.1 hz with rfl|hz
 .exact hx
 .rw [bU.1 hz];exact hy⟩
def agO{seed:ae}(hs:seed.length=32):cV fV 95 [aw 32 seed] (one (.t [kr (le (o9 seed)%cd),aw 32 (FV seed)])):=⟨ax1,by
 have hD:=Qa seed;have hd:((xa seed).take 32).length=32:=by rw [du,hD];rfl
 refine bA [aw 32 seed] 26 func95 rfl (ab:=iG (cq hs).1) λB=>ag rfl (ck λK hK=>dP rfl ?_);refine FC an [.s 1 0 32 32] [seed] (xa seed) rfl rfl rfl rfl rfl rfl rfl rfl rfl U6 (λ_=>rfl) rfl (by decide) (by decide) hD (λA w hp hF _=>by
  have h:=ah1 A [seed] 1 w hF hp (cL rfl) (cL rfl)
  rwa [List.flatten_cons,List.flatten_nil,fj] at h) (λG S w ab=>⟨sW rfl hs (by decide) G S w ab,trivial⟩) λA=>cR hK rfl ?_
 refine ag rfl (eU 2 [] λK hK G S w0 aa=>sS aa rfl ?_);obtain⟨D,eD⟩:∃D,D=(xa seed).take 32:=⟨_,rfl⟩;rw [<-eD] at hd;refine OT (z:=kT) (ai:=[.agg 64 (By (xa seed)).toArray]) D rfl rfl rfl rfl rfl rfl ?_ rfl hd (vF hd) (by rw [hd];exact cL rfl) (kz rfl (hK _ ?_))
 .rw [hd,eD];exact QI 0 32
 have x0:=(D[0]!).toNat_lt;refine ck λK hK=>lp rfl BB (cL rfl) _ (ub (l:=eM kT 0 D) (j:=0) (by rw [CW hd];exact cL rfl)) (dP rfl ?_);refine zo rfl BB (cL rfl) [.agg 64 (By (eM kT 0 (sI D))).toArray] (cq (CW (by rw [PJ,hd]))).1 ?_ ?_ (cR hK rfl ?_)
 .show _<(By (eM kT 0 D)).toArray.size;rw [fx,dH,CW hd];exact cL rfl
 .show By (eM kT 0 (sI D))=(By (eM kT 0 D)).set 0 (.int .u8 (bits .and .u8 ((eM kT 0 D)[0]!.toNat:Int) 248));rw [XY hd (by decide),akP _ x0,sI,<-X0 hd (by decide),By,By,oW,ofNat_toNat (by omega)]
 have hl:(sI D).length=32:=by rw [PJ,hd]
 have x1:=((sI D)[31]!).toNat_lt;refine ck λK hK=>lp rfl BB (cL rfl) _ (ub (l:=eM kT 0 (sI D)) (j:=31) (by rw [CW hl];exact cL rfl)) (dP rfl ?_);refine zo rfl BB (cL rfl) [.agg 64 (By (eM kT 0 (Ba (sI D)))).toArray] (cq (CW (by rw [afV,hl]))).1 ?_ ?_ (cR hK rfl ?_)
 .show _<(By (eM kT 0 (sI D))).toArray.size;rw [fx,dH,CW hl];exact cL rfl
 .show By (eM kT 0 (Ba (sI D)))=(By (eM kT 0 (sI D))).set 31 (.int .u8 (bits .or .u8 (bits .and .u8 ((eM kT 0 (sI D))[31]!.toNat:Int) 127) 64));rw [XY hl (by decide),abL _ x1,avM _ x1,Ba,<-X0 hl (by decide),By,By,oW,ofNat_toNat (by omega)]
 have eL5:(some ⟨5,none,66,[.agg 64 (By (eM kT 0 (Ba (sI D)))).toArray]⟩:Option mn)=some ⟨5,none,66,[.agg 64 (By (eM kT 0 (o9 seed))).toArray]⟩:=by rw [eD];rfl
 refine cI (e':=⟨[(5,.a 5 0),(4,.a 4 0),(3,.a 3 0),(2,.a 2 0)],[⟨5,none,66,[.agg 64 (By (eM kT 0 (o9 seed))).toArray]⟩,⟨4,none,66,[.agg 64 (By (xa seed)).toArray]⟩,⟨3,none,47,[.agg 32 (By (aB 32 0)).toArray]⟩,⟨2,none,176,[.agg 4 (av [0,0,0,0]).toArray]⟩],[],fV,λ_=>True⟩) ⟨dB rfl, ⟨eL5,rfl,rfl,rfl,rfl,rfl,rfl,rfl,trivial⟩,.refl _,λ_ h _=>h,λ_ h=>h⟩ ?_;refine F9 4 [.agg 32 (By ((xa seed).take 32)).toArray,.agg 32 (By (FV seed)).toArray] rfl (J9 (xa seed)) (Zp hD) ?_;refine rS λG=>?_;refine ao λK hK=>?_;refine lv [0,2,3,4] 6 1 (iV [⟨5,some (G 5),66,[.agg 64 (By (eM kT 0 (o9 seed))).toArray]⟩,⟨4,some (G 4),66,[.agg 32 (By ((xa seed).take 32)).toArray,.agg 32 (By (FV seed)).toArray]⟩]) rfl (inv2 rfl rfl) ?_;refine j3 0 rfl V9 (kp (.s 4 32 32 32) 2 rfl rfl rfl (Io rfl).2 (kp (.a 4 32) 3 rfl rfl rfl (Io rfl).2 (j3 4 rfl V9 ?_)));refine eN 1 rfl λK2 aM=>cX (WN (CW (afW seed))) (λ_=>rfl) rfl λ_=>kz rfl (aM _ (inv2 rfl rfl) ?_);refine eN 5 rfl λK2 aM=>kz rfl (aM _ (inv2 rfl rfl) ?_);refine kQ [6] rfl (kz rfl (hK _ (aJ ?_)));have e:le (eM kT 0 (o9 seed))=le (o9 seed):=(XZ (afW seed)).2;rw [e];exact bE () rfl aD λ_ _=>trivial⟩
def RQ{n:Nat}(hn:n<cd):cV j6 96 [kr n] (one (.q (aw 32 (hB (Ed.mul bP n base))))):=⟨avV,by refine bA [kr n] 8 func96 rfl (ab:=iG (Ad n)) λB=>?_;refine ag rfl ?_;refine eU 5 [] λK hK G S w0 aa=>?_;refine bR aa XI rfl λ⟨P,h,hP⟩=>bR aa Mj rfl λ_=>bR aa (axX (.inr h) hP (ld 32 n)) rfl λ⟨P,h,hP⟩=>?_;rw [Pm hn] at h;refine bR aa (adK h hP) rfl λ_=>fz aa rfl hK rfl (aJ ?_);exact bE () rfl aD λ_ _=>trivial⟩
def axZ{seed:ae}(hs:seed.length=32):cV eI 53 [aw 32 seed] (one (.q (aw 32 (o8 seed)))):=⟨ad3,by refine bA [aw 32 seed] 12 func53 rfl (ab:=iG (cq hs).1) λB=>?_;refine ag rfl (ck λK hK=>cX ((agO hs).imp λ_ h=>h.sh) (λ_=>rfl) rfl λ_=>cR hK rfl (ck λK hK=>cX ((RQ (Fl (le (o9 seed)))).imp λ_ h=>h.tw) (λ_=>rfl) rfl λ_=>cR hK rfl (aJ ?_)));rw [ac2];exact bE () rfl aD λ_ _=>trivial⟩
def ad5:Own 93:=λ_ _=>by go_simp
def ad6:Own 97:=λ_ _=>by go_simp
def Mi{L:aH}{R:bF}{F M:aE}{j n off m c:Nat}{l z:ae}{G:aK}{S:cn}{w:yp}(ab:View G S L R F M w)(hj:mJ L j=some [.agg n (By z).toArray])(hz:(z.drop off).take m=l)(hl:l.length=m)(hc:m<=c)(hm:c<=9223372036854775807):ja w ((aq.s j off m c).den G) l:=by obtain⟨u,hu,rfl,hps⟩:=tR hj;have hb:=(ab.var u hu).1;rw [hps] at hb;exact ja.arr hb hz hl hc hm
def aAW{w:yp}:ja w (.slice none 0 0) []:=⟨none,0,rfl,aQ _,bl _,λ_=>rfl,λh=>absurd h (Nat.lt_irrefl 0)⟩
def UQ{v1 v2:Value}{l1 l2:ae}{P:aO}{ls:aX}{cx n:Nat}{w:yp}(hn:le (gQ eQ (l1++(l2++ls.flatten)))%cd=n)(hT:eI w)(hP:lX w P ls)(h0:P=none->cx=0)(y6:ls.length<=1000000)(h1:ja w v1 l1)(h2:ja w v2 l2) :
  Calls prog 121 #[v1,v2,.slice P ls.length cx] w λe w'=>e = .returned (cM.q (kr n)).den/\Below w.heap.size w w':=by
 have h:=av6 w hT.sh h1 h2 hP h0 y6;rw [hn] at h;exact h
def al8(seed:ae):cV j6 96 [kr (le (o9 seed)%cd)] (one (.q (aw 32 (o8 seed)))):=by have h:=RQ (Fl (le (o9 seed)));rw [ac2] at h;exact h
def apY{F:aE}(seed m:ae):cV F 124 [kr ((Gb seed m+Bh (wX seed m) (o8 seed) m*(le (o9 seed)%cd)%cd)%cd)] (one (.q (aw 32 (Nums.bytes 32 (yq seed m))))):=by rw [aBA];exact Mj
def aBH{seed:ae}{P:aO}{ls:aX}{cx:Nat}(hs:seed.length=32)(h0:P=none->cx=0)(y6:ls.length<=1000000):cV (λw=>eI w/\lX w P ls) 93 [aw 32 seed,.c (.v (.slice P ls.length cx))] (one (.q (aw 64 (uJ seed ls.flatten)))):=⟨ad5,by have hp:=aDK seed;have hR:=Fv seed ls.flatten;have hk:=Vc seed;refine bA [aw 32 seed,.c (.v (.slice P ls.length cx))] 42 func93 rfl (ab:=dZ (cq hs).1 trivial) λB=>?_;refine ag rfl (ck λK hK=>cX ((agO hs).imp λ_ h=>h.1.sh) (λ_=>rfl) rfl λ_=>cR hK rfl (ck λK hK=>l_P (r:=.q (kr (Gb seed ls.flatten))) U5 (Ad _) rfl (λG S w ab=>UQ aB9 ab.fact.1 ab.fact.2 h0 y6 (Mi ab rfl (CT hp) hp (aQ _) (cL rfl)) aAW) (cR hK rfl ?_)));refine eU 4 [(8,47),(9,47)] λK hK G S w0 aa=>bR aa ((RQ (agE _ _)).imp λ_ h=>h.1.tw) rfl λ_=>bR aa ((al8 seed).imp λ_ h=>h.1.tw) rfl λ_=>fz aa rfl hK rfl ?_;refine eU 4 [(10,176)] λK hK G S w0 aa=>n_P aa (r:=.q (kr (Bh (wX seed ls.flatten) (o8 seed) ls.flatten))) U5 (Ad _) rfl (λw ab=>UQ agB ab.fact.1 ab.fact.2 h0 y6 (Mi ab rfl (CT hR) hR (aQ _) (cL rfl)) (Mi ab rfl (CT hk) hk (aQ _) (cL rfl))) (fz aa rfl hK rfl ?_);refine eU 6 [(11,47)] λK hK G S w0 aa=>bR aa (aB0 (agC _ _ _) (Fl (le (o9 seed)))) rfl λ_=>bR aa (aAX (agE _ _) (Fl _)) rfl λ_=>bR aa (apY seed ls.flatten) rfl λ_=>fz aa rfl hK rfl ?_;refine ag rfl ?_;refine eU 2 [] λK hK G S w0 aa=>sS aa rfl ?_;refine OT (z:=kT) (ai:=[.agg 32 (By (wX seed ls.flatten)).toArray]) (wX seed ls.flatten) rfl rfl rfl rfl rfl rfl ((QI 0 _).trans (congrArg By (CT rfl))) rfl hR (vF hR) (by rw [hR];exact cL rfl) (kz rfl (hK _ ?_));refine eU 2 [] λK hK G S w0 aa=>sS aa rfl ?_;refine OT (z:=eM kT 0 (wX seed ls.flatten)) (ai:=[.agg 32 (By (Nums.bytes 32 (yq seed ls.flatten))).toArray]) (Nums.bytes 32 (yq seed ls.flatten)) rfl rfl rfl rfl rfl rfl ((QI 0 _).trans (congrArg By (CT rfl))) (CW hR) (ld _ _) (vF (ld _ _)) (by rw [ld];exact cL rfl) (kz rfl (hK _ ?_));rw [aBF];refine ag rfl (aJ ?_);exact bE () rfl aD λ_ _=>trivial⟩
section
variable{F:aE}{b:ae}[dc F]
def aB2(hb:b.length=32)(h:le b<cd):cV F 132 [aw 32 b] (one (.t [kr (le b),.c (.v (.bool true))])):=by
 have h2:=ag2 (F:=F) hb
 rwa [if_pos h,decide_eq_true h] at h2
def aB1(hb:b.length=32)(h:¬le b<cd):cV F 132 [aw 32 b] (one (.t [kr 0,.c (.v (.bool false))])):=by
 have h2:=ag2 (F:=F) hb
 rwa [if_neg h,decide_eq_false h] at h2
end
def aEK{key sig:ae}{P:aO}{ls:aX}{cx:Nat}(hk:key.length=32)(hs:sig.length=64)(h0:P=none->cx=0)(y6:ls.length<=1000000):cV (λw=>eI w/\lX w P ls) 97 [aw 32 key,aw 64 sig,.c (.v (.slice P ls.length cx))] (one (.q (.c (.b (w6 key sig ls.flatten))))):=⟨ad6,by
 have hR:(sig.take 32).length=32:=by rw [du,hs];rfl
 have bm:(sig.drop 32).length=32:=by rw [k7,hs]
 refine bA [aw 32 key,aw 64 sig,.c (.v (.slice P ls.length cx))] 50 func97 rfl (ab:=λu hu=>by
  rcases bT.1 hu with rfl|hu
  .exact(cq hk).1
  .exact dZ (v:=aw 64 sig) (v2:=.c (.v (.slice P ls.length cx))) (cq hs).1 trivial u hu) λB=>?_
 have o7:w6 key sig ls.flatten=false->∀e,gj e ⟨[(6,.v (.bool false))],[],[],λ_=>True,λ_=>True⟩->cl B (bodyPost prog Tryz.f97 (tk B (one (.q (.c (.b (w6 key sig ls.flatten)))))) .ret) 50 e:=λh e he=>ft he (x8 an () rfl rfl (by rw [h];rfl) trivial rfl aD λ_ _=>trivial);refine ag rfl (F9 4 [.agg 32 (By (sig.take 32)).toArray,.agg 32 (By (sig.drop 32)).toArray] rfl (J9 sig) (Zp hs) (ck λK hK=>cX ((amX hk).imp λ_ h=>h.1.tw) (λ_=>rfl) rfl λ⟨P',e,ok⟩=>cR hK rfl (ao λK0 jf=>?_)));rcases ok with⟨A,hq,hP',rfl,rfl⟩|⟨hn,rfl,rfl⟩
 .refine ck λK hK=>dP rfl (pd 20 false rfl rfl ?_)
  refine aj rfl (cX ((aBP (.inr hq) hP').imp λ_ h=>h.1.tw) (λ_=>rfl) rfl λ_=>cR hK rfl ?_);refine bn (hB (Ed.mul bP 8 A)=hB Ed.zero) rfl (λh8=>?_) (λh8=>aR (jf _ ?_))
  .refine ag rfl (aJ (o7 (az0 hq.on ((agN hq.on).1 h8)) _ ⟨⟨rfl,trivial⟩,trivial,.refl _,aD, au⟩))
  by_cases h1:le (sig.drop 32)<cd
  .refine ck λK hK=>cX (aB2 bm h1) (λ_=>rfl) rfl λ_=>cR hK rfl ?_;refine ao λK0 jf=>ag rfl (dY rfl (aR (jf _ (ck λK hK=>cR hK rfl (eU 4 [(12,176)] λK hK G S w0 aa=>n_P aa (r:=.q (kr (Bh (sig.take 32) (hB A) ls.flatten))) U5 (Ad _) rfl (λw ab=>UQ agB ab.fact.1 ab.fact.2 h0 y6 (Mi ab rfl (CT hR) hR (aQ _) (cL rfl)) (Mi ab rfl (CT hk) hk (aQ _) (cL rfl))) (fz aa rfl hK rfl (eU 10 [] λK hK G S w0 aa=>bR aa Mj rfl λ_=>bR aa ((auW (.inr hq) hP').imp λ_ h=>h.1.tw) rfl λ⟨P2,Au,Ez⟩=>bR aa Mj rfl λ_=>bR aa ((alU (ld 32 _) (.inr Au) Ez (ld 32 _)).imp λ_ h=>h.1.tw) rfl λ⟨P3,h3,NR⟩=>bR aa ((adK h3 NR).imp λ_ h=>h.1.tw) rfl λ_=>cw aa rfl (vH aa (.b (decide (hB (Ed.add bP (Ed.mul bP (le (Nums.bytes 32 (le (sig.drop 32)))) base) (Ed.mul bP (le (Nums.bytes 32 (Bh (sig.take 32) (hB A) ls.flatten))) (Ed.neg A)))=sig.take 32))) rfl (F6 rfl rfl rfl dp (by kernel_rfl) (FA _) hR) (fz aa rfl hK rfl (aJ ?_))))))))));exact x8 an () rfl rfl (congrArg oE (ayY hq.on (λh=>h8 ((agN hq.on).2 h)) h1)) trivial rfl aD λ_ _=>trivial
  .refine ck λK hK=>cX (aB1 bm h1) (λ_=>rfl) rfl λ_=>cR hK rfl ?_;refine ao λK0 jf=>ag rfl (ir rfl ?_);exact ag rfl (aJ (o7 (ayX h1) _ ⟨⟨rfl,trivial⟩,trivial,.refl _,aD, au⟩))
 .refine ck λK hK=>dP rfl (pd 20 true rfl rfl (atD rfl (cR hK rfl ?_)));refine ir rfl (ag rfl (aJ (o7 (ayZ hn) _ ⟨⟨rfl,trivial⟩,trivial,.refl _,aD, au⟩)))⟩
def ay0{seed:ae}(hs:seed.length=32):Spec 53 [.agg (By seed).toArray] [] eI (one (.q (aw 32 (o8 seed)))):=(axZ hs).spec
def agH{A:aO}{c:Nat}{b:ae}(t:UInt8)(hb:b.length<=140737488355312):Spec 94 [.int .u8 (t.toNat:Int),.slice A b.length c] [] (λw=>ar 1 aY A c b w) (FG (msg t b)):=Spec.made λw h=>aBI t w h.dw hb
def YO(x:ae):[x].flatten=x:=by simp
section
variable{A:aO}{c:Nat}{b:ae}(t:UInt8)
def aB4{seed:ae}(hs:seed.length=32)(hb:b.length<=140737488355312):Spec 51 [.agg (By seed).toArray,.int .u8 (t.toNat:Int),.slice A b.length c] [] (λw=>eI w/\ar 1 aY A c b w) (one (.q (aw 64 (uJ seed (msg t b))))):=by refine bA [aw 32 seed,.c (.v (.int .u8 (t.toNat:Int))),.c (.v (.slice A b.length c))] 13 func51 rfl (ab:=uP (cq hs).1 (dZ trivial trivial)) λB=>?_;refine ag rfl ?_;refine nw 6 λK hK G S w0 aa=>?_;refine dC aa rfl (wL (F':=λw=>ar 1 aY A c b w) aa [.int .u8 (t.toNat:Int),.slice A b.length c] rfl rfl rfl rfl (λ_=>rfl) (agH t hb).fc (λw hw _=>hw.fact.2) λg _=>Dc [cj g (msg t b).length (msg t b).length] [msg t b] aa rfl rfl rfl rfl rfl (by decide) (by decide) (λw _ hu=>⟨(O8 (hu 3 _ rfl (by kernel_rfl))).dw,trivial⟩) λg2=>?_);have qf:=(aBH (P:=some ⟨g2,0,none⟩) (ls:=[msg t b]) (cx:=1) hs (λh=>by cases h) (cL rfl)).spec;rw [YO] at qf;refine wL (F':=λw=>eI w/\lX w (some ⟨g2,0,none⟩) [msg t b]) aa [.agg (By seed).toArray,cj g2 1 1] rfl rfl (how:=ad5) rfl rfl (λ_=>rfl) qf (λw hw hu=>⟨hw.fact.1,hu 4 _ rfl (by kernel_rfl)⟩) λ_ _=>jR aa (kz rfl (hK _ (aJ ?_)));exact bE () rfl aD λ_ _=>trivial
def ax9{key sig:ae}(hk:key.length=32)(hs:sig.length=64)(hb:b.length<=140737488355312):Spec 54 [.agg (By key).toArray,.int .u8 (t.toNat:Int),.slice A b.length c,.agg (By sig).toArray] [] (λw=>eI w/\ar 1 aY A c b w) (one (.q (.c (.b (w6 key sig (msg t b)))))):=by refine bA [aw 32 key,.c (.v (.int .u8 (t.toNat:Int))),.c (.v (.slice A b.length c)),aw 64 sig] 16 func54 rfl (ab:=uP (cq hk).1 (uP trivial (dZ trivial (cq hs).1))) λB=>?_;refine ag rfl ?_;refine nw 7 λK hK G S w0 aa=>?_;refine dC aa rfl (wL (F':=λw=>ar 1 aY A c b w) aa [.int .u8 (t.toNat:Int),.slice A b.length c] rfl rfl rfl rfl (λ_=>rfl) (agH t hb).fc (λw hw _=>hw.fact.2) λg _=>Dc [cj g (msg t b).length (msg t b).length] [msg t b] aa rfl rfl rfl rfl rfl (by decide) (by decide) (λw _ hu=>⟨(O8 (hu 4 _ rfl (by kernel_rfl))).dw,trivial⟩) λg2=>?_);have qf:=(aEK (P:=some ⟨g2,0,none⟩) (ls:=[msg t b]) (cx:=1) hk hs (λh=>by cases h) (cL rfl)).spec;rw [YO] at qf;refine wL (F':=λw=>eI w/\lX w (some ⟨g2,0,none⟩) [msg t b]) aa [.agg (By key).toArray,.agg (By sig).toArray,cj g2 1 1] rfl rfl (how:=ad6) rfl rfl (λ_=>rfl) qf (λw hw hu=>⟨hw.fact.1,hu 5 _ rfl (by kernel_rfl)⟩) λ_ _=>jR aa (kz rfl (hK _ (aJ ?_)));exact bE () rfl aD λ_ _=>trivial
end
def rn:aC:=aB 64 0
def Rn:rn.length=64:=by decide
def awH:Own 191:=λ_ _=>by go_simp
def Eh:rX 297 64:=⟨_,underlying297,by kernel_rfl⟩
def pA:iX .u32 32:=.inr ⟨rfl,rfl⟩
def alG{f:aK}(hf:∀j,f j<256):bits .or .u32 (bits .or .u32 (bits .or .u32 (IntKind.u32.wrap (IntKind.u32.wrap (f 0:Int)*2^min 24 IntKind.u32.bits)) (IntKind.u32.wrap (IntKind.u32.wrap (f 1:Int)*2^min 16 IntKind.u32.bits))) (IntKind.u32.wrap (IntKind.u32.wrap (f 2:Int)*2^min 8 IntKind.u32.bits))) (IntKind.u32.wrap (f 3:Int))=((kq f 4:Nat):Int):=by
 have h0:=hf 0;have h1:=hf 1;have h2:=hf 2;have h3:=hf 3;have key:∀x:Nat,x<256->IntKind.u32.wrap (x:Int)=(x:Int):=λx hx=>by rw [Go.IntKind.wrap_u32];omega
 rw [key _ h0,key _ h1,key _ h2,key _ h3];rw [show((f 0:Int)*2^min 24 IntKind.u32.bits)=((f 0*16777216:Nat):Int) from rfl,show((f 1:Int)*2^min 16 IntKind.u32.bits)=((f 1*65536:Nat):Int) from rfl,show((f 2:Int)*2^min 8 IntKind.u32.bits)=((f 2*256:Nat):Int) from rfl,pA.wrap,pA.wrap,pA.wrap,
  gm (by omega),gm (by omega),gm (by omega),U3 24 _ _ (by omega) (by omega) (by omega) (by omega),U3 16 _ _ (by omega) (by omega) (by omega) (by omega),U3 8 _ _ (by omega) h3 (by omega) (by omega)]
 exact congrArg _ (show _=(((0*256+f 0)*256+f 1)*256+f 2)*256+f 3 by omega)
def au9{F:aE}[dc F]{b:ae}(hb:b.length=64):cV F 191 [aw 64 b] (one (.q (GO 64 (cz (dt cg b) rn 64)))):=⟨awH,by
 have hX:=WD cg b (by decide);have hlen:∀t,(cz (dt cg b) rn t).length=64:=λt=>by rw [tr,Rn]
 have h16:∀t,t<16->dt cg b t=kq (λk=>(b[4*t+k]!).toNat) 4:=λt ht=>by rw [dt,dif_pos ht];show kq (λk=>(b[t*4+k]!).toNat) 4=_;rw [Nat.mul_comm]
 have sD:∀t,16<=t->(pc 32 (17,19,10) (dt cg b (t-2))+dt cg b (t-7)+pc 32 (7,18,3) (dt cg b (t-15))+dt cg b (t-16))%2^32=dt cg b t:=λt ht=>by
  conv=>rhs;rw [dt,dif_neg (by omega)]
  rfl
 generalize dt cg b=X at *;refine bA [aw 64 b] 89 func191 rfl (ab:=iG (cq hb).1) λB=>ag rfl (ag rfl ?_);let L:aC->aH:=λl=>[⟨3,none,297,[.agg 64 (gI l).toArray]⟩,⟨2,none,297,[.agg 64 (gI (aB 64 0)).toArray]⟩,⟨1,none,66,[.agg 64 (By b).toArray]⟩];let P:Nat×aC->Env:=λs=>⟨[(11,.aT s.1),(1,.a 1 0),(2,.a 2 0),(3,.a 3 0)],L s.2,[],F,λ_=>True⟩;refine ao λK1 aS=>ag rfl (a8 ?_);refine cI (e':=P (0,aB 64 0)) (fC rfl rfl rfl λ_ h _=>h) (cY (λs=>16-s.1) P (λs=>s.1<=16/\s.2=cz X rn s.1) ?_ (0,aB 64 0) ⟨bl _,(Fx X rn).symm⟩)
 .rintro⟨t,l⟩ ⟨ht,hl⟩
  dsimp only at ht hl;subst hl;refine ag rfl (ao λK2 aM=>?_);refine bn ((t:Int)<16) rfl (λal=>?_) (λcW=>?_)
  .have al:t<16:=by omega
   refine aR (aM _ (ao λK3 bu=>a8 (ag rfl (ck λK hK=>aj rfl (ca 15 ((4*t:Nat):Int) rfl (zp 4 t (by omega)) (ca 18 ((4*t+4:Nat):Int) rfl (by show IntKind.i64.wrap (IntKind.i64.wrap (((4:Nat):Int)*(t:Int))+((4:Nat):Int))=_;rw [zp 4 t (by omega)];exact gv _ _ (by omega)) (aaY (4*t) (4*t+4) rfl rfl BB rfl rfl rfl (by omega) (by omega) (by omega) (cR hK rfl ?_))))))));have rd:∀j,j<4->(a7 [.agg 64 (By b).toArray])[0+4*t+j]?=some (.int .u8 ((b[4*t+j]!).toNat:Int)):=λj hj=>by rw [dI];exact ub (by omega)
   refine w7 24 λG S w0 aa=>cw aa rfl (Pq aa 0 rfl rfl rfl rfl rfl (by omega) mP xb rfl (rd 0 (by decide)) nu rfl (cw aa rfl (Pq aa 1 rfl rfl rfl rfl rfl (by omega) mP xb rfl (rd 1 (by decide)) nu rfl (cw aa rfl (Pq aa 2 rfl rfl rfl rfl rfl (by omega) mP xb rfl (rd 2 (by decide)) nu rfl (cw aa rfl (Pq aa 3 rfl rfl rfl rfl rfl (by omega) mP xb rfl (rd 3 (by decide)) nu rfl (cw aa rfl (fb 42 ((X t:Nat):Int) rfl ((alG (f:=λk=>(b[4*t+k]!).toNat) λj=>ur _).trans (by rw [h16 t al])) (Pr aa rfl Eh (by show t<64;omega) (sS aa rfl ?_)))))))))));refine OY rfl [.agg 64 (gI (cz X rn (t+1))).toArray] (JK (hlen _)) ?_ ?_ (ah (bu _ ?_))
   .show 0+t<(gI (cz X rn t)).toArray.size;rw [fx,Jo,hlen];omega
   .show gI (cz X rn (t+1))=(gI (cz X rn t)).set (0+t) _;rw [dI,gI,gI,<-zg,oW]
   refine cE rfl ?_;exact cH (t+1,_) ⟨al,rfl⟩ (by show 16-(t+1)<16-t;omega) ⟨⟨congrArg (λx=>some (aq.v (.int .i64 x))) (gv t 1 (by omega)),rfl,rfl,rfl,trivial⟩,c8 rfl rfl, .refl _,λ_ h _=>h,λ_ h=>h⟩
  .obtain rfl:t=16:=by omega
   refine cG (a6 (a6 (cF (aS _ ?_))));let Q:Nat×aC->Env:=λs=>⟨[(6,.aT s.1),(1,.a 1 0),(2,.a 2 0),(3,.a 3 0)],L s.2,[],F,λ_=>True⟩;refine ao λK1 aS=>ag rfl (a8 ?_);refine cI (e':=Q (16,cz X rn 16)) (hv rfl rfl rfl) (cY (λs=>64-s.1) Q (λs=>16<=s.1/\s.1<=64/\s.2=cz X rn s.1) ?_ (16,cz X rn 16) ⟨aQ _,cL rfl,rfl⟩);rintro⟨t,l⟩ ⟨wP,ht,hl⟩;dsimp only at wP ht hl;subst hl;have rd:∀j,j<t->(a7 [.agg 64 (gI (cz X rn t)).toArray])[0+j]?=some (.int .u32 ((X j:Nat):Int)):=λj hj=>(Xq (by rw [hlen];omega)).trans (by rw [Lw hj (by rw [Rn];omega)]);refine ao λK3 bu=>ag rfl ?_;refine bn ((t:Int)<64) rfl (λal=>?_) (λcW=>?_)
   .have al:t<64:=by omega
    refine aR (bu _ (ao λK4 bW=>a8 (eU 10 [] λK hK G S w0 aa=>cw aa rfl (fb 50 ((t-2:Nat):Int) rfl (rU t 2 (by omega) (by omega)) (g8 aa rfl Eh (by show t-2<64;omega) (.int .u32 ((X (t-2):Nat):Int)) (rd (t-2) (by omega)) (cw aa rfl (fb 54 ((t-15:Nat):Int) rfl (rU t 15 (by omega) (by omega)) (g8 aa rfl Eh (by show t-15<64;omega) (.int .u32 ((X (t-15):Nat):Int)) (rd (t-15) (by omega)) (fz aa rfl hK rfl (ck λK hK=>cX (Bc 17 (hX (t-2)) (by decide)) (λ_=>rfl) rfl λ_=>cX (Bc 19 (hX (t-2)) (by decide)) (λ_=>rfl) rfl λ_=>dP rfl (ca 9 _ rfl (pA.low (17,19,10) (by decide) (hX (t-2))) (ah (hK _ (ck λK hK=>cX (Bc 7 (hX (t-15)) (by decide)) (λ_=>rfl) rfl λ_=>cX (Bc 18 (hX (t-15)) (by decide)) (λ_=>rfl) rfl λ_=>dP rfl (ca 10 _ rfl (pA.low (7,18,3) (by decide) (hX (t-15))) (ah (hK _ (w7 15 λG S w0 aa=>cw aa rfl (fb 76 ((t-7:Nat):Int) rfl (rU t 7 (by omega) (by omega)) (g8 aa rfl Eh (by show t-7<64;omega) (.int .u32 ((X (t-7):Nat):Int)) (rd (t-7) (by omega)) (cw aa rfl (fb 83 ((t-16:Nat):Int) rfl (rU t 16 (by omega) (by omega)) (g8 aa rfl Eh (by show t-16<64;omega) (.int .u32 ((X (t-16):Nat):Int)) (rd (t-16) (by omega)) (cw aa rfl (fb 86 _ rfl (pA.Wa.trans (by rw [sD t wP])) (Pr aa rfl Eh al (sS aa rfl ?_)))))))))))))))))))))))))));refine OY rfl [.agg 64 (gI (cz X rn (t+1))).toArray] (JK (hlen _)) ?_ ?_ (ah (bW _ ?_))
    .show 0+t<(gI (cz X rn t)).toArray.size;rw [fx,Jo,hlen];omega
    .show gI (cz X rn (t+1))=(gI (cz X rn t)).set (0+t) _;rw [dI,gI,gI,<-zg,oW]
    refine cE rfl ?_;exact cH (t+1,_) ⟨by show 16<=t+1;omega,al,rfl⟩ (by show 64-(t+1)<64-t;omega) ⟨⟨congrArg (λx=>some (aq.v (.int .i64 x))) (gv t 1 (by omega)),rfl,rfl,rfl,trivial⟩,c8 rfl rfl, .refl _,λ_ h _=>h,λ_ h=>h⟩
   .obtain rfl:t=64:=by omega
    refine cG (a6 (a6 (cF (aS _ (ag rfl (aJ ?_))))));exact bE () rfl aD λ_ _=>trivial⟩
def ax5:Own 146:=λ_ _=>by go_simp
def Qh:=@underlying251
def td:rX 251 8:=⟨_,Qh,by kernel_rfl⟩
def aC1{t:Nat}(ht:t<80):IntKind.u32.wrap (lP ((oQ[t]! : Nat):Int) (2^min 32 IntKind.u64.bits))=((oQ[t]! / 4294967296:Nat):Int):=by have h1:=XT ht;rw [oq.shr 32 (by decide),pA.wrap,gm (Nat.div_lt_of_lt_mul h1)]
def aDB{o:dr}(ho:gH 32 o){b:ae}(hb:b.length=64):cV s8 146 [GO 8 o.list,aw 64 b] (one (.q (GO 8 (mx cg o b).list))):=⟨ax5,by
 have T5:(cz (dt cg b) rn 64).length=64:=by rw [tr,Rn]
 have hO:=λt=>gH.qY (s:=cg) (b:=b) ho t;refine bA [GO 8 o.list,aw 64 b] 137 func146 rfl (ab:=dZ (JK rfl) (cq hb).1) λB=>ag rfl (ck λK hK=>cX (au9 hb) (λ_=>rfl) rfl λ_=>cR hK rfl (eU 24 [] λK hK G S w0 aa=>g8 aa rfl td (cL rfl) (.int .u32 (o.a:Int)) rfl (g8 aa rfl td (cL rfl) (.int .u32 (o.b:Int)) rfl (g8 aa rfl td (cL rfl) (.int .u32 (o.c:Int)) rfl (g8 aa rfl td (cL rfl) (.int .u32 (o.d:Int)) rfl (g8 aa rfl td (cL rfl) (.int .u32 (o.e:Int)) rfl (g8 aa rfl td (cL rfl) (.int .u32 (o.f:Int)) rfl (g8 aa rfl td (cL rfl) (.int .u32 (o.g:Int)) rfl (g8 aa rfl td (cL rfl) (.int .u32 (o.h:Int)) rfl (fz aa rfl hK rfl (ao λK1 aS=>ag rfl (a8 ?_))))))))))));let P:Nat×dr->Env:=λs=>⟨[(37,.aT s.1),(6,.v (.int .u32 (s.2.a:Int))),(7,.v (.int .u32 (s.2.b:Int))),(8,.v (.int .u32 (s.2.c:Int))),(9,.v (.int .u32 (s.2.d:Int))),(10,.v (.int .u32 (s.2.e:Int))),(11,.v (.int .u32 (s.2.f:Int))),(12,.v (.int .u32 (s.2.g:Int))),(13,.v (.int .u32 (s.2.h:Int))),(2,.a 2 0),(4,.a 4 0),(5,.a 5 0)],
  [⟨5,none,297,[.agg 64 (gI (cz (dt cg b) rn 64)).toArray]⟩,⟨4,none,251,[.agg 8 (gI (aB 8 0)).toArray]⟩,⟨2,none,251,[.agg 8 (gI o.list).toArray]⟩],[],s8,λ_=>True⟩
 refine cI (e':=P (0,o)) (fC rfl rfl rfl λ_ h _=>h) (cY (λs=>64-s.1) P (λs=>s.1<=64/\s.2=qY cg b o s.1) ?_ (0,o) ⟨bl _,rfl⟩);rintro⟨t,q⟩ ⟨ht,hq⟩;dsimp only at ht hq;have aF:=hO t;rw [<-hq] at aF;refine ag rfl (ao λK2 aM=>?_);refine bn ((t:Int)<64) rfl (λal=>?_) (λcW=>?_)
 .have al:t<64:=by omega
  refine aR (aM _ (ao λK3 bu=>a8 (ag rfl (ck λK hK=>cX (Bc 6 aF.e (by decide)) (λ_=>rfl) rfl λ_=>cX (Bc 11 aF.e (by decide)) (λ_=>rfl) rfl λ_=>cX (Bc 25 aF.e (by decide)) (λ_=>rfl) rfl λ_=>dP rfl (ca 15 _ rfl (pA.Nd (6,11,25) (by decide) aF.e) (ah (hK _ (ck λK hK=>cX (Bc 2 aF.a (by decide)) (λ_=>rfl) rfl λ_=>cX (Bc 13 aF.a (by decide)) (λ_=>rfl) rfl λ_=>cX (Bc 22 aF.a (by decide)) (λ_=>rfl) rfl λ_=>dP rfl (ca 16 _ rfl (pA.Nd (2,13,22) (by decide) aF.a) (ah (hK _ (eU 23 [] λK hK G S w0 aa=>cw aa rfl (UM aa rfl rfl rfl rfl z4 (by show t<80;omega) zC rfl (λw h=>h.cell t (by omega)) (cw aa rfl (g8 aa rfl Eh al (.int .u32 ((dt cg b t:Nat):Int)) ((Xq (by rw [T5];exact al)).trans (by rw [Lw al (by rw [Rn];exact al)])) (cw aa rfl (fb 17 (((q.h+zB 32 (6,11,25) q.e+BE 32 q.e q.f q.g+oQ[t]! / 4294967296+dt cg b t)%2^32:Nat):Int) rfl (by rw [aC1 (t:=t) (by omega)];exact pA.t1c aF.e aF.f aF.g) (fz aa rfl hK rfl (ck λK hK=>dP rfl (ca 18 _ rfl (pA.t2 aF.a aF.b aF.c) (ah (hK _ (ef (dP rfl (ca 10 _ rfl pA.ah0 (ca 6 _ rfl pA.sum (ah (bu _ (cE rfl ?_)))))))))))))))))))))))))))));exact cH (t+1,CE cg (oQ[t]! / 4294967296) (dt cg b t) q) ⟨al,by rw [hq];rfl⟩ (by show 64-(t+1)<64-t;omega) ⟨⟨congrArg (λx=>some (aq.v (.int .i64 x))) (gv t 1 (by omega)),rfl,rfl,rfl,rfl,rfl,rfl,rfl,rfl,rfl,rfl,rfl,trivial⟩,c8 rfl rfl, .refl _,λ_ h _=>h,λ_ h=>h⟩
 .obtain rfl:t=64:=by omega
  refine cG (a6 (a6 (cF (aS _ (ck λK hK=>lp rfl td (cL rfl) (.int .u32 (o.a:Int)) rfl (dP rfl (ca 107 _ rfl (pA.add (b:=q.a)) (lp rfl td (cL rfl) (.int .u32 (o.b:Int)) rfl (dP rfl (ca 111 _ rfl (pA.add (b:=q.b)) (lp rfl td (cL rfl) (.int .u32 (o.c:Int)) rfl (dP rfl (ca 115 _ rfl (pA.add (b:=q.c)) (lp rfl td (cL rfl) (.int .u32 (o.d:Int)) rfl (dP rfl (ca 119 _ rfl (pA.add (b:=q.d)) (lp rfl td (cL rfl) (.int .u32 (o.e:Int)) rfl (dP rfl (ca 123 _ rfl (pA.add (b:=q.e)) (lp rfl td (cL rfl) (.int .u32 (o.f:Int)) rfl (dP rfl (ca 127 _ rfl (pA.add (b:=q.f)) (lp rfl td (cL rfl) (.int .u32 (o.g:Int)) rfl (dP rfl (ca 131 _ rfl (pA.add (b:=q.g)) (lp rfl td (cL rfl) (.int .u32 (o.h:Int)) rfl (dP rfl (ca 135 _ rfl (pA.add (b:=q.h)) (zn (.p [.agg 8 (gI (wY 32 o q).list).toArray]) (JK rfl) (λG S w C0 Q' _ _ hQ=>C3 ([(o.a+q.a)%2^32,(o.b+q.b)%2^32,(o.c+q.c)%2^32,(o.d+q.d)%2^32,(o.e+q.e)%2^32,(o.f+q.f)%2^32,(o.g+q.g)%2^32,(o.h+q.h)%2^32].zipIdx.map λx=>(x.2,.int .u32 ((x.1:Nat):Int))) (gI (wY 32 o q).list).toArray rfl rfl rfl (by kernel_rfl) hQ) rfl (cR hK rfl (aJ ?_)))))))))))))))))))))))))))))));rw [hq];exact bE () rfl aD λ_ _=>trivial⟩
def QH(cs:ct)(h:cs.size=8):(prog.info? 251).map (·.size)=some cs.size:=by rw [h];kernel_rfl
def CK:ct:=(gI [0,0,0,0,0,0,0,0]).toArray
def ML:ae:=aB 32 0
def ajB:(prog.info? 47).bind (λi=>i.zero.map (·.cells))=some (By ML).toArray:=by kernel_rfl
structure Gv(w wr:yp)(cs:ct)(m:ae):Prop where
  b0:bB wr w.heap.size 251 cs
  b1:bB wr (w.heap.size+1) 47 (By ML).toArray
  b2:bB wr (w.heap.size+1+1) 47 (By m).toArray
  be:Below w.heap.size w wr
def Gv.set{w wr:yp}{cs:ct}{m:ae}(h:Gv w wr cs m)(k:Nat)(x:UInt8):Gv w (wr.setCell ⟨w.heap.size+1+1,k,none⟩ (.int .u8 (x.toNat:Int))) cs (m.set k x) where
 b0:=h.b0.nh (by show w.heap.size≠w.heap.size+1+1;omega) _
 b1:=h.b1.nh (by show w.heap.size+1≠w.heap.size+1+1;omega) _
 b2:=by have h4:=h.b2.set k (.int .u8 (x.toNat:Int));rw [Rt] at h4;exact h4
 be:=h.be.setCell (by show w.heap.size<=w.heap.size+1+1;omega) _
def atK{l:aC}(hl:l.length=8)(hw:∀x∈l,x<4294967296)(w:yp) :
  Calls prog 147 #[.agg (gI l).toArray] w λe w'=>e = .returned (.agg (By (l.map (mb cg)).flatten).toArray)/\Below w.heap.size w w':=by
 have hD:=Lo (mb cg) (n:=4) (λx=>Ii cg x) l;rw [hl] at hD
 have hg:∀i j,i<8->j<4->(((l.map (mb cg)).flatten)[4*i+3-j]!).toNat=l[i]! / 256^j%256:=λi j hi hj=>by have h1:=flat_get (mb cg) (n:=4) (λx=>Ii cg x) l (i:=i) (j:=3-j) (by omega) (by omega);rw [show 4*i+3-j=4*i+(3-j) by omega,h1];exact ab6 (s:=cg) (j:=j) hj
 have tA:(gI l).toArray.size=8:=by rw [fx,Jo,hl]
 have Hg:∀i,i<8->∀w1,(tO 251 (.agg (gI l).toArray) (.int .i64 ((i:Nat):Int))).run prog w1 = .ok (.int .u32 (l[i]! : Nat)) w1:=λi hi w1=>by
  have h0:(gI l).toArray[i]?=some (.int .u32 (l[i]! : Nat)):=RF (by omega);have h1:((i:Nat):Int)<8:=by omega
  have h2:(0:Int)<=(i:Nat):=by omega
  generalize l[i]! = c at *;generalize (gI l).toArray=cs at *;unfold tO Go.part;go_simp;obtain⟨_,h⟩:=po.1 h0;exact h
 have wR:∀i,i<8->l[i]! < 4294967296:=λi hi=>by rw [getElem!_pos l i (by omega)];exact hw _ (AD _)
 generalize (l.map (mb cg)).flatten=D at *;generalize (gI l).toArray=cs at *
 go_enter func147,ntmps147
 refine wp_seq_k λK hK=>wp_region_lit (aiT cs rfl rfl rfl (I4 (zs:=(By ML).toArray) rfl rfl ajB (D9 ?_)))
 go_simp
 refine hK _ _ ?_;clear hK K;refine wp_seq_k λK hK=>wp_region_lit (I4 (zs:=(By ML).toArray) rfl rfl ajB (D9 ?_))
 go_simp
 refine hK _ _ ?_;clear hK K;refine WU (λW=>Gv w W cs ML) ⟨Nf w _ _ _ _,Ek w _ _ _ _,Ju w _ _ _ _,(((Below.refl _ _).alloc (aQ _) _).alloc (by simp) _).alloc (by simp;omega) _⟩ ?_
 intro W hW
 have k0:=hW.b0;have HW:=iB hW;clear hW
 go_wp2_with (refine wpList_load_row rfl 251 _ rfl w.heap.size rfl 251 cs (0,0) _ k0 Qh rfl (QH _ tA) ?_)
 clear k0
 go_loopw [8] (λi wr=>∃t:Nat,t<=8/\i = .int .i64 t/\Gv w wr cs (mg D λm=>decide (m<4*t))) (λi _=>8-(intOf i).toNat)
 case atStart =>
  refine⟨0,by omega,rfl,?_⟩;rw [ahO (λm _=>decide_eq_false (by omega)),hD];exact HW.out
 case round =>
  clear HW;obtain⟨t,ht,rfl,bm⟩:=hrel
  by_cases qg:t<8
  .have hi:=Hg t qg
   have hx:=wR t qg;have BR:=λj hj=>hg t j qg hj;generalize l[t]! = x at *;have g4:(0:Int)<=(t:Int):=by omega
   have xj:=iB bm;clear bm hg Hg wR;go_wp2;go_loopw [12,5] (λj v wq=>∃n:Nat,n<=4/\j = .int .i64 n/\v = .int .u32 ((x/256^n:Nat):Int)/\Gv w wq cs (mg D λm=>decide (m<4*t\/4*t+4-n<=m/\m<4*t+4))) (λj _ _=>4-(intOf j).toNat)
   case atStart =>
    refine⟨0,by omega,rfl,by rw [xW,Nat.div_one],?_⟩;rw [PI (q:=λm=>decide (m<4*t)) (λm _=>decide_eq_decide.2 (by omega))];exact xj.out
   case round =>
    clear xj;obtain⟨n,hn,rfl,rfl,bm⟩:=hrel
    by_cases Ar:n<4
    .have hN:=bm.set (4*t+3-n) D[4*t+3-n]!
     rw [aiA (q:=λm=>decide (m<4*t\/4*t+4-(n+1)<=m/\m<4*t+4)) (λm _=>by rw [<-Bool.decide_or];exact decide_eq_decide.2 (by omega))] at hN;have hb:=BR n Ar;have hdiv:x/256^(n+1)=x/256^n/256:=by rw [k8,C9]
     have hle:x/256^n<4294967296:=nc (qA _ _) hx;have c2:=(bm.b2.cell (4*t+3-n)).trans (ub (by rw [aiB,hD];omega));have f2:=bm.b2.free (4*t+3-n);generalize x/256^n=y at *;have q4:IntKind.u8.wrap (y:Int)=((D[4*t+3-n]!).toNat:Int):=by rw [IntKind.wrap_u8',hb];omega
     have g5:(0:Int)<=(n:Int):=by omega
     have q5:(y:Int)/256=((y/256:Nat):Int):=by omega
     have HN:=iB (And.intro hN hdiv);clear bm hN hdiv hb BR hi;generalize (D[4*t+3-n]!).toNat=v at *;generalize ((mg D λm=>decide (m<4*t\/4*t+4-n<=m/\m<4*t+4))[4*t+3-n]!).toNat=eS at *;generalize y/256=y2 at *;go_wp2;go_roundw
     case rel =>
      obtain⟨hN,hdiv⟩:=HN.out;refine⟨n+1,by omega,by go_num,by rw [hdiv],hN⟩
     case measure=>simp [intOf];omega
    .obtain rfl:n=4:=by omega
     rw [PI (q:=λm=>decide (m<4*(t+1))) (λm _=>decide_eq_decide.2 (by omega))] at bm;have xj:=iB bm;clear bm;go_wp2;go_roundw
     case rel=>exact⟨t+1,by omega,by go_num,xj.out⟩
     case measure=>simp [intOf];omega
  .obtain rfl:t=8:=by omega
   rw [aiC (λm hm=>decide_eq_true (by omega))] at bm;obtain⟨b0,b1,b2,be⟩:=bm;have hz:(By D).toArray.size=32:=by rw [fx,dH,hD]
   clear b0;go_wp2_with (first
    | (refine wpList_load_row rfl 47 _ rfl (w.heap.size+1+1) rfl 47 (By D).toArray (0,0) _ b2 dp rfl (IQ _ hz) ?_)
    | (refine wpList_store_row rfl 47 _ _ rfl (w.heap.size+1) rfl (By D).toArray rfl 47 _ b1 (IQ _ hz) (by rw [hz];rfl) (qp _) ?_))
   refine bodyPost_ret (results_cell_row rfl _ _ (w.heap.size+1) 47 (By D).toArray (0,0) _ rfl (b1.row _) dp rfl (IQ _ hz)) rfl ⟨rfl,?_⟩;exact below_setRow be (by omega) _
def zv8:(prog.info? 251).bind (λi=>i.zero.map (·.cells))=some CK:=by kernel_rfl
structure GA(w:yp):Prop where
  cell:∀i,i<8->w.cell? ⟨1,i,none⟩=some (.int .u64 (jD[i]! : Nat))
  lt : 1 < w.heap.size
def GA.below{w w':yp}(h:GA w)(hb:Below w.heap.size w w'):GA w' :=
 ⟨λi hi=>(hb.cell (p:=⟨1,i,none⟩) h.lt).trans (h.cell i hi),Nat.lt_of_lt_of_le h.lt hb.size⟩
structure Jf(w wr:yp)(l:aC):Prop where
  b0:bB wr w.heap.size 251 CK
  b1:bB wr (w.heap.size+1) 251 (gI l).toArray
  be:Below w.heap.size w wr
def Jf.set{w wr:yp}{l:aC}(h:Jf w wr l)(k x:Nat):Jf w (wr.setCell ⟨w.heap.size+1,k,none⟩ (.int .u32 (x:Int))) (l.set k x) where
 b0:=h.b0.nh (by show w.heap.size≠w.heap.size+1;omega) _
 b1:=by have h4:=h.b1.set k (.int .u32 (x:Int));rw [ak9] at h4;exact h4
 be:=h.be.setCell (by show w.heap.size<=w.heap.size+1;omega) _
def aBV{t:Nat}(h:t<8):jD[t]! < 18446744073709551616:=by
 have h1:∀x∈jD,x<18446744073709551616:=by decide
 have h2:t<jD.length:=h;rw [getElem!_pos jD t h2];exact h1 _ (AD _)
def uX(t:Nat):Nat:=jD[t]! / 4294967296
def CJ:aC:=[0,0,0,0,0,0,0,0]
def aoD:cz uX CJ 8=cg.start:=by decide +kernel
def aoB(w:yp)(hT:GA w) :
  Calls prog 143 #[] w λe w'=>e = .returned (.agg (gI cg.start).toArray)/\Below w.heap.size w w':=by
 rw [<-aoD]
 have hlen:∀t,(cz uX CJ t).length=8:=λt=>by rw [tr];rfl
 go_enter func143,ntmps143
 refine wp_seq_k λK hK=>wp_region_lit (I4 (zs:=CK) rfl rfl zv8 (D9 ?_))
 go_simp
 refine hK _ _ ?_;clear hK K;refine wp_seq_k λK hK=>wp_region_lit (I4 (zs:=CK) rfl rfl zv8 (D9 ?_))
 go_simp
 refine hK _ _ ?_;clear hK K
 have jz:bB ((w.alloc (.cells CK 251)).alloc (.cells CK 251)) (w.heap.size+1) 251 CK:=by
  have h:=bB.new (w.alloc (.cells CK 251)) 251 CK
  rwa [World.size_alloc] at h
 refine WU (λW=>Jf w W CJ) ⟨(bB.new w _ _).alloc _,jz,((Below.refl _ _).alloc (aQ _) _).alloc (by simp) _⟩ ?_
 intro W hW
 clear jz;have HW:=iB hW;clear hW
 go_wp2
 go_loopw [3] (λi wr=>∃t:Nat,t<=8/\i = .int .i64 t/\Jf w wr (cz uX CJ t)) (λi _=>8-(intOf i).toNat)
 case atStart =>
  refine⟨0,by omega,rfl,?_⟩;rw [Fx];exact HW.out
 case round =>
  clear HW;obtain⟨t,ht,rfl,bm⟩:=hrel
  by_cases qg:t<8
  .have hN:=bm.set t (uX t)
   rw [zg] at hN;have hg:=(hT.below bm.be).cell t qg;have al:=aBV qg;have c1:=(bm.b1.cell t).trans (RF (by rw [hlen];omega));have f1:=bm.b1.free t;have e1:uX t=jD[t]! / 4294967296:=rfl;have hq:uX t<4294967296:=by omega
   have q1:((jD[t]! : Nat):Int)/4294967296=((uX t:Nat):Int):=by omega
   have q2:IntKind.u32.wrap ((uX t:Nat):Int)=((uX t:Nat):Int):=by rw [Go.IntKind.wrap_u32];omega
   have g4:(0:Int)<=(t:Int):=by omega
   have HN:=iB hN;clear bm hN e1 hT hlen;generalize uX t=y at *;generalize jD[t]! = x at *;generalize (cz uX CJ t)[t]! = eS at *;go_wp2;go_roundw
   case rel=>exact⟨t+1,by omega,by go_num,HN.out⟩
   case measure=>simp [intOf];omega
  .obtain rfl:t=8:=by omega
   obtain⟨b0,b1,be⟩:=bm;have hz:(gI (cz uX CJ 8)).toArray.size=8:=by rw [fx,Jo,hlen]
   clear hT;go_wp2_with (first
    | (refine wpList_load_row rfl 251 _ rfl (w.heap.size+1) rfl 251 (gI (cz uX CJ 8)).toArray (0,0) _ b1 Qh rfl (QH _ hz) ?_)
    | (refine wpList_store_row rfl 251 _ _ rfl w.heap.size rfl (gI (cz uX CJ 8)).toArray rfl 251 _ b0 (QH _ hz) (by rw [hz];rfl) (Xr _) ?_))
   refine bodyPost_ret (results_cell_row rfl _ _ w.heap.size 251 (gI (cz uX CJ 8)).toArray (0,0) _ rfl (b0.row _) Qh rfl (QH _ hz)) rfl ⟨rfl,?_⟩;exact below_setRow be (aQ _) _
def awF:Own 147:=λ_ _=>by go_simp
def aw9:Own 143:=λ_ _=>by go_simp
def PT:Own 108:=λ_ _=>by go_simp
def D1:dr:=⟨cg.start[0]!,cg.start[1]!,cg.start[2]!,cg.start[3]!,cg.start[4]!,cg.start[5]!,cg.start[6]!,cg.start[7]!⟩
def agS:gH 32 D1:=by constructor<;>decide
def aBZ:D1.list=cg.start:=by decide
def gH.au8{o:dr}(h:gH 32 o):∀x∈o.list,x<4294967296:=by
 intro x hx;simp only [dr.list,bT,xG,or_false] at hx;rcases hx with rfl|rfl|rfl|rfl|rfl|rfl|rfl|rfl
 .exact h.a
 .exact h.b
 .exact h.c
 .exact h.d
 .exact h.e
 .exact h.f
 .exact h.g
 .exact h.h
def ax3:Own 145:=λ_ _=>by go_simp
instance aIV:dc GA:=⟨λ_ _ h hb=>h.below hb⟩
def aoA:cV GA 143 [] (one (.q (GO 8 D1.list))):=⟨aw9,Spec.pure (JK rfl) λw h=>by rw [aBZ];exact aoB w h⟩
def HQ:u7:=⟨cg,64,251,66,λo=>[.agg 8 (gI o.list).toArray],145⟩
def as8:HQ.aI where
 n64:=by decide
 n128:=by decide
 own:=ax3
 qn:=λ{gh gb o b} ho hb=>by refine bA (own:=HQ.R gh gb o b) [.c (.v (pQ gh)),.c (.v (pQ gb))] 5 func145 rfl λB=>?_;refine ef (gE rfl (Qp 0 rfl) (gE rfl (Qp 1 rfl) (cX (aDB ho hb) (λ_=>rfl) rfl λ_=>FD an 0 rfl rfl rfl rfl rfl rfl rfl (kz rfl ?_))));exact bE () rfl aD λ_ _=>trivial
def atJ{F:aE}{o:dr}(ho:gH 32 o):cV F 147 [GO 8 o.list] (one (.q (aw 32 (o.list.map (mb cg)).flatten))):=⟨awF,Spec.pure (cq (by rw [Lo (mb cg) λx=>Ii cg x];rfl)).1 λw _=>atK rfl (gH.au8 ho) w⟩
def aCC{P:aO}{cx:Nat}{ss:lU}(hn:ss.length<=9223372036854775807):cV (λw=>fV w/\Bt P cx ss w) 108 [.c (.v (.slice P ss.length cx))] (one (.q (aw 32 (gQ cg (ss.map cC.l).flatten)))):=⟨PT,by refine bA [.c (.v (.slice P ss.length cx))] 12 func108 rfl λB=>?_;refine ag rfl (ck λK hK=>cX ((aoA).imp λ_ h=>⟨h.1.cell,h.1.lt⟩) (λ_=>rfl) rfl λ_=>cR hK rfl (ck λK hK=>dP rfl (ah (rL 4 rfl (E':=[(0,.v (.slice P ss.length cx)),(2,.a 2 0),(3,.a 3 0)]) ⟨rfl,rfl,rfl,trivial⟩ λgb=>rL 3 rfl (E':=[(4,.v (pQ gb)),(0,.v (.slice P ss.length cx)),(2,.a 2 0)]) ⟨rfl,rfl,rfl,trivial⟩ λgh=>hK _ (ck λK hK=>b6 (.v (cj gb 64 64)) rfl (yg rfl AZ xb rfl) (aj rfl (b6 (.v (HQ.take gh gb)) rfl (VR (vals:=[pQ gh,pQ gb]) rfl rfl λ_=>rfl) ?_)))))));refine er (own:=HQ.R gh gb D1 (aB 64 0)) (R':=[]) [cj gb 64 64,.slice P ss.length cx,HQ.take gh gb] rfl (YA as8 agS nb hn) (λw h _=>⟨h.1.steps,h.2⟩) λb'=>?_;have hD:((gK cg 64 D1 ((ss.map cC.l).flatten++kh 64 ((ss.map cC.l).flatten.length%64) (8*(ss.map cC.l).flatten.length))).list.map (mb cg)).flatten=gQ cg (ss.map cC.l).flatten:=rfl;have hO:gH 32 (gK cg 64 D1 ((ss.map cC.l).flatten++kh 64 ((ss.map cC.l).flatten.length%64) (8*(ss.map cC.l).flatten.length))):=UU (s:=cg) _ _ _ (aQ _) agS;refine dz (HQ.R gh gb (gK cg 64 D1 ((ss.map cC.l).flatten++kh 64 ((ss.map cC.l).flatten.length%64) (8*(ss.map cC.l).flatten.length))) b'.1) rfl (cR hK rfl ?_);generalize gK cg 64 D1 ((ss.map cC.l).flatten++kh 64 ((ss.map cC.l).flatten.length%64) (8*(ss.map cC.l).flatten.length))=o at *;refine Bf 0 rfl (Bf 0 rfl (ck λK hK=>gE rfl (λ_ _ _ ab=>ab.fact.2.1) (cX (atJ hO) (λ_=>rfl) rfl λ_=>cR hK rfl (aJ ?_))));rw [hD];exact bE () rfl aD λ_ _=>trivial⟩
def Mr(A:aO)(ls:aX)(cx:Nat)(w:yp)(hT:fV w)(hA:xl w w.heap.size A ls)(Ol:ls.length<=cx)(Cc:cx<=9223372036854775807) :
  Calls prog 108 #[.slice A ls.length cx] w λe w'=>e = .returned (.agg (By (gQ cg ls.flatten)).toArray)/\Below w.heap.size w w':=by
 obtain⟨ss,rfl,h⟩:=VX ⟨Ol,Cc⟩ hA;rw [dL] at *;exact(aCC (by omega)).row ⟨hT,h⟩
def SX{k:ae}(v:Int)(hk:k.length=32):Spec 52 [.int .i64 v,.agg (By k).toArray] [] (λ_=>True) (FG (mu v k)):=by
 refine bA [.c (.v (.int .i64 v)),aw 32 k] 11 func52 rfl (ab:=dZ trivial (cq hk).1) λb=>aA rfl λK1 aS=>ah (rL 3 rfl (E':=[(0,.v (.int .i64 v)),(4,.v (.slice none 0 0))]) ⟨rfl,rfl,trivial⟩ λg=>aS _ (Bf 0 rfl (ao λK2 aM=>F8 4 [] (λ_ _ _ _ h=>by cases h) (vd an 0 rfl rfl rfl rfl (λ_ h=>by cases h) (vd an 1 rfl rfl rfl rfl (λ_ h=>by cases h) (yD (.v (cj g 32 32)) 3 rfl rfl rfl (yg rfl dp rfl rfl) (Bw 2 rfl λK3 bu=>ca 6 (mT v:Int) rfl (ahH v) (bY [.slice none ([]:ae).length 0,.int .u64 (mT v:Int)] (hf:=Iw) rfl (I2 [] (mT v) (Wr v) (by decide)) (λ_ _ _=>ar.nil _ _ _) λgc=>?_))))))));rw [lD];refine ah (bu _ (λ_ _ _ _ h=>by cases h) (Bx (me 8 (.v (cj g k.length 32)) rfl (by rw [hk]) (jC an b.B.heap.size [⟨some ⟨gc,0,none⟩,(br (mT v)).length,br (mT v)⟩,⟨some ⟨g,0,none⟩,32,k⟩] (fe:=kg) rfl rfl rfl (λ_=>rfl) rfl (Cz _) (aQ _) λP=>iU 0 rfl ?_))));have e0:(List.map cC.l [⟨some ⟨gc,0,none⟩,(br (mT v)).length,br (mT v)⟩,⟨some ⟨g,0,none⟩,32,k⟩]).flatten=mu v k:=by simp [mu]
 have hj:=HP (A:=P) (c:=2) [⟨some ⟨gc,0,none⟩,(br (mT v)).length,br (mT v)⟩,⟨some ⟨g,0,none⟩,32,k⟩] (by rw [e0,Ng hk];decide);rw [e0] at hj;refine bY [.slice P 2 2] (hf:=Is) rfl hj (λw h hM=>⟨h.1,λs hs=>by
  rcases bT.1 hs with rfl|hs
  .exact hM.1
  .rw [bU.1 hs];exact PK (n:=32) h.2.2.1 (cL rfl)⟩) λgb=>?_
 refine aj rfl (ah (aM _ ?_));exact aJ (bE gb rfl aD (λw h=>h.1))
def Z7{seed key:ae}(v:Int)(hs:seed.length=32)(hk:key.length=32):Spec 20 [.agg (By seed).toArray,.int .i64 v,.agg (By key).toArray] [] eI (one (.q (dT (uO seed v key)))):=by
 refine bA [aw 32 seed,.c (.v (.int .i64 v)),aw 32 key] 19 func20 rfl (ab:=uP (cq hs).1 (dZ trivial (cq hk).1)) λb=>ag rfl ?_;refine nw 6 λK hK G S w0 aa=>?_;refine dC aa rfl (wL (F':=λ_=>True) aa [.int .i64 v,.agg (By key).toArray] rfl rfl rfl rfl (λ_=>rfl) (SX v hk).fc aD λgb _=>wL (F':=λw=>eI w/\ar 1 aY (some ⟨gb,0,none⟩) (mu v key).length (mu v key) w) aa [.agg (By seed).toArray,.int .u8 1,cj gb (mu v key).length (mu v key).length] rfl rfl rfl rfl (λ_=>rfl) (aB4 1 hs (by rw [Ng hk];decide)) (λw hw hu=>⟨hw.fact,O8 (hu 3 _ rfl (by kernel_rfl))⟩) λ_ _=>apS (By (aB 64 0)).toArray rfl rfl rfl (by kernel_rfl) λg=>?_);have h64:=ae7 seed (msg 1 (mu v key));refine apU aa (ai:=[.agg 64 (By (aB 64 0)).toArray]) 7 5 [(12,.q (aw 64 (uJ seed (msg 1 (mu v key))))),(1,.v (.int .i64 v)),(3,.a 3 0),(5,.a 5 0),(6,.a 6 0)] rfl rfl ⟨rfl,rfl,rfl,rfl,rfl,trivial⟩ rfl rfl (cq nb).1 ?_;generalize qf:uJ seed (msg 1 (mu v key))=sg at *;refine aj rfl (ah (hK _ ?_));refine nw 6 λK2 aM G S w0 aa=>?_;have rH:=Vc seed;refine dC aa rfl (vp (F':=eI) (r:=.q (aw 32 (o8 seed))) aa [.agg (By seed).toArray] rfl rfl (how:=ad3) rfl rfl (λ_=>rfl) (cq rH).1 (ay0 hs) (λ_ _ _ ab=>ab.fact) ?_);generalize KD:o8 seed=pk at *;have hmk:uO seed v key=⟨pk,v,key,sg⟩:=by unfold uO;rw [KD,qf]
 refine dC aa rfl (jR aa (aj rfl (ah (aM _ ?_))));exact aJ (dk an () rfl rfl (by show cM.q (dT (uO seed v key))=_;rw [hmk];rfl) rfl aD au)
def TJ{u:UV}(hu:u.aI):Spec 21 [(dT u).den] [] eI (one (.q (.c (.b (eV u))))):=by
 refine bA [dT u] 23 func21 rfl (ab:=iG hu.ig) λb=>ag rfl ?_;refine nw 20 λK hK G S w0 aa=>?_;refine dC aa rfl ?_;have su:eV u=false->cl b (bodyPost prog Tryz.f21 (tk b (one (.q (.c (.b (eV u)))))) .ret) 23 ⟨[(2,.v (.bool false))],[],[],eI,λ_=>True⟩:=λh=>x8 an () rfl rfl (congrArg oE h) trivial rfl aD au;by_cases h1:1<=u.ver
 .refine qO 6 true rfl (decide_eq_true h1) ?_
  refine dC aa rfl ?_;by_cases h2:u.ver<=64
  .have qV:eV u=w6 u.id u.sig (msg 1 (mu u.ver u.key)):=by unfold eV;rw [decide_eq_true ⟨h1,h2⟩,Bool.true_and]
   refine qO 11 true rfl (decide_eq_true h2) (dC aa rfl (wL (F':=λ_=>True) aa [.int .i64 u.ver,.agg (By u.key).toArray] rfl rfl rfl rfl (λ_=>rfl) (SX u.ver hu.key).fc aD λgb _=>dC aa rfl (wL (F':=λw=>eI w/\ar 1 aY (some ⟨gb,0,none⟩) (mu u.ver u.key).length (mu u.ver u.key) w) aa [.agg (By u.id).toArray,.int .u8 1,cj gb (mu u.ver u.key).length (mu u.ver u.key).length,.agg (By u.sig).toArray] rfl rfl rfl rfl (λ_=>rfl) (ax9 1 hu.id hu.sig (by rw [Ng hu.key];decide)) (λw hw hx=>⟨hw.fact,O8 (hx 15 _ rfl (by kernel_rfl))⟩) λ_ _=>dC aa rfl (jR aa (aj rfl (ah (hK _ ?_)))))));exact aJ (x8 an () rfl rfl (congrArg oE qV) trivial rfl aD au)
  .have qV:eV u=false:=by unfold eV;rw [decide_eq_false (λh=>h2 h.2),Bool.false_and]
   refine qO 11 false rfl (decide_eq_false h2) (dC aa rfl (jR aa (aj rfl ?_)));exact ah (hK _ (aJ (ft (e':=⟨[(2,.v (.bool false))],[],[],eI,λ_=>True⟩) ⟨⟨rfl,trivial⟩,trivial,.refl _,λ_ h _=>h,λ_ h=>h⟩ (su qV))))
 .have qV:eV u=false:=by unfold eV;rw [decide_eq_false (λh=>h1 h.1),Bool.false_and]
  refine qO 6 false rfl (decide_eq_false h1) (dC aa rfl (jR aa (aj rfl ?_)));exact ah (hK _ (aJ (ft (e':=⟨[(2,.v (.bool false))],[],[],eI,λ_=>True⟩) ⟨⟨rfl,trivial⟩,trivial,.refl _,λ_ h _=>h,λ_ h=>h⟩ (su qV))))
def Wb{A:aO}{ls:aX}{w:yp}(n:Nat)(hn:ls.length=n)(hm:n<=9223372036854775807)(hT:eI w)(h:lX w A ls) :
  Calls prog 108 #[.slice A n n] w λe w'=>e = .returned (.agg (By (gQ cg ls.flatten)).toArray)/\Below w.heap.size w w':=by
 subst hn;exact Mr A ls _ w hT.2 h (aQ _) hm
def axQ{ks:aX}{A:aO}{c:Nat}{w:yp}(h:ar 32 (aw 32) A c ks w){i:Nat}{x:ae}(hx:ks[i]?=some x):x.length=32:=Nw (h.2.2.2.1 x (eg hx)).1
def Wc{A:aO}{ls:aX}{w:yp}(n:Nat)(hn:ls.length=n)(hm:n<=9223372036854775807)(hl:ls.flatten.length<=70368744177664)(h:lX w A ls) :
  Calls prog 91 #[.slice A n n] w λe w'=>e = .returned (.agg (By (gQ cg ls.flatten)).toArray)/\Below w.heap.size w w':=by
 subst hn;exact VJ A ls _ ⟨aQ _,hm⟩ hl w h
def TX{A:aO}{c:Nat}(ks:aX):Spec 72 [.slice A ks.length c] [] (λw=>eI w/\ar 32 (aw 32) A c ks w) (one (.q (aw 32 (jF ks)))):=by
 refine bA [.c (.v (.slice A ks.length c))] 26 func72 rfl λb=>?_;refine lQ ((∀x∈ks,x.length=32)/\ks.length<=9223372036854775807) (λw h _=>⟨λx hx=>Nw (h.2.2.2.2.1 x hx).1,fo h.2.1 h.2.2.1⟩) λ⟨fl,hm⟩=>?_;refine ag rfl (ag rfl (ao λK hK=>ag rfl (a8 ?_)));let F:Nat->Env:=λi=>⟨[(8,.aT i),(7,.aT ks.length),(6,.v (.slice A ks.length c)),(0,.v (.slice A ks.length c)),(3,.a 3 0),(2,.a 2 0)],[⟨3,none,47,[.agg 32 (By (sd (ks.take i))).toArray]⟩,⟨2,none,47,[.agg 32 (By MO).toArray]⟩],[],λw=>eI w/\ar 32 (aw 32) A c ks w,λ_=>True⟩;refine cI (e':=F 0) (fC rfl rfl rfl λ_ h _=>h) (cY (λi=>ks.length-i) F (λi=>i<=ks.length) ?_ 0 (bl _));intro i hi;refine ag rfl (ao λK3 bu=>?_);refine bn ((i:Int)<(ks.length:Int)) rfl (λal=>?_) (λcW=>?_)
 .have al:i<ks.length:=by omega
  obtain⟨x,hx⟩:∃x,ks[i]?=some x:=⟨_,da al⟩;have lI:=fl x (eg hx);have jS:=Np (ks.take i);have hn:=X4 hx;refine aR (bu _ (ao λK4 bW=>a8 (aA rfl λK5 bN=>jh an rfl rfl rfl i rfl hx rfl rfl (dX λ_ h _=>h.2) (aj rfl (ah (bN _ ?_))))));generalize sd (ks.take i)=d at *;have fI:(Dz d x).length=32:=yG _;have yZ:Dz d x=gQ cg ([[3],d,x]:aX).flatten:=rfl;obtain⟨d2,he⟩:∃d2,Dz d x=d2:=⟨_,rfl⟩;rw [he] at hn fI yZ;refine ag0 5 λG S w0 aa=>G2 an [(3:UInt8)] rfl rfl rfl rfl (λ_=>rfl) rfl λB=>ni aa (.s 3 0 32 32) rfl rfl (nv rfl dp rfl rfl) (ni aa (.s 5 0 32 32) rfl rfl (nv rfl dp rfl rfl) ?_);refine Dc [cj B 1 1,(aq.s 3 0 32 32).den G,(aq.s 5 0 32 32).den G] [[3],d,x] aa rfl rfl rfl rfl rfl (by decide) (by decide) (λw hw hu=>?_) λA2=>?_
  .have h2:ar 1 aY (some ⟨B,0,none⟩) 1 [3] w:=hu 0 _ rfl (by kernel_rfl);exact⟨h2.dw,sW (j:=3) rfl jS (by decide) G S w hw,sW (j:=5) rfl lI (by decide) G S w hw,trivial⟩
  refine EB (r:=.q (aw 32 d2)) aa [cj A2 3 3] rfl rfl PT rfl rfl (λ_=>rfl) (cq fI).1 (λw hw hu=>?_) ?_
  .have hA:lX w (some ⟨A2,0,none⟩) [[3],d,x]:=hu 3 _ rfl (by kernel_rfl);have dU:=Wb 3 rfl (by decide) hw.fact.1 hA;rw [<-yZ] at dU;exact dU
  refine dC aa rfl (jR aa (aj rfl (ah (bW _ (cE rfl ?_)))));exact cH (i+1) al (by show _-(i+1)<_-i;omega) ⟨⟨pC (by omega) (by omega),rfl,rfl,rfl,rfl,rfl,trivial⟩,⟨by show BL _ 3=some ⟨3,none,47,[.agg 32 (By (sd (ks.take (i+1)))).toArray]⟩;rw [hn];rfl,rfl,rfl,rfl,trivial⟩,.refl _,λ_ h _=>h,λ_ h=>h⟩
 .obtain rfl:ks.length=i:=by omega
  have jS:=Np ks;have sE:(jF ks).length=32:=yG _;have E9:jF ks=gQ cg ([[2],br ks.length,sd ks]:aX).flatten:=rfl;have yS:=nQ ks.length;refine cG (a6 (a6 (cF (hK _ ?_))));rw [kW];generalize sd ks=d at *;obtain⟨v2,tz⟩:∃v2,jF ks=v2:=⟨_,rfl⟩;rw [tz] at sE E9;refine ao λK5 bN=>F8 6 [] (λ_ _ _ _ h=>by cases h) (vd an 1 rfl rfl rfl rfl (λ_ h=>by cases h) (vd an 2 rfl rfl rfl rfl (λ_ h=>by cases h) (vd an 3 rfl rfl rfl rfl (λ_ h=>by cases h) (yD (.s 3 0 32 32) 5 rfl rfl rfl (nv rfl dp rfl rfl) ?_))));refine Xu 0 4 rfl rfl (λK6 cr=>?_) (λK6 cr=>?_)
  .refine jC an b.B.heap.size [(2:UInt8)] rfl rfl rfl (λ_=>rfl) rfl (mK _) (aQ _) λB=>?_
   refine ah (cr _ (λ_ _ _ _ h=>by cases h) (Bw 4 rfl λK7 df=>ca 21 (ks.length:Int) rfl (zN rfl (by omega) (by omega)) (bY [.slice none ([]:ae).length 0,.int .u64 (ks.length:Int)] (hf:=Iw) rfl (I2 (A:=none) (c:=0) [] ks.length (by omega) (by decide)) (λ_ _ _=>ar.nil _ _ _) λgb=>?_)));rw [lD];refine ah (df _ (λ_ _ _ _ h=>by cases h) (Bx ?_));refine FC an [.v (.slice B 1 1),.v (cj gb (br ks.length).length (br ks.length).length),.s 3 0 32 32] [[2],br ks.length,d] v2 rfl rfl rfl rfl rfl rfl rfl rfl rfl PT (λ_=>rfl) rfl (by decide) (by decide) sE (λA w h hF hM=>?_) (λG S w h=>?_) λB2=>?_
   .have dU:=Wb 3 rfl (by decide) hF.2.1 h;rw [<-E9] at dU;exact dU
   .have h1:ar 1 aY B 1 [2] w:=fu 0 rfl G S w h;exact⟨h1.dw,h.fresh.1.dw,sW (j:=3) rfl jS (by decide) G S w h,trivial⟩
   refine aj rfl (ah (bN _ (mQ 0 rfl ?_)));exact aJ (dk an () rfl rfl (congrArg (λz=>cM.q (aw 32 z)) tz) rfl aD au)
  .refine ca 21 (ks.length:Int) rfl (zN rfl (by omega) (by omega)) ?_
   refine bY [.slice none ([]:ae).length 0,.int .u64 (ks.length:Int)] (hf:=Iw) rfl (I2 (A:=none) (c:=0) [] ks.length (by omega) (by decide)) (λ_ _ _=>ar.nil _ _ _) λgb=>?_;rw [lD];refine ah (cr _ (λ_ _ _ _ h=>by cases h) (Bw 0 rfl λK7 df=>jC an b.B.heap.size [(2:UInt8)] rfl rfl rfl (λ_=>rfl) rfl (mK _) (aQ _) λB=>ah (df _ (λ_ _ _ _ h=>by cases h) (Bx ?_))));refine FC an [.v (.slice B 1 1),.v (cj gb (br ks.length).length (br ks.length).length),.s 3 0 32 32] [[2],br ks.length,d] v2 rfl rfl rfl rfl rfl rfl rfl rfl rfl PT (λ_=>rfl) rfl (by decide) (by decide) sE (λA w h hF hM=>?_) (λG S w h=>?_) λB2=>?_
   .have dU:=Wb 3 rfl (by decide) hF.2.1 h;rw [<-E9] at dU;exact dU
   .have h1:ar 1 aY B 1 [2] w:=fu 0 rfl G S w h;exact⟨h1.dw,h.fresh.1.dw,sW (j:=3) rfl jS (by decide) G S w h,trivial⟩
   refine aj rfl (ah (bN _ (mQ 0 rfl ?_)));exact aJ (dk an () rfl rfl (congrArg (λz=>cM.q (aw 32 z)) tz) rfl aD au)
def aAM{A:aO}{c:Nat}(ks:aX):Spec 49 [.slice A ks.length c] [] (ar 32 (aw 32) A c ks) (one (.q (aw 32 (jF ks)))):=by
 refine bA [.c (.v (.slice A ks.length c))] 27 func49 rfl λb=>?_;refine lQ ((∀x∈ks,x.length=32)/\ks.length<=9223372036854775807) (λw h _=>⟨λx hx=>Nw (h.2.2.2.1 x hx).1,fo h.1 h.2.1⟩) λ⟨fl,hm⟩=>?_;refine ag rfl (ag rfl (ao λK hK=>ag rfl (a8 ?_)));let F:Nat->Env:=λi=>⟨[(9,.aT i),(8,.aT ks.length),(7,.v (.slice A ks.length c)),(0,.v (.slice A ks.length c)),(3,.a 3 0),(2,.a 2 0)],[⟨3,none,47,[.agg 32 (By (sd (ks.take i))).toArray]⟩,⟨2,none,47,[.agg 32 (By MO).toArray]⟩],[],λw=>ar 32 (aw 32) A c ks w,λ_=>True⟩;refine cI (e':=F 0) (fC rfl rfl rfl λ_ h _=>h) (cY (λi=>ks.length-i) F (λi=>i<=ks.length) ?_ 0 (bl _));intro i hi;refine ag rfl (ao λK3 bu=>?_);refine bn ((i:Int)<(ks.length:Int)) rfl (λal=>?_) (λcW=>?_)
 .have al:i<ks.length:=by omega
  obtain⟨x,hx⟩:∃x,ks[i]?=some x:=⟨_,da al⟩;have lI:=fl x (eg hx);have jS:=Np (ks.take i);have hn:=X4 hx;refine aR (bu _ (ao λK4 bW=>a8 (aA rfl λK5 bN=>jh an rfl rfl rfl i rfl hx rfl rfl (dX λ_ h _=>h) (aj rfl (ah (bN _ ?_))))));generalize sd (ks.take i)=d at *;have fI:(Dz d x).length=32:=yG _;have yZ:Dz d x=gQ cg ([[3],d,x]:aX).flatten:=rfl;obtain⟨d2,he⟩:∃d2,Dz d x=d2:=⟨_,rfl⟩;rw [he] at hn fI yZ;refine ag0 5 λG S w0 aa=>G2 an [(3:UInt8)] rfl rfl rfl rfl (λ_=>rfl) rfl λB=>ni aa (.s 3 0 32 32) rfl rfl (nv rfl dp rfl rfl) (ni aa (.s 5 0 32 32) rfl rfl (nv rfl dp rfl rfl) ?_);refine Dc [cj B 1 1,(aq.s 3 0 32 32).den G,(aq.s 5 0 32 32).den G] [[3],d,x] aa rfl rfl rfl rfl rfl (by decide) (by decide) (λw hw hu=>?_) λA2=>?_
  .have h2:ar 1 aY (some ⟨B,0,none⟩) 1 [3] w:=hu 0 _ rfl (by kernel_rfl);exact⟨h2.dw,sW (j:=3) rfl jS (by decide) G S w hw,sW (j:=5) rfl lI (by decide) G S w hw,trivial⟩
  refine EB (r:=.q (aw 32 d2)) aa [cj A2 3 3] rfl rfl (λ_ _=>by go_simp) rfl rfl (λ_=>rfl) (cq fI).1 (λw hw hu=>?_) ?_
  .have hA:lX w (some ⟨A2,0,none⟩) [[3],d,x]:=hu 3 _ rfl (by kernel_rfl);have dU:=Wc 3 rfl (by decide) (by simp [jS,lI]) hA;rw [<-yZ] at dU;exact dU
  refine dC aa rfl (jR aa (aj rfl (ah (bW _ (cE rfl ?_)))));exact cH (i+1) al (by show _-(i+1)<_-i;omega) ⟨⟨pC (by omega) (by omega),rfl,rfl,rfl,rfl,rfl,trivial⟩,⟨by show BL _ 3=some ⟨3,none,47,[.agg 32 (By (sd (ks.take (i+1)))).toArray]⟩;rw [hn];rfl,rfl,rfl,rfl,trivial⟩,.refl _,λ_ h _=>h,λ_ h=>h⟩
 .obtain rfl:ks.length=i:=by omega
  have jS:=Np ks;have sE:(jF ks).length=32:=yG _;have E9:jF ks=gQ cg ([[2],br ks.length,sd ks]:aX).flatten:=rfl;have yS:=nQ ks.length;refine cG (a6 (a6 (cF (hK _ ?_))));rw [kW];generalize sd ks=d at *;obtain⟨v2,tz⟩:∃v2,jF ks=v2:=⟨_,rfl⟩;rw [tz] at sE E9;refine ao λK5 bN=>F8 6 [] (λ_ _ _ _ h=>by cases h) (vd an 1 rfl rfl rfl rfl (λ_ h=>by cases h) (vd an 2 rfl rfl rfl rfl (λ_ h=>by cases h) (vd an 3 rfl rfl rfl rfl (λ_ h=>by cases h) (yD (.s 3 0 32 32) 5 rfl rfl rfl (nv rfl dp rfl rfl) ?_))));refine Xu 0 4 rfl rfl (λK6 cr=>?_) (λK6 cr=>?_)
  .refine jC an b.B.heap.size [(2:UInt8)] rfl rfl rfl (λ_=>rfl) rfl (mK _) (aQ _) λB=>?_
   refine ah (cr _ (λ_ _ _ _ h=>by cases h) (Bw 4 rfl λK7 df=>ca 22 (ks.length:Int) rfl (zN rfl (by omega) (by omega)) (bY [.int .u64 (ks.length:Int)] (hf:=It) rfl (Mb ks.length (by omega)) aD λgb=>ah (df _ (λ_ _ _ _ h=>by cases h) (Bx ?_)))));refine FC an [.v (.slice B 1 1),.v (cj gb (br ks.length).length (br ks.length).length),.s 3 0 32 32] [[2],br ks.length,d] v2 rfl rfl rfl rfl rfl rfl rfl rfl rfl (λ_ _=>by go_simp) (λ_=>rfl) rfl (by decide) (by decide) sE (λA w h hF hM=>?_) (λG S w h=>?_) λB2=>?_
   .have dU:=Wc 3 rfl (by decide) (by simp [jS,yS]) h;rw [<-E9] at dU;exact dU
   .have h1:ar 1 aY B 1 [2] w:=fu 0 rfl G S w h;exact⟨h1.dw,h.fresh.1.dw,sW (j:=3) rfl jS (by decide) G S w h,trivial⟩
   refine aj rfl (ah (bN _ (mQ 0 rfl ?_)));exact aJ (dk an () rfl rfl (congrArg (λz=>cM.q (aw 32 z)) tz) rfl aD au)
  .refine ca 22 (ks.length:Int) rfl (zN rfl (by omega) (by omega)) ?_
   refine bY [.int .u64 (ks.length:Int)] (hf:=It) rfl (Mb ks.length (by omega)) aD λgb=>ah (cr _ (λ_ _ _ _ h=>by cases h) (Bw 0 rfl λK7 df=>jC an b.B.heap.size [(2:UInt8)] rfl rfl rfl (λ_=>rfl) rfl (mK _) (aQ _) λB=>ah (df _ (λ_ _ _ _ h=>by cases h) (Bx ?_))));refine FC an [.v (.slice B 1 1),.v (cj gb (br ks.length).length (br ks.length).length),.s 3 0 32 32] [[2],br ks.length,d] v2 rfl rfl rfl rfl rfl rfl rfl rfl rfl (λ_ _=>by go_simp) (λ_=>rfl) rfl (by decide) (by decide) sE (λA w h hF hM=>?_) (λG S w h=>?_) λB2=>?_
   .have dU:=Wc 3 rfl (by decide) (by simp [jS,yS]) h;rw [<-E9] at dU;exact dU
   .have h1:ar 1 aY B 1 [2] w:=fu 0 rfl G S w h;exact⟨h1.dw,h.fresh.1.dw,sW (j:=3) rfl jS (by decide) G S w h,trivial⟩
   refine aj rfl (ah (bN _ (mQ 0 rfl ?_)));exact aJ (dk an () rfl rfl (congrArg (λz=>cM.q (aw 32 z)) tz) rfl aD au)
section
variable{α:Type}{fe:α->aL}{T:eG}{b:bO}{ops:aZ}{Q:bK}{N:Nat}{E:aG}{L:aH}{R:bF}{F M:aE}{o:Oper}{rest:aN}{k e sz bs:Nat}{t tn:TypeId}{x y:Operand}{K kn:IntKind}
def at0(hT:fh prog T)(lo n:Nat)(fe:α->aL)(hq:di o k N)(ho:o.op = .call { callee:=.builtin .append,args:=#[x,y],argTypes:=#[t,tn] })(hs:uU T t=some (e,sz,bs))(TR:prog.underlying tn=some (.int kn))
 (hx:aP E x=some (.v (.slice none 0 0)))(hy:aP E y=some (.v (.int K (n:Int))))(h0:0<n)(gT:0<sz)(hb:n*bs<=281474976710656)(hm:n<=9223372036854775807)(nj:lo<=b.B.heap.size)
 (hc:∀g c,n<=c->a9 prog b ops Q N rest ⟨(k,.v (cj g n c))::E,L,bL lo e sz fe (some ⟨g,0,none⟩) c []::R,F,M⟩):a9 prog b ops Q N (o::rest) ⟨E,L,R,F,M⟩:=λa w ⟨G,S,h1,h2,h3⟩=>by
 obtain⟨ht,ie,z,hi,hz,aIL,vq,tA,_⟩:=Bi hT hs;have e1:=h1.eval (bH hx);have e2:=h1.eval (bH hy);have hr:=Lib.run_append_nil_zeros (P:=prog) w t tn o.type e ie z K kn ht TR hi hz n h0 (by omega) (by omega) (by rw [vq];exact hb)
 refine nA (v:=.slice (some ⟨w.heap.size,0,none⟩) n (grownCap w n 0 e)) (lr (eB hq)) (by unfold execOp;simp only [ho,resolve,invoke,builtin,bI,bM,bS,List.map_toArray,List.map_cons,List.map_nil,e1,e2];show((Builtin.append_ #[t,tn] o.type #[.slice none 0 0,.int K (n:Int)]).run prog w).andThen _=_;rw [hr];rfl) ?_
 rw [(eC hq)];have cW:=grownCap_ge w n 0 e;have hle:=grownCap_le_maxLen w n 0 e (by unfold maxLen;omega);generalize grownCap w n 0 e=c at *
 have dN:(kH z.cells n++kH z.cells (c-n)).size=c*sz:=by simp only [Array.size_append,size_zeroCells,tA,<-Nat.add_mul];rw [show n+(c-n)=c by omega]
 generalize kH z.cells n++kH z.cells (c-n)=cs at *
 have mD:(bL lo e sz fe (some ⟨w.heap.size,0,none⟩) c []).holds (w.drew.alloc (.cells cs e)) λj=>j=w.heap.size:=by
  have hb:bB (w.drew.alloc (.cells cs e)) w.heap.size e cs:=bB.new w.drew _ _;have aqI:lo<=w.heap.size:=fo nj h3.chg.size;have h5:cs.toList.take (0*sz)=[]:=by rw [Nat.zero_mul];rfl
  have h6:(de fe ([]:List α)).length=0*sz:=by rw [Nat.zero_mul];rfl
  exact⟨λ_ h=>(by cases h),⟨h6,.inr ⟨w.heap.size,c,cs,rfl,aqI,hb,bl _,hle,dN,h5⟩⟩,λj=>⟨λh=>(by rw [h];rfl),λh=>(jm h).symm⟩⟩
 obtain⟨S',h4⟩:=h3.xI (((Below.refl w.heap.size w).drew).alloc (aQ _) _) mD (λj hj=>vF hj.symm);exact hc _ _ cW _ _ ⟨G,S',h1.put (dQ hq) _,h2.cons trivial,h4⟩
end
def afE{N:Nat}{E:aG}{o:Oper}{x:Operand}{t:TypeId}{A:aO}{n c:Nat}(ho:o.op = .call { callee:=.builtin .cap,args:=#[x],argTypes:=#[t] })(ht:∃e,prog.underlying t=some (.slice e))(hx:aP E x=some (.v (.slice A n c))) :
  ∀(G:aK) (a:Act) (w:yp),Fr N (bG G E) a->(execOp a.eval o).run prog w = .ok (.value ((aq.v (.int .i64 (c:Int))).den G)) w:=λG a w ha=>by
 have h1:a.eval x = .slice A n c:=ha.eval (bH hx);obtain⟨e,ht⟩:=ht
 unfold execOp
 simp only [ho];generalize a.eval=ρ at *
 show _=pE (oO (.int .i64 (c:Int))) w
 simp [resolve,invoke,builtin,h1,bI,run_underlying ht,Builtin.cap_,goInt]
abbrev ly:=aO×Nat
def vJ:=@underlying38
def LY:=@underlying3
def ap8(n:Nat)(h0:0<n)(hn:n<=1000000):Spec 106 [.slice none 0 0,.int .i64 (n:Int)] [] (λ_=>True) { ret:=λx:ly=>.v (.slice x.1 0 x.2),own:=λx=>[bL 0 47 32 (aw 32) x.1 x.2 []] }:=by refine bA [.c (.v (.slice none 0 0)),.c (.v (.int .i64 (n:Int)))] 27 func106 rfl λb=>?_;refine ag rfl (ao λK1 aS=>ag rfl (bn ((n:Int)<0) rfl (λh=>absurd h (by omega)) (λ_=>aR (aS _ (ao λK2 aM=>aA rfl λK3 bu=>b6 (.v (.int .i64 ((0:Nat):Int))) rfl (afE rfl ⟨_,vJ⟩ rfl) (aj rfl (ca 1 (n:Int) rfl (jv (by show(n:Int)-IntKind.i64.wrap (0-0)=n;rw [jv (r:=0) (by decide) (by decide) (by decide)];omega) (by omega) (by omega)) (ah (bu _ (ag rfl ?_))))))))));refine bn ((n:Int)>0) rfl (λ_=>?_) (λh=>absurd h (by omega));refine ef (aj rfl (b6 (.v (.int .i64 ((0:Nat):Int))) rfl (afE rfl ⟨_,vJ⟩ rfl) (b6 (.v (.slice none 0 0)) rfl (Me (A:=none) (n:=0) (c:=0) (j:=0) (sz:=32) rfl (aQ _) (λ_=>rfl) rfl vJ rfl rfl) (aj rfl (at0 an 0 n (aw 32) rfl rfl rfl LY rfl rfl h0 (by decide) (by show n*32<=_;omega) (by omega) (bl _) λg c hc=>aj rfl (b6 (.v (cj g 0 c)) rfl (Me (A:=some ⟨g,0,none⟩) (n:=n) (c:=c) (j:=0) (sz:=32) rfl (bl _) (λh=>by cases h) rfl vJ rfl rfl) (aj rfl (ah (aM _ (ag rfl ?_))))))))));exact aJ (bE (some ⟨g,0,none⟩,c) rfl aD au)
structure fv where
  A:aO
  c:Nat
  l:aX
def se(s:fv):aL:=.c (.v (.slice s.A s.l.length s.c))
def fv.rd(s:fv)(w:yp):Prop:=ar 32 (aw 32) s.A s.c s.l w
instance{s:fv}:dc s.rd:=⟨λ_ _ h hb=>h.later hb⟩
def anD(s:fv):ch (se s).fA/\(se s).cp.length=1:=⟨λp hp=>by simp only [se,aL.fA,bU] at hp;subst hp;exact⟨trivial,rfl,rfl⟩,rfl⟩
abbrev oY(ss:List fv):aX:=(ss.map fv.l).flatten
def YL{ss:List fv}{i:Nat}{s:fv}(h:ss[i]?=some s):oY (ss.take (i+1))=oY (ss.take i)++s.l:=by unfold oY;rw [List.take_add_one,h];simp
def YK(ss:List fv)(i:Nat):(oY (ss.take i)).length<=(oY ss).length:=by
 have e:oY ss=oY (ss.take i)++oY (ss.drop i):=by unfold oY;rw [<-List.flatten_append,<-jl,oN]
 rw [e,aV];omega
def amM{A:aO}{c:Nat}(ss:List fv)(h0:0<(oY ss).length)(ht:(oY ss).length<=1000000):Spec 69 [.slice A ss.length c] [] (λw=>ar 1 se A c ss w/\∀s∈ss,s.rd w)
  { ret:=λx:ly=>.v (.slice x.1 (oY ss).length x.2),own:=λx=>[bL 0 47 32 (aw 32) x.1 x.2 (oY ss)] }:=by
 refine bA [.c (.v (.slice A ss.length c))] 36 func69 rfl λb=>?_;refine lQ (ss.length<=9223372036854775807) (λw h _=>fo h.1.1 h.1.2.1) λhm=>?_;refine ag rfl (ag rfl (ao λK1 aS=>ag rfl (a8 ?_)))
 let F:Nat->Env:=λi=>⟨[(11,.aT i),(10,.aT ss.length),(9,.v (.slice A ss.length c)),(0,.v (.slice A ss.length c)),(3,.aT ((oY (ss.take i)).length))],[],[],λw=>ar 1 se A c ss w/\∀s∈ss,s.rd w,λ_=>True⟩
 refine cI (e':=F 0) (fC rfl rfl rfl λ_ h _=>h) (cY (λi=>ss.length-i) F (λi=>i<=ss.length) ?_ 0 (bl _))
 .intro i hi
  refine ag rfl (ao λK3 bu=>?_);refine bn ((i:Int)<(ss.length:Int)) rfl (λal=>?_) (λcW=>?_)
  .have al:i<ss.length:=by omega
   obtain⟨s,hs⟩:∃s,ss[i]?=some s:=⟨_,da al⟩;have hn:=YL hs;have hle:=YK ss (i+1);have Ar:=congrArg jQ hn;rw [aV] at Ar;refine aR (bu _ (ao λK4 bW=>a8 (aA rfl λK5 bN=>jh an rfl rfl rfl i rfl hs rfl rfl (dX λ_ h _=>h.1) (aj rfl (ah (bN _ (aA rfl λK6 cr=>ca 3 ((oY (ss.take (i+1))).length:Int) rfl (jv (by omega) (by omega) (by omega)) (ah (cr _ (ag rfl (bn (((oY (ss.take (i+1))).length:Int)<0) rfl (λh=>absurd h (by omega)) (λ_=>aR (bW _ (cE rfl ?_))))))))))))));exact cH (i+1) al (by show _-(i+1)<_-i;omega) ⟨⟨pC (by omega) (by omega),rfl,rfl,rfl,rfl,trivial⟩,trivial,.refl _,λ_ h _=>h,λ_ h=>h⟩
  .obtain rfl:ss.length=i:=by omega
   refine cG (a6 (a6 (cF (aS _ ?_))));rw [kW];refine aA rfl λK5 bN=>bY [.slice none 0 0,.int .i64 ((oY ss).length:Int)] rfl (ap8 (oY ss).length h0 ht) aD λ⟨B,d⟩=>dz [bL 0 47 32 (aw 32) B d []] rfl (aj rfl (ah (bN _ (ao λK7 df=>ag rfl (a8 ?_)))));let F2:Nat×ly->Env:=λ⟨i,B,d⟩=>⟨[(27,.aT i),(26,.aT ss.length),(25,.v (.slice A ss.length c)),(6,.v (.slice B (oY (ss.take i)).length d))],[],[bL 0 47 32 (aw 32) B d (oY (ss.take i))],λw=>ar 1 se A c ss w/\∀s∈ss,s.rd w,λ_=>True⟩;refine cI (e':=F2 (0,B,d)) (fC rfl rfl rfl λ_ h _=>h.2) (cY (λx=>ss.length-x.1) F2 (λx=>x.1<=ss.length) ?_ (0,B,d) (bl _));rintro⟨i,B,d⟩ hi;dsimp only at hi;refine ag rfl (ao λK3 bu=>?_);refine bn ((i:Int)<(ss.length:Int)) rfl (λal=>?_) (λcW=>?_)
   .have al:i<ss.length:=by omega
    obtain⟨s,hs⟩:∃s,ss[i]?=some s:=⟨_,da al⟩;have hn:=YL hs;have hle:=YK ss (i+1);have Ar:=congrArg jQ hn;rw [aV] at Ar;refine aR (bu _ (ao λK4 bW=>a8 (aA rfl λK5 bN=>jh an rfl rfl rfl i rfl hs rfl rfl (dX λ_ h _=>h.1) (aj rfl (ah (bN _ (ef (aj rfl (mc an 0 s.l (fe:=aw 32) rfl rfl rfl rfl rfl rfl rfl (dX λw h _=>h.2 s (eg hs)) (by show(_+_)*32<=_;omega) (by omega) (bl _) λB' d'=>?_)))))))));rw [<-hn];refine aj rfl (ah (bW _ (cE rfl ?_)));exact cH (i+1,B',d') al (by show _-(i+1)<_-i;omega) ⟨⟨pC (by omega) (by omega),rfl,rfl,rfl,trivial⟩,trivial,.refl _,λ_ h _=>h,λ_ h=>h⟩
   .obtain rfl:ss.length=i:=by omega
    refine cG (a6 (a6 (cF (df _ ?_))));rw [kW];refine ag rfl ?_;exact aJ (bE (B,d) rfl aD au)
noncomputable def q9(ks:aX)(u:UV):Nat:=if eV u=true then(if u.ver=(ks.length:Int)+1 then 0 else 111) else 110
noncomputable def rf(ks:aX)(u:UV):aX:=if q9 ks u=0 then ks++[u.key] else []
abbrev nxQ(l:aX)(e:Nat):fm ly:={ ret:=λx=>.t [.c (.v (.slice x.1 l.length x.2)),.c (.v (.int .i64 (e:Int)))],p:=λx=>ar 32 (aw 32) x.1 x.2 l }
noncomputable abbrev nxP(ks:aX)(u:UV):fm ly:=nxQ (rf ks u) (q9 ks u)
def aqR{A:aO}{c:Nat}(ks:aX){u:UV}(hu:u.aI)(hl:ks.length<=1000):Spec 33 [.slice A ks.length c,(dT u).den] [] (λw=>eI w/\ar 32 (aw 32) A c ks w) (nxP ks u):=by
 refine bA [.c (.v (.slice A ks.length c)),dT u] 21 func33 rfl (ab:=dZ trivial hu.ig) λb=>ag rfl (ao λK1 aS=>aA rfl λK2 aM=>bY [(dT u).den] rfl (TJ hu) (λ_ h _=>h.1) λ_=>aj rfl (ah (aM _ ?_)));obtain⟨dw,qV⟩:∃dw,eV u=dw:=⟨_,rfl⟩;rw [qV];refine pD (!dw) rfl (λh=>?_) (λh=>?_)
 .have h1:q9 ks u=110:=by unfold q9;rw [if_neg (by rw [qV];simpa using h)]
  have h2:rf ks u=[]:=by unfold rf;rw [h1];rfl
  refine ag rfl ?_;exact aJ (dk an (none,0) rfl rfl (by show cM.t [.c (.v (.slice none (rf ks u).length 0)),.c (.v (.int .i64 (q9 ks u:Int)))]=_;rw [h1,h2];rfl) rfl (λw _ _=>by show ar 32 (aw 32) none 0 (rf ks u) w;rw [h2];exact ar.nil _ _ _) au)
 have aa:dw=true:=by simpa using h
 refine aR (aS _ (ao λK3 bu=>aA rfl λK4 bW=>ah (bW _ ?_)));have hw:IntKind.i64.wrap ((ks.length:Int)+1)=(ks.length:Int)+1:=jv rfl (by omega) (by omega);refine bn (u.ver≠IntKind.i64.wrap ((ks.length:Int)+1)) rfl (λh=>?_) (λh=>?_)
 .have h1:q9 ks u=111:=by unfold q9;rw [if_pos (by rw [qV];exact aa),if_neg (by rw [hw] at h;exact h)]
  have h2:rf ks u=[]:=by unfold rf;rw [h1];rfl
  refine ag rfl ?_;exact aJ (dk an (none,0) rfl rfl (by show cM.t [.c (.v (.slice none (rf ks u).length 0)),.c (.v (.int .i64 (q9 ks u:Int)))]=_;rw [h1,h2];rfl) rfl (λw _ _=>by show ar 32 (aw 32) none 0 (rf ks u) w;rw [h2];exact ar.nil _ _ _) au)
 have h1:q9 ks u=0:=by unfold q9;rw [if_pos (by rw [qV];exact aa),if_pos (by rw [hw] at h;exact Decidable.of_not_not h)]
 have h2:rf ks u=ks++[u.key]:=by unfold rf;rw [h1];rfl
 refine aR (bu _ (aA rfl λK5 bN=>jC an 0 [u.key] (fe:=aw 32) rfl rfl rfl (λ_=>rfl) rfl (UY λl hl=>by rw [bU.1 hl];exact hu.key) (bl _) λB=>iU 0 rfl (jC an 0 [⟨A,c,ks⟩,⟨B,1,[u.key]⟩] (fe:=se) rfl rfl rfl (λ_=>rfl) rfl (λs _=>anD s) (bl _) λD=>iU 0 rfl ?_)));have e0:oY [⟨A,c,ks⟩,⟨B,1,[u.key]⟩]=rf ks u:=by rw [h2];simp [oY]
 have ZB:=amM (A:=D) (c:=2) [⟨A,c,ks⟩,⟨B,1,[u.key]⟩] (by rw [e0,h2];simp) (by rw [e0,h2];simp;omega);rw [e0] at ZB;refine bY [.slice D 2 2] rfl ZB (λw h _=>⟨h.1,λs hs=>by
  rcases bT.1 hs with rfl|hs
  .exact h.2.2.2.2
  .rw [bU.1 hs];exact h.2.1⟩) λ⟨X,d⟩=>?_
 refine dz [bL 0 47 32 (aw 32) X d (rf ks u)] rfl (iU 0 rfl (aj rfl (ah (bN _ ?_))));exact aJ (dk an (X,d) rfl rfl (by show cM.t [.c (.v (.slice X (rf ks u).length d)),.c (.v (.int .i64 (q9 ks u:Int)))]=_;rw [h1];rfl) rfl (λw h _=>h.1) au)
def Z9{A:aO}{c:Nat}{ks l:aX}{u:UV}{e:Nat}(he:q9 ks u=e)(hk:rf ks u=l)(hu:u.aI)(hl:ks.length<=1000):Spec 33 [.slice A ks.length c,(dT u).den] [] (λw=>eI w/\ar 32 (aw 32) A c ks w) (nxQ l e):=by subst he hk;exact aqR ks hu hl
structure nK(κ ν:Type) where
  t:TypeId
  kt:TypeId
  vt:TypeId
  kv:κ->aL
  vv:ν->aL
structure nK.aI{κ ν:Type}(T:nK κ ν)(ok:κ->Prop):Prop where
  und:prog.underlying T.t=some (.map T.kt T.vt)
  keyed:Maps.Keyed prog T.kt
  key:∀k,ok k->∃l,keyOf prog T.kt (T.kv k).den=some l
  inj:∀k k',(T.kv k).den=(T.kv k').den->k=k'
def nK.K{κ ν:Type}(T:nK κ ν)(k:κ):Value:=(T.kv k).den
def nK.V{κ ν:Type}(T:nK κ ν)(v:ν):Value:=(T.vv v).den
section
variable{κ ν:Type}{T:nK κ ν}{ok:κ->Prop}
structure mo(T:nK κ ν)(ok:κ->Prop)(es:Array MapEntry)(clock n:Nat)(f:κ->Option ν):Prop where
  size:es.size=n
  of:∀e∈es.toList,∃k v,ok k/\f k=some v/\e.key=T.K k/\e.val=T.V v
  at_:∀k v,f k=some v->∃e∈es.toList,e.key=T.K k/\e.val=T.V v
  one:∀(i j:Nat) (e g:MapEntry),es[i]?=some e->es[j]?=some g->e.key=g.key->i=j
  born:∀e∈es.toList,e.born<clock
  stamp:(es.toList.map (·.born)).Nodup
def iZ(T:nK κ ν)(ok:κ->Prop)(m n:Nat)(f:κ->Option ν):fS where
  holds w S:=(∃es clock,w.heap[m]?=some (.map es clock)/\mo T ok es clock n f)/\∀k,S k↔k=m
  fO:=λ⟨⟨es,c,h1,h2⟩,h3⟩ hk=>⟨⟨es,c,(hk m ((h3 m).2 rfl)).trans h1,h2⟩,h3⟩
  lt:=λ⟨⟨es,c,h1,_⟩,h3⟩ k hk=>by rw [(h3 k).1 hk];exact(po.1 h1).1
def yz(T:nK κ ν)(ok:κ->Prop)(m n:Nat)(f:κ->Option ν)(w:yp):Prop:=∃es clock,w.heap[m]?=some (.map es clock)/\mo T ok es clock n f
instance{m n:Nat}{f:κ->Option ν}:dc (yz T ok m n f):=⟨λ_ _ ⟨es,c,h1,h2⟩ hb=>⟨es,c,(hb.block m (po.1 h1).1).trans h1,h2⟩⟩
def FH{m n:Nat}{f:κ->Option ν}{L:aH}{R:bF}{F M:aE}(i:Nat)(hi:R[i]?=some (iZ T ok m n f)):∀G S w,View G S L R F M w->yz T ok m n f w:=λ_ _ _ h=>by obtain⟨_,_,⟨h1,_⟩,_⟩:=h.res.at hi;exact h1
def nt[DecidableEq κ](f:κ->Option ν)(k:κ)(v:ν):κ->Option ν:=λx=>if x=k then some v else f x
def mo.keys(hT:T.aI ok){es:Array MapEntry}{clock n:Nat}{f:κ->Option ν}(h:mo T ok es clock n f):∀e∈es.toList,∃l,keyOf prog T.kt e.key=some l:=λe he=>by obtain⟨k,v,hk,_,e1,_⟩:=h.of e he;rw [e1];exact hT.key k hk
def XJ{es:Array MapEntry}{j:Nat}{g:MapEntry->MapEntry}(hg:∀e,(g e).born=e.born):(es.modify j g).toList.map (·.born)=es.toList.map (·.born):=by
 apply List.ext_getElem?;intro i;rw [lC,lC,C2,C2,P4];split
 .cases es[i]?<;>simp [hg]
 .rfl
def abR(hT:T.aI ok){w:yp}{m n:Nat}{es:Array MapEntry}{clock:Nat}{f:κ->Option ν}{k:κ}{v:ν}(hb:w.heap[m]?=some (.map es clock))(h:mo T ok es clock n f)(hk:ok k)(ab:f k=some v) :
  (iY T.t (.map (some m)) (T.K k) true).run prog w = .ok (.tuple #[T.V v,.bool true]) w/\(iY T.t (.map (some m)) (T.K k) false).run prog w = .ok (T.V v) w:=by
 obtain⟨kl,fI⟩:=hT.key k hk;have vr:=hT.keyed.check w es.isEmpty fI
 rcases hT.keyed.find w fI es.toList (h.keys hT) with⟨f1,f2⟩|⟨j,e,f1,f2,f3⟩
 .obtain⟨e,he,e1,_⟩:=h.at_ k v ab;exact absurd e1 (f2 e he)
 .obtain⟨k',v',_,hf,e1,e2⟩:=h.of e (eg f2)
  obtain rfl:k'=k:=hT.inj _ _ (e1.symm.trans f3);rw [ab] at hf;injection hf with hf;subst hf;have f1':(nD T.kt (T.K k') es.toList).run prog w = .ok (some (j,T.V v)) w:=by rw [<-e2];exact f1
  have hck':(oS es.isEmpty 10000 T.kt (T.K k')).run prog w = .ok () w:=vr;constructor<;>simp [iY,run_underlying hT.und,gW hb,hck',f1',iQ]
def auK[DecidableEq κ](hT:T.aI ok){w:yp}{m n:Nat}{es:Array MapEntry}{clock:Nat}{f:κ->Option ν}{k:κ}(v:ν)(hb:w.heap[m]?=some (.map es clock))(h:mo T ok es clock n f)(hk:ok k) :
  ∃w' es' c',(sA T.t (.map (some m)) (T.K k) (T.V v)).run prog w = .ok () w'/\w'.heap[m]?=some (.map es' c')/\mo T ok es' c' (if (f k).isSome then n else n+1) (nt f k v)/\w.grownBy w' (some m):=by
 obtain⟨kl,fI⟩:=hT.key k hk;have vr:(oS false 10000 T.kt (T.K k)).run prog w = .ok () w:=hT.keyed.check w false fI;have aa:(Instr.keyThatStays (T.K k) (T.K k)).run prog w = .ok (T.K k) w:=hT.keyed.stays w fI;have oc:∀es' c',w.grownBy (iS w m (.map es' c')) (some m):=λes' c'=>⟨rfl,rfl,rfl,by simp [iS],λi _ hi=>ChangeMaps.heap_setBlock_other hb _ (λe=>hi (by rw [e]))⟩
 rcases hT.keyed.find w fI es.toList (h.keys hT) with⟨f1,f2⟩|⟨j,e,f1,f2,f3⟩
 .have o7:f k=none:=by
   cases hf:f k with
   | none=>rfl
   | some v0 =>
    obtain⟨x,hx,e1,_⟩:=h.at_ k v0 hf;exact absurd e1 (f2 x hx)
  have f1':(nD T.kt (T.K k) es.toList).run prog w = .ok none w:=f1;refine⟨_,es.push { key:=T.K k,val:=T.V v,born:=clock },clock+1,?_,qG hb _,⟨?_,?_,?_,?_,?_,?_⟩,oc _ _⟩
  .simp [sA,run_underlying hT.und,gW hb,tG _ hb,vr,f1',iQ];rfl
  .rw [Array.size_push,h.size,o7];rfl
  .intro x hx
   rw [mY] at hx;rcases iA.1 hx with hx|hx
   .obtain⟨k1,v1,o1,h1,e1,e2⟩:=h.of x hx;refine⟨k1,v1,o1,?_,e1,e2⟩;unfold nt;rw [if_neg (λe=>by rw [e,o7] at h1;cases h1),h1]
   .obtain rfl:x={ key:=T.K k,val:=T.V v,born:=clock }:=by simpa using hx
    exact⟨k,v,hk,if_pos rfl,rfl,rfl⟩
  .intro k1 v1 h1
   rw [mY];unfold nt at h1;split at h1
   .rename_i e;subst e;injection h1 with h1;subst h1;exact⟨_,KZ _ (bU.2 rfl),rfl,rfl⟩
   .obtain⟨x,hx,e1⟩:=h.at_ k1 v1 h1;exact⟨x,HO _ hx,e1⟩
  .intro i i' x y hx hy pw
   rw [Array.getElem?_push] at hx hy;split at hx<;>split at hy
   .omega
   .injection hx with hx;subst hx;exact absurd pw.symm (f2 y (by simpa using oH hy))
   .injection hy with hy;subst hy;exact absurd pw (f2 x (by simpa using oH hx))
   .exact h.one i i' x y hx hy pw
  .intro x hx
   rw [mY] at hx;rcases iA.1 hx with hx|hx
   .have:=h.born x hx;omega
   .obtain rfl:x={ key:=T.K k,val:=T.V v,born:=clock }:=by simpa using hx
    exact Nat.lt_succ_self _
  .rw [mY,jl]
   refine QR.2 ⟨h.stamp,by simp,λa ha b hb e=>?_⟩;obtain⟨x,hx,rfl⟩:=dv.1 ha;have h1:=h.born x hx;have h2:b=clock:=by simpa using hb
   omega
 .have f4:es[j]?=some e:=by simpa using f2
  obtain⟨k0,v0,_,h0,e0,_⟩:=h.of e (eg f2);obtain rfl:k0=k:=hT.inj _ _ (e0.symm.trans f3);have f1':(nD T.kt (T.K k0) es.toList).run prog w = .ok (some (j,e.val)) w:=f1;have f3':e.key=T.K k0:=f3;have ki:∀i,(es.modify j λe=>{ e with key:=T.K k0,val:=T.V v })[i]?=if j=i then(es[i]?).map λe=>{ e with key:=T.K k0,val:=T.V v } else es[i]?:=λi=>by rw [P4]
  refine⟨_,es.modify j λe=>{ e with key:=T.K k0,val:=T.V v },clock,?_,qG hb _,⟨?_,?_,?_,?_,?_,?_⟩,oc _ _⟩
  .simp [sA,run_underlying hT.und,gW hb,tG _ hb,vr,f1',f4,f3',aa,iQ];rfl
  .rw [Array.size_modify,h.size,h0];rfl
  .intro x hx
   obtain⟨i,hi⟩:=Dq hx;rw [C2,ki] at hi;split at hi
   .rename_i jg;subst jg;rw [f4] at hi;injection hi with hi;subst hi;exact⟨k0,v,hk,if_pos rfl,rfl,rfl⟩
   .rename_i jg;obtain⟨k1,v1,o1,h1,e1,e2⟩:=h.of x (by simpa using oH hi);refine⟨k1,v1,o1,?_,e1,e2⟩;unfold nt;rw [if_neg (λe=>jg (h.one j i _ _ f4 hi (by rw [f3',e1,e]))),h1]
  .intro k1 v1 h1
   unfold nt at h1;split at h1
   .rename_i e9;subst e9;injection h1 with h1;subst h1;refine⟨{ e with key:=T.K k1,val:=T.V v },?_,rfl,rfl⟩;refine eg (i:=j) ?_;rw [C2,ki,if_pos rfl,f4];rfl
   .rename_i b8;obtain⟨x,hx,e1,e2⟩:=h.at_ k1 v1 h1;obtain⟨i,hi⟩:=Dq hx;rw [C2] at hi;refine⟨x,eg (i:=i) ?_,e1,e2⟩;rw [C2,ki,if_neg,hi];rintro rfl;rw [f4] at hi;injection hi with hi;subst hi;exact b8 (hT.inj _ _ (e1.symm.trans f3))
  .have BW:∀(i:Nat) (x:MapEntry),(es.modify j λe=>{ e with key:=T.K k0,val:=T.V v })[i]?=some x->∃y,es[i]?=some y/\y.key=x.key:=λi x hx=>by
    rw [ki] at hx;split at hx
    .rename_i jg;subst jg;rw [f4] at hx;injection hx with hx;subst hx;exact⟨e,f4,f3⟩
    .exact⟨x,hx,rfl⟩
   intro i i' x y hx hy pw;obtain⟨x',hx',ex⟩:=BW i x hx;obtain⟨y',hy',ey⟩:=BW i' y hy;exact h.one i i' x' y' hx' hy' (by rw [ex,ey,pw])
  .intro x hx;have hm:x.born∈(es.modify j λe=>{ e with key:=T.K k0,val:=T.V v }).toList.map (·.born):=dv.2 ⟨x,hx,rfl⟩;rw [XJ (g:=λe=>{ e with key:=T.K k0,val:=T.V v }) λ_=>rfl] at hm;obtain⟨y,hy,e9⟩:=dv.1 hm;rw [<-e9];exact h.born y hy
  .rw [XJ (g:=λe=>{ e with key:=T.K k0,val:=T.V v }) λ_=>rfl];exact h.stamp
def abS(hT:T.aI ok){w:yp}{m n:Nat}{es:Array MapEntry}{clock:Nat}{f:κ->Option ν}{k:κ}{z:ν}(hz:(zeroValue T.vt).run prog w = .ok (T.V z) w)(hb:w.heap[m]?=some (.map es clock))(h:mo T ok es clock n f)(hk:ok k)(ab:f k=none) :
  (iY T.t (.map (some m)) (T.K k) true).run prog w = .ok (.tuple #[T.V z,.bool false]) w/\(iY T.t (.map (some m)) (T.K k) false).run prog w = .ok (T.V z) w:=by
 obtain⟨kl,fI⟩:=hT.key k hk;have vr:(oS es.isEmpty 10000 T.kt (T.K k)).run prog w = .ok () w:=hT.keyed.check w es.isEmpty fI
 rcases hT.keyed.find w fI es.toList (h.keys hT) with⟨f1,f2⟩|⟨j,e,f1,f2,f3⟩
 .have f1':(nD T.kt (T.K k) es.toList).run prog w = .ok none w:=f1;constructor<;>simp [iY,run_underlying hT.und,gW hb,vr,f1',hz,iQ]
 .obtain⟨k',v',_,hf,e1,_⟩:=h.of e (eg f2);obtain rfl:k'=k:=hT.inj _ _ (e1.symm.trans f3);rw [ab] at hf;cases hf
end
section
variable{b:bO}{ops:aZ}{Q:bK}{N:Nat}{E:aG}{L:aH}{R:bF}{F M:aE}{o:Oper}{rest:aN}{k m n:Nat}{x y z:Operand}{κ ν:Type}{T:nK κ ν}{ok:κ->Prop}{f:κ->Option ν}
def Ut(T:nK κ ν)(ok:κ->Prop)(hg:o.guard=none)(hd:o.dst=some k)(hk:aW k N=true)(ho:o.op = .makeMap T.t none)
 (hn:∀m,a9 prog b ops Q N rest ⟨(k,.v (.map (some m)))::E,L,iZ T ok m 0 (λ_=>none)::R,F,M⟩):a9 prog b ops Q N (o::rest) ⟨E,L,R,F,M⟩:=λa w ⟨G,S,f1,f2,f3⟩=>by
 obtain⟨S',h⟩:=f3.xI (w':=w.alloc (.map #[] 0)) ((Below.refl _ w).alloc (aQ _) _) (r:=iZ T ok w.heap.size 0 (λ_=>none)) (S':=λk=>k=w.heap.size) ⟨⟨#[],0,heap_alloc_new w _,⟨rfl,λ_ h=>(by simp at h),λ_ _ h=>(by cases h),λi j e f h _ _=>(by simp at h),λ_ h=>(by simp at h),by simp⟩⟩,λ_=>Iff.rfl⟩ λk hk=>by omega
 refine nA (v:=.map (some w.heap.size)) (w':=w.alloc (.map #[] 0)) (lr hg) (by unfold execOp;simp only [ho,Option.map_none,bI,run_makeMap,bS,bM]) ?_
 rw [hd];exact hn _ _ _ ⟨G,S',f1.put hk _,f2.cons trivial,h⟩
def Lg[DecidableEq κ](hT:T.aI ok)(i:Nat)(hi:R[i]?=some (iZ T ok m n f))(q:κ)(v:ν)(hq:ok q)(hg:o.guard=none)(hd:o.dst=none)(ho:o.op = .mapUpdate T.t x y z)(hx:aP E x=some (.v (.map (some m))))(hy:aP E y=some (.q (T.kv q)))(hz:aP E z=some (.q (T.vv v)))
 (hn:a9 prog b ops Q N rest ⟨E,L,R.set i (iZ T ok m (if (f q).isSome then n else n+1) (nt f q v)),F,M⟩):a9 prog b ops Q N (o::rest) ⟨E,L,R,F,M⟩:=λa w ⟨G,S,f1,f2,f3⟩=>by
 obtain⟨S1,⟨⟨es,c,hb,bx⟩,mB⟩,ix⟩:=f3.put hi;have e1:a.eval x = .map (some m):=f1.eval (bH hx);have e2:a.eval y=T.K q:=f1.eval (bH hy);have e3:a.eval z=T.V v:=f1.eval (bH hz);obtain⟨w',es',c',hr,hb',hok',oc⟩:=auK hT v hb bx hq;obtain⟨S'',h6⟩:=ix (iZ T ok m (if (f q).isSome then n else n+1) (nt f q v)) w' S1 ((dO.UX oc).mono λk _ hk=>(mB k).2 (jm hk).symm) ⟨⟨es',c',hb',hok'⟩,mB⟩ (λk hk _=>hk)
 refine CI (w':=w') (lr hg) (by unfold execOp;simp only [ho,e1,e2,e3,hr,bI,bM,bS]) ?_
 rw [hd];exact hn _ _ ⟨G,S'',f1,f2,h6⟩
def af7(hT:T.aI ok)(h:∀G S w,View G S L R F M w->yz T ok m n f w)(q:κ)(v:ν)(hq:ok q)(ab:f q=some v)(ho:o.op = .lookup T.t x y false)(hx:aP E x=some (.v (.map (some m))))(hy:aP E y=some (.q (T.kv q))) :
  ∀(G:aK) (S:cn) (a:Act) (w:yp),Fr N (bG G E) a->View G S L R F M w->(execOp a.eval o).run prog w = .ok (.value ((aq.q (T.vv v)).den G)) w:=λG S a w f1 hw=>by
 obtain⟨es,c,hb,bx⟩:=h G S w hw;have e1:a.eval x = .map (some m):=f1.eval (bH hx);have e2:a.eval y=T.K q:=f1.eval (bH hy);have e3:(aq.q (T.vv v)).den G=T.V v:=rfl
 unfold execOp
 simp only [ho,e1,e2,e3,(abR hT hb bx hq ab).2,bI,bM,bS]
def af8(hT:T.aI ok)(h:∀G S w,View G S L R F M w->yz T ok m n f w)(q:κ)(v:ν)(hq:ok q)(ab:f q=some v)(ho:o.op = .lookup T.t x y true)(hx:aP E x=some (.v (.map (some m))))(hy:aP E y=some (.q (T.kv q))) :
  ∀(G:aK) (S:cn) (a:Act) (w:yp),Fr N (bG G E) a->View G S L R F M w->(execOp a.eval o).run prog w = .ok (.value ((aq.t [T.vv v,.c (.v (.bool true))]).den G)) w:=λG S a w f1 hw=>by
 obtain⟨es,c,hb,bx⟩:=h G S w hw;have e1:a.eval x = .map (some m):=f1.eval (bH hx);have e2:a.eval y=T.K q:=f1.eval (bH hy)
 unfold execOp
 simp only [ho,e1,e2,(abR hT hb bx hq ab).1,bI,bM,bS]
 rfl
def af9(hT:T.aI ok)(h:∀G S w,View G S L R F M w->yz T ok m n f w)(q:κ)(v:ν)(hq:ok q)(ab:f q=none)(hzero:∀w,(zeroValue T.vt).run prog w = .ok (T.V v) w)(ho:o.op = .lookup T.t x y false)(hx:aP E x=some (.v (.map (some m))))(hy:aP E y=some (.q (T.kv q))) :
  ∀(G:aK) (S:cn) (a:Act) (w:yp),Fr N (bG G E) a->View G S L R F M w->(execOp a.eval o).run prog w = .ok (.value ((aq.q (T.vv v)).den G)) w:=λG S a w f1 hw=>by
 obtain⟨es,c,hb,bx⟩:=h G S w hw;have e1:a.eval x = .map (some m):=f1.eval (bH hx);have e2:a.eval y=T.K q:=f1.eval (bH hy);have e3:(aq.q (T.vv v)).den G=T.V v:=rfl
 unfold execOp
 simp only [ho,e1,e2,e3,(abS hT (hzero w) hb bx hq ab).2,bI,bM,bS]
def afA(hT:T.aI ok)(h:∀G S w,View G S L R F M w->yz T ok m n f w)(q:κ)(v:ν)(hq:ok q)(ab:f q=none)(hzero:∀w,(zeroValue T.vt).run prog w = .ok (T.V v) w)(ho:o.op = .lookup T.t x y true)(hx:aP E x=some (.v (.map (some m))))(hy:aP E y=some (.q (T.kv q))) :
  ∀(G:aK) (S:cn) (a:Act) (w:yp),Fr N (bG G E) a->View G S L R F M w->(execOp a.eval o).run prog w = .ok (.value ((aq.t [T.vv v,.c (.v (.bool false))]).den G)) w:=λG S a w f1 hw=>by
 obtain⟨es,c,hb,bx⟩:=h G S w hw;have e1:a.eval x = .map (some m):=f1.eval (bH hx);have e2:a.eval y=T.K q:=f1.eval (bH hy)
 unfold execOp
 simp only [ho,e1,e2,(abS hT (hzero w) hb bx hq ab).1,bI,bM,bS]
 rfl
def azT(hT:T.aI ok)(q:κ)(v:ν)(hq:ok q)(hzero:∀w,(zeroValue T.vt).run prog w = .ok (T.V v) w)(ho:o.op = .lookup T.t x y false)(hx:aP E x=some (.v (.map none)))(hy:aP E y=some (.q (T.kv q))) :
  ∀(G:aK) (S:cn) (a:Act) (w:yp),Fr N (bG G E) a->View G S L R F M w->(execOp a.eval o).run prog w = .ok (.value ((aq.q (T.vv v)).den G)) w:=λG S a w f1 _=>by
 obtain⟨kl,fI⟩:=hT.key q hq;have e1:a.eval x = .map none:=f1.eval (bH hx);have e2:a.eval y=T.K q:=f1.eval (bH hy);have e3:(aq.q (T.vv v)).den G=T.V v:=rfl;have vr:(oS true 10000 T.kt (T.K q)).run prog w = .ok () w:=hT.keyed.check w true fI
 have hf:(nD T.kt (T.K q) []).run prog w = .ok none w:=by
  rcases hT.keyed.find w fI [] (λ_ h=>by cases h) with⟨f1,_⟩|⟨j,e,_,f2,_⟩
  .exact f1
  .cases f2
 have hl:(iY T.t (.map none) (T.K q) false).run prog w = .ok (T.V v) w:=by simp [iY,run_underlying hT.und,vr,hf,hzero w,iQ]
 unfold execOp
 simp only [ho,e1,e2,e3,hl,bI,bM,bS]
def VM(hT:T.aI ok)(h:∀G S w,View G S L R F M w->yz T ok m n f w)(ho:o.op = .call { callee:=.builtin .len,args:=#[x],argTypes:=#[T.t] })(hx:aP E x=some (.v (.map (some m)))) :
  ∀(G:aK) (S:cn) (a:Act) (w:yp),Fr N (bG G E) a->View G S L R F M w->(execOp a.eval o).run prog w = .ok (.value ((aq.v (.int .i64 (n:Int))).den G)) w:=λG S a w f1 hw=>by
 obtain⟨es,c,hb,bx⟩:=h G S w hw;have e1:a.eval x = .map (some m):=f1.eval (bH hx)
 have hl:(oC #[T.t] o.type #[.map (some m)]).run prog w = .ok (.int .i64 (n:Int)) w:=by rw [<-bx.size];simp [oC,run_underlying hT.und,gW hb,goInt]
 unfold execOp
 simp only [ho];generalize a.eval=ρ at *
 show _=pE (oO (.int .i64 (n:Int))) w
 go_simp
def azS(hT:T.aI ok)(ho:o.op = .call { callee:=.builtin .len,args:=#[x],argTypes:=#[T.t] })(hx:aP E x=some (.v (.map none))) :
  ∀(G:aK) (S:cn) (a:Act) (w:yp),Fr N (bG G E) a->View G S L R F M w->(execOp a.eval o).run prog w = .ok (.value ((aq.v (.int .i64 ((0:Nat):Int))).den G)) w:=λG S a w f1 _=>by
 have e1:a.eval x = .map none:=f1.eval (bH hx)
 have hl:(oC #[T.t] o.type #[.map none]).run prog w = .ok (.int .i64 ((0:Nat):Int)) w:=by simp [oC,run_underlying hT.und,goInt]
 unfold execOp
 simp only [ho];generalize a.eval=ρ at *
 show _=pE (oO (.int .i64 ((0:Nat):Int))) w
 go_simp
end
def auL{K:IntKind}{ν:Type}{T:nK Int ν}(hu:prog.underlying T.t=some (.map T.kt T.vt))(hk:prog.underlying T.kt=some (.int K))(Z0:T.kv=λn=>.c (.v (.int K n))):T.aI λn=>(Lit.int K n).wf=true where
 und:=hu
 keyed:=Maps.int_keyed hk
 key k h:=by rw [Z0];exact⟨_,Maps.keyOf_int_mk hk h⟩
 inj k k' h:=by rw [Z0] at h;injection h
section
variable{κ ν:Type}{T:nK κ ν}{ok:κ->Prop}{es:Array MapEntry}{clock n m r:Nat}{f:κ->Option ν}{seen:Array Nat}{done:List (κ×ν)}
structure ud(T:nK κ ν)(ok:κ->Prop)(es:Array MapEntry)(f:κ->Option ν)(seen:Array Nat)(done:List (κ×ν)):Prop where
  tB:∀d∈done,ok d.1/\f d.1=some d.2
  nodup:(done.map (·.1)).Nodup
  iff_:∀x∈es.toList,seen.contains x.born=true↔∃d∈done,x.key=T.K d.1
def ud.nil:ud T ok es f #[] []:=⟨λ_ h=>(by cases h),List.nodup_nil,λx _=>by simp⟩
theorem alT{l:List MapEntry}(h:(l.map (·.born)).Nodup):∀{x y:MapEntry},x∈l->y∈l->x.born=y.born->x=y:=by
 induction l with
 | nil=>intro x _ hx;cases hx
 | cons a l ih =>
  intro x y hx hy e
  obtain⟨h1,h2⟩:=List.nodup_cons.1 h
  rcases bT.1 hx with e1|lI<;>rcases bT.1 hy with e2|hy2
  .rw [e1,e2]
  .exact absurd (dv.2 ⟨y,hy2,by rw [<-e,e1]⟩) h1
  .exact absurd (dv.2 ⟨x,lI,by rw [e,e2]⟩) h1
  .exact ih h2 lI hy2 e
def ud.next(hH:mo T ok es clock n f)(h:ud T ok es f seen done){e:MapEntry}(he:e∈(leftOf es seen).toList):∃k v,ok k/\f k=some v/\e.key=T.K k/\e.val=T.V v/\(∀d∈done,d.1≠k)/\ud T ok es f (seen.push e.born) (done++[(k,v)]):=by
 obtain⟨h1,h2⟩:=mem_left he;obtain⟨k,v,hk,hf,e1,e2⟩:=hH.of e h1;have b8:∀d∈done,d.1≠k:=λd hd hdk=>by have:=(h.iff_ e h1).2 ⟨d,hd,by rw [e1,hdk]⟩;rw [h2] at this;cases this
 refine⟨k,v,hk,hf,e1,e2,b8,⟨?_,?_,?_⟩⟩
 .intro d hd
  rcases iA.1 hd with hd|hd
  .exact h.tB d hd
  .rw [bU.1 hd];exact⟨hk,hf⟩
 .rw [jl];refine QR.2 ⟨h.nodup,by simp,λa ha b hb e=>?_⟩;obtain⟨d,hd,rfl⟩:=dv.1 ha;exact b8 d hd (e.trans (by simpa using hb))
 .intro x hx
  rw [contains_push,Bool.or_eq_true,h.iff_ x hx];constructor
  .rintro(⟨d,hd,e3⟩|e3)
   .exact⟨d,HO _ hd,e3⟩
   .obtain rfl:=alT hH.stamp hx h1 (by simpa using e3);exact⟨(k,v),KZ _ (bU.2 rfl),e1⟩
  .rintro⟨d,hd,e3⟩
   rcases iA.1 hd with hd|hd
   .exact .inl ⟨d,hd,e3⟩
   .rw [bU.1 hd] at e3;obtain⟨i,hi⟩:=Dq hx;obtain⟨j,hj⟩:=Dq h1;have:=hH.one i j x e (by simpa using hi) (by simpa using hj) (by rw [e3,e1]);subst this;rw [hi] at hj;injection hj with hj;subst hj;exact .inr (by simp)
def ud.all(hT:T.aI ok)(hH:mo T ok es clock n f)(h:ud T ok es f seen done)(h0:(leftOf es seen).size=0){k:κ}{v:ν}(ab:f k=some v):(k,v)∈done:=by obtain⟨e,he,e1,_⟩:=hH.at_ k v ab;obtain⟨d,hd,e2⟩:=(h.iff_ e he).1 (all_seen es seen h0 e he);have e3:d.1=k:=hT.inj _ _ (e2.symm.trans e1);have e4:=(h.tB d hd).2;rw [e3,ab] at e4;injection e4 with e4;obtain⟨a,b⟩:=d;simp only at e3 e4;rw [<-e3,e4];exact hd
def Xm(T:nK κ ν)(es:Array MapEntry)(seen:Array Nat)(q:κ)(v:ν):Prop:=∃e∈es.toList,∃s0:Array Nat,seen=s0.push e.born/\e.key=T.K q/\e.val=T.V v
def zW(m:Nat)(es:Array MapEntry)(clock:Nat):fS where
  holds w S:=w.heap[m]?=some (.map es clock)/\∀k,S k↔k=m
  fO:=λ⟨h1,h2⟩ hk=>⟨(hk m ((h2 m).2 rfl)).trans h1,h2⟩
  lt:=λ⟨h1,h2⟩ k hk=>by rw [(h2 k).1 hk];exact(po.1 h1).1
def vb(m:Nat)(es:Array MapEntry)(clock:Nat)(w:yp):Prop:=w.heap[m]?=some (.map es clock)
instance:dc (vb m es clock):=⟨λ_ _ h hb=>(hb.block m (po.1 h).1).trans h⟩
def ue(m:j5)(r clock:Nat)(seen:Array Nat):fS where
  holds w S:=w.heap[r]?=some (.mapIter m clock seen clock)/\∀k,S k↔k=r
  fO:=λ⟨h1,h2⟩ hk=>⟨(hk r ((h2 r).2 rfl)).trans h1,h2⟩
  lt:=λ⟨h1,h2⟩ k hk=>by rw [(h2 k).1 hk];exact(po.1 h1).1
end
section
variable{κ ν:Type}{T:nK κ ν}{ok:κ->Prop}{es:Array MapEntry}{clock n m r:Nat}{f:κ->Option ν}{seen:Array Nat}{done:List (κ×ν)}
variable{b:bO}{G:aK}{S:cn}{ops:aZ}{Q:bK}{N:Nat}{E:aG}{L:aH}{R:bF}{F M:aE}{o:Oper}{rest l:aN}{k:Nat}{x:Operand}{t kt e:TypeId}{w:yp}
def UE(i:Nat)(hi:R[i]?=some (zW m es clock)):∀G S w,View G S L R F M w->vb m es clock w:=λ_ _ _ h=>by obtain⟨_,_,⟨h1,_⟩,_⟩:=h.res.at hi;exact h1
def bj.acV(h:bj b G S L R F M w){i:Nat}(hi:R[i]?=some (iZ T ok m n f)):∃es clock S',mo T ok es clock n f/\bj b G S' L (R.set i (zW m es clock)) F M w:=by obtain⟨S1,⟨⟨es,c,h1,h2⟩,h3⟩,h4⟩:=h.put hi;obtain⟨S'',h5⟩:=h4 (zW m es c) w S1 (dO.refl _ _) ⟨h1,h3⟩ λ_ hk _=>hk;exact⟨es,c,S'',h2,h5⟩
def bj.amG(h:bj b G S L R F M w){i:Nat}(hi:R[i]?=some (zW m es clock))(hH:mo T ok es clock n f):∃S',bj b G S' L (R.set i (iZ T ok m n f)) F M w:=by obtain⟨S1,⟨h1,h3⟩,h4⟩:=h.put hi;exact h4 (iZ T ok m n f) w S1 (dO.refl _ _) ⟨⟨es,clock,h1,hH⟩,h3⟩ λ_ hk _=>hk
def at6(i:Nat)(hi:R[i]?=some (iZ T ok m n f))(hn:∀es clock,mo T ok es clock n f->a9 prog b ops Q N l ⟨E,L,R.set i (zW m es clock),F,M⟩):a9 prog b ops Q N l ⟨E,L,R,F,M⟩:=λa w ⟨G,S,h1,h2,h3⟩=>by obtain⟨es,c,S',h4,h5⟩:=h3.acV hi;exact hn es c h4 a w ⟨G,S',h1,h2,h5⟩
def Uk{K:fg}(i:Nat)(hi:R[i]?=some (iZ T ok m n f))(hn:∀es clock,mo T ok es clock n f->cl b K N ⟨E,L,R.set i (zW m es clock),F,M⟩):cl b K N ⟨E,L,R,F,M⟩:=λa w ⟨G,S,h1,h2,h3⟩=>by obtain⟨es,c,S',h4,h5⟩:=h3.acV hi;exact hn es c h4 a w ⟨G,S',h1,h2,h5⟩
def aaO{K:fg}(T:nK κ ν)(i:Nat)(hi:R[i]?=some (zW m es clock))(hH:mo T ok es clock n f)(hn:cl b K N ⟨E,L,R.set i (iZ T ok m n f),F,M⟩):cl b K N ⟨E,L,R,F,M⟩:=λa w ⟨G,S,h1,h2,h3⟩=>by obtain⟨S',h5⟩:=h3.amG hi hH;exact hn a w ⟨G,S',h1,h2,h5⟩
def bj.aoJ(h:bj b G S L R F M w){i:Nat}(hi:R[i]?=some (zW m es clock)):∃S',bj b G S' L (R.eraseIdx i) (λw=>vb m es clock w/\F w) M w:=by
 obtain⟨S1,S2,h1,h2,h3,h4⟩:=h.let hi;refine⟨S2,h4.and λw' hw=>?_⟩;have hg:S1 m:=(h1.2 m).2 rfl;refine(hw.block m (po.1 h1.1).1 ?_).trans h1.1;rintro(hx|hx|⟨j,hj,e⟩)
 .obtain⟨rK,lI⟩:=h.eS m hx;exact lI (h.mine m (.inl ((h3 m).2 (.inl hg))) rK)
 .exact h2 m hg hx
 .exact h.sep j hj (by rw [e];exact(h3 m).2 (.inl hg))
def aaP{K:fg}(i:Nat)(hi:R[i]?=some (zW m es clock))(hn:cl b K N ⟨E,L,R.eraseIdx i,λw=>vb m es clock w/\F w,M⟩):cl b K N ⟨E,L,R,F,M⟩:=λa w ⟨G,S,h1,h2,h3⟩=>by obtain⟨S',h4⟩:=h3.aoJ hi;exact hn a w ⟨G,S',h1,h2,h4⟩
def Uw(hg:o.guard=none)(hd:o.dst=some k)(hk:aW k N=true)(ho:o.op = .range t x)(hu:prog.underlying t=some (.map kt e))(hx:aP E x=some (.v (.map (some m))))(ab:∀G S w,View G S L R F M w->vb m es clock w)
 (hn:∀r,a9 prog b ops Q N rest ⟨(k,.v (eE r))::E,L,ue (some m) r clock #[]::R,F,M⟩):a9 prog b ops Q N (o::rest) ⟨E,L,R,F,M⟩:=λa w ⟨G,S,f1,f2,f3⟩=>by
 have e1:a.eval x = .map (some m):=f1.eval (bH hx)
 obtain⟨S',h⟩:=f3.xI (w':=w.alloc (.mapIter (some m) clock #[] clock)) ((Below.refl _ w).alloc (aQ _) _) (r:=ue (some m) w.heap.size clock #[]) (S':=λk=>k=w.heap.size) ⟨heap_alloc_new w _,λ_=>Iff.rfl⟩ λk hk=>by omega
 refine nA (v:=.pointer (some ⟨w.heap.size,0,none⟩)) (w':=w.alloc (.mapIter (some m) clock #[] clock)) (lr hg) (by unfold execOp;simp only [ho,e1,bI,run_range_map w t kt e m es clock hu (ab G S w f3.view),bS,bM]) ?_
 rw [hd];exact hn _ _ _ ⟨G,S',f1.put hk _,f2.cons trivial,h⟩
def atA(hg:o.guard=none)(hd:o.dst=some k)(hk:aW k N=true)(ho:o.op = .range t x)(hu:prog.underlying t=some (.map kt e))(hx:aP E x=some (.v (.map none)))
 (hn:∀r,a9 prog b ops Q N rest ⟨(k,.v (eE r))::E,L,ue none r 0 #[]::R,F,M⟩):a9 prog b ops Q N (o::rest) ⟨E,L,R,F,M⟩:=λa w ⟨G,S,f1,f2,f3⟩=>by
 have e1:a.eval x = .map none:=f1.eval (bH hx)
 obtain⟨S',h⟩:=f3.xI (w':=w.alloc (.mapIter none 0 #[] 0)) ((Below.refl _ w).alloc (aQ _) _) (r:=ue none w.heap.size 0 #[]) (S':=λk=>k=w.heap.size) ⟨heap_alloc_new w _,λ_=>Iff.rfl⟩ λk hk=>by omega
 refine nA (v:=.pointer (some ⟨w.heap.size,0,none⟩)) (w':=w.alloc (.mapIter none 0 #[] 0)) (lr hg) (by unfold execOp;simp only [ho,e1,bI,run_range_nilMap w t kt e hu,bS,bM]) ?_
 rw [hd];exact hn _ _ _ ⟨G,S',f1.put hk _,f2.cons trivial,h⟩
def Uu(hH:mo T ok es clock n f)(hD:ud T ok es f seen done)(Hi:∀q,ok q->(T.kv q).aI)(wQ:∀v,(T.vv v).aI)(i:Nat)(hi:R[i]?=some (ue (some m) r clock seen))(hg:o.guard=none)(hd:o.dst=some k)(hk:aW k N=true)(ho:o.op = .next x false)(hx:aP E x=some (.v (eE r)))(ab:∀G S w,View G S L R F M w->vb m es clock w)
 (h0:(leftOf es seen).size=0->a9 prog b ops Q N rest ⟨(k,.t [.c (.v (.bool false))])::E,L,R,F,M⟩)
 (h1:∀q v seen',ok q->f q=some v->(∀d∈done,d.1≠q)->(leftOf es seen').size<(leftOf es seen).size->Xm T es seen' q v->ud T ok es f seen' (done++[(q,v)])->a9 prog b ops Q N rest ⟨(k,.t [.c (.v (.bool true)),T.kv q,T.vv v])::E,L,R.set i (ue (some m) r clock seen'),F,M⟩):a9 prog b ops Q N (o::rest) ⟨E,L,R,F,M⟩:=λa w ⟨G,S,f1,f2,f3⟩=>by
 have e1:a.eval x = .pointer (some ⟨r,0,none⟩):=f1.eval (bH hx);have hb:=ab G S w f3.view;obtain⟨S1,⟨hr,mB⟩,ix⟩:=f3.put hi
 rcases run_next_at (P:=prog) w o.type r m clock clock seen es clock hr hb hH.born (aQ _) with⟨h2,iy⟩|⟨e,he,w1,l7,iy⟩
 .refine nA (v:=.tuple #[.bool false]) (w':=w) (lr hg) (by
   unfold execOp;simp only [ho,e1,bI,iy,bS,bM]) ?_
  rw [hd];exact h0 h2 _ _ ⟨G,S,f1.put hk _,f2.cons (iG trivial),f3⟩
 .obtain⟨q,v,hq,hf,ek,dy,b8,hD'⟩:=hD.next hH he
  have lG:w1.heap[r]?=some (.mapIter (some m) clock seen clock):=by rcases l7 with rfl|rfl<;>exact hr
  have Dk:=MapKept.heap_set (o':=.mapIter (some m) clock (seen.push e.born) clock) lG;have oc:w.grownBy (iS w1 r (.mapIter (some m) clock (seen.push e.born) clock)) (some r):=by rcases l7 with rfl|rfl<;>exact⟨rfl,rfl,rfl,by simp [iS],λi _ hi=>Dk.2 i (λe=>hi (by rw [e]))⟩
  obtain⟨S'',h6⟩:=ix (ue (some m) r clock (seen.push e.born)) _ S1 ((dO.UX oc).mono λk _ hk=>(mB k).2 (jm hk).symm) ⟨Dk.1,mB⟩ λ_ hk _=>hk;refine nA (v:=.tuple #[.bool true,e.key,e.val]) (w':=iS w1 r (.mapIter (some m) clock (seen.push e.born) clock)) (lr hg) (by unfold execOp;simp only [ho,e1,bI,iy,bS,bM]) ?_;rw [hd,ek,dy];exact h1 q v _ hq hf b8 (left_shrinks es seen e he) ⟨e,(mem_left he).1,seen,rfl,ek,dy⟩ hD' _ _ ⟨G,S'',f1.put hk _,f2.cons (uP trivial (dZ (Hi q hq) (wQ v))),h6⟩
def at5(i:Nat)(hi:R[i]?=some (ue none r clock seen))(hq:di o k N)(ho:o.op = .next x false)(hx:aP E x=some (.v (eE r)))
 (h0:a9 prog b ops Q N rest ⟨(k,.t [.c (.v (.bool false))])::E,L,R,F,M⟩):a9 prog b ops Q N (o::rest) ⟨E,L,R,F,M⟩:=λa w ⟨G,S,f1,f2,f3⟩=>by
 have e1:a.eval x = .pointer (some ⟨r,0,none⟩):=f1.eval (bH hx);obtain⟨S1,⟨hr,mB⟩, -⟩:=f3.put hi
 have iy:(Instr.next (eE r) false o.type).run prog w = .ok (.tuple #[.bool false]) w:=by simp [Instr.next,getObj,bI,Sem.run,hr,iQ]
 refine nA (v:=.tuple #[.bool false]) (w':=w) (lr (eB hq)) (by unfold execOp;simp only [ho,e1,bI,iy,bS,bM]) ?_
 rw [(eC hq)];exact h0 _ _ ⟨G,S,f1.put (dQ hq) _,f2.cons (iG trivial),f3⟩
def VL{q:κ}{v:ν}(hH:mo T ok es clock n f)(i:Nat)(hi:R[i]?=some (ue (some m) r clock seen))(hl:Xm T es seen q v)(ab:∀G S w,View G S L R F M w->vb m es clock w)(ho:o.op = .entry x)(hx:aP E x=some (.v (eE r))) :
  ∀(G:aK) (S:cn) (a:Act) (w:yp),Fr N (bG G E) a->View G S L R F M w->(execOp a.eval o).run prog w = .ok (.value ((aq.t [T.kv q,T.vv v]).den G)) w:=λG S a w f1 hw=>by
 have e1:a.eval x = .pointer (some ⟨r,0,none⟩):=f1.eval (bH hx);obtain⟨_,_,⟨hr,_⟩,_⟩:=hw.res.at hi;obtain⟨e,he,s0,rfl,ek,dy⟩:=hl;have iy:=run_entry_at (P:=prog) w r m clock s0 es clock e hr (ab G S w hw) he hH.stamp
 unfold execOp
 simp only [ho,e1,iy,ek,dy,bI,bM,bS]
 rfl
def at4{y:Operand}{K:IntKind}{z:Int}(T:nK κ ν)(ok:κ->Prop)(hT:T.aI ok)(hg:o.guard=none)(hd:o.dst=some k)(hk:aW k N=true)(ho:o.op = .makeMap T.t (some y))(hy:aP E y=some (.v (.int K z)))
 (hn:∀m,a9 prog b ops Q N rest ⟨(k,.v (.map (some m)))::E,L,iZ T ok m 0 (λ_=>none)::R,F,M⟩):a9 prog b ops Q N (o::rest) ⟨E,L,R,F,M⟩:=λa w ⟨G,S,f1,f2,f3⟩=>by
 have e1:a.eval y = .int K z:=f1.eval (bH hy)
 obtain⟨S',h⟩:=f3.xI (w':=w.alloc (.map #[] 0)) ((Below.refl _ w).alloc (aQ _) _) (r:=iZ T ok w.heap.size 0 (λ_=>none)) (S':=λk=>k=w.heap.size) ⟨⟨#[],0,heap_alloc_new w _,⟨rfl,λ_ h=>(by simp at h),λ_ _ h=>(by cases h),λi j e f h _ _=>(by simp at h),λ_ h=>(by simp at h),by simp⟩⟩,λ_=>Iff.rfl⟩ λk hk=>by omega
 have iy:(Instr.makeMap T.t (some (.int K z))).run prog w = .ok (.map (some w.heap.size)) (w.alloc (.map #[] 0)):=by simp [Instr.makeMap,run_underlying hT.und,asInt,iQ];rfl
 refine nA (v:=.map (some w.heap.size)) (w':=w.alloc (.map #[] 0)) (lr hg) (by unfold execOp;simp only [ho,Option.map_some,e1,bI,iy,bS,bM]) ?_
 rw [hd];exact hn _ _ _ ⟨G,S',f1.put hk _,f2.cons trivial,h⟩
end
def Cv:fv:=⟨none,0,[]⟩
theorem Uo:∀{l:bZ} {id:ae},cB l id≠[]->(id,cB l id)∈l
 | [],_,h=>(h rfl).elim
 | e::l,id,h=>by
  rw [pU] at h ⊢;by_cases c:e.1=id
  .rw [if_pos c];rw [<-c];exact eh
  .rw [if_neg c] at h ⊢;exact dS _ (Uo h)
def mq(l:bZ):Prop:=∀e∈l,e.2.length<=64
def mq.keys{l:bZ}(h:mq l)(id:ae):(cB l id).length<=64:=by
 by_cases c:cB l id=[]
 .rw [c];exact bl _
 .exact h _ (Uo c)
def mq.put{l:bZ}{id:ae}{ks:aX}(h:mq l)(hk:ks.length<=64):mq (kk l id ks):=λe he=>by
 rcases Ih he with rfl|he
 .exact hk
 .exact h e he
noncomputable def cy(u:UV):wm:=⟨u.id,u.ver,u.key,eV u⟩
def VZ{u:UV}(h:eV u=true):1<=u.ver/\u.ver<=64:=by unfold eV at h;rw [dJ] at h;exact of_decide_eq_true h.1
def Cy{l:bZ}{u:UV}:pe l (cy u)=true↔(eV u=true/\u.ver=((cB l u.id).length:Int)+1):=by unfold pe cy;rw [dJ,decide_eq_true_eq]
def mq.step{l:bZ}(h:mq l)(u:UV):mq (kJ l (cy u)):=by
 unfold kJ;split
 .rename_i hk;obtain⟨h1,h2⟩:=Cy.1 hk;have h3:=VZ h1;refine h.put ?_;show(cB l u.id++[u.key]).length<=64;rw [aV];show(cB l u.id).length+1<=64;omega
 .exact h
theorem Vn:∀(l:bZ) (id:ae) (ks:aX),(kk l id ks).length<=l.length+1
 | [],_,_=>aQ _
 | e::l,id,ks=>by
  unfold kk;split
  .exact Nat.succ_le_succ (Vn l id ks)
  .split
   .exact DU _
   .exact aQ _
def aC2(l:bZ)(u:wm):(kJ l u).length<=l.length+1:=by
 unfold kJ;split
 .exact Vn _ _ _
 .exact DU _
def CR(h:ae->Option fv)(l:bZ):Prop:=∀k,(∀s,h k=some s->s.l≠[]/\cB l k=s.l)/\(h k=none->cB l k=[])
def CR.nil:CR (λ_=>none) []:=λ_=>⟨λ_ h=>(by cases h),λ_=>rfl⟩
def CR.put{h:ae->Option fv}{l:bZ}(ht:CR h l)(k:ae)(s:fv)(hs:s.l≠[]):CR (nt h k s) (kk l k s.l):=λx=>by
 unfold nt;rw [Fm];by_cases c:x=k
 .rw [if_pos c,if_pos c];exact⟨λs' e=>by injection e with e;subst e;exact⟨hs,rfl⟩,λe=>by cases e⟩
 .rw [if_neg c,if_neg c];exact ht x
def FT(g:ae->Option fv)(l:bZ)(k:ae):aX:=match g k with
  | some s=>if s.l=[] then cB l k else s.l
  | none=>cB l k
abbrev pZ(d:ae×fv):yv:=(d.1,d.2.l)
def alV(l es:bZ)(e:yv):uI l (es++[e])=if e.2=[] then uI l es else kk (uI l es) e.1 e.2:=by unfold uI;rw [List.foldl_append];rfl
theorem avR{g:ae->Option fv}{l:bZ}{done:List (ae×fv)}(hn:(done.map (·.1)).Nodup)(h1:∀d∈done,g d.1=some d.2)(h2:∀k s,g k=some s->(k,s)∈done)(k:ae):cB (uI l (done.map pZ)) k=FT g l k:=by
 have hp:(done.map pZ).Pairwise λa b=>a.1≠b.1:=by rw [QQ];exact QQ.1 hn
 rw [UL hp];unfold FT;cases hg:g k with
 | none =>
  rw [Ve λe he hk=>?_,if_pos rfl];obtain⟨d,hd,rfl⟩:=dv.1 he;have:=h1 d hd;rw [show d.1=k from hk,hg] at this
  cases this
 | some s =>
  have:=PE hp (dv.2 ⟨_,h2 k s hg,rfl⟩);rw [show cB (done.map pZ) k=s.l from this]
def avS{g:ae->Option fv}(h:∀k,g k=none)(l:bZ)(k:ae):FT g l k=cB l k:=by unfold FT;rw [h k]
theorem mo.zero{κ ν:Type}{T:nK κ ν}{ok:κ->Prop}{es:Array MapEntry}{clock:Nat}{f:κ->Option ν}(h:mo T ok es clock 0 f)(k:κ):f k=none:=by
 cases hf:f k with
 | none=>rfl
 | some v =>
  obtain⟨e,he,_⟩:=h.at_ k v hf;have:=h.size;have h0:es.toList=[]:=List.eq_nil_of_length_eq_zero (by simpa using this);rw [h0] at he
  cases he
abbrev yw(ro:j5):Fence:={ n5 with round:=ro }
class s7 (Q:bK):Prop where
  no:∀a w,¬Q .outgrown a w
instance{K:fg}{Q:bK}[h:s7 Q]:s7 (Exit.then K Q):=⟨λa w hq=>h.no a w hq⟩
instance{id:Nat}{Q:bK}[h:s7 Q]:s7 (fB id Q):=⟨λa w hq=>h.no a w hq⟩
instance{Q:bK}[h:s7 Q]:s7 (NoPanic Q):=⟨λa w hq=>h.no a w hq⟩
def XR{ro:j5}{n:Nat}{P:Program}{f:FuncId}{args:ct}{w:yp}{R:Ending->aE}(h:Calls P f args w R):CallsIn (yw ro) n P f args w R:=(callsIn_wide (n:=n)).2 h
def azF{ro:j5}{n:Nat}{P:Program}{row:String}{args:ct}{w:yp}{R:Value->aE}(h:Rows P row args w R):RowsIn (yw ro) n P row args w R:=λc cs _=>by obtain⟨v,w',r,s⟩:=h c cs;exact⟨v,w',r,(stepsIn_wide (P:=P)).2 s⟩
section
variable{P:Program}{ro:j5}{n:Nat}{Q:bK}{ops:aZ}
def acU[hQ:s7 Q]{o:Oper}{a:Act}{w:yp}{next:fg}(hd:∀c,o.op ≠ .defer c)(h:o.wp P a w next Q\/(o.asks P a w/\LetsOut Q)):o.wpIn (yw ro) n P a w next Q:=by
 rcases h with h|⟨_,a',w',h⟩
 .refine⟨λ_ _=>trivial,?_⟩
  rw [Oper.semAt_eq _ _ _ hd];unfold fW at h;generalize (execOp a.eval o).run P w=r at *;cases r with
  | ok x w' =>
   cases x with
   | enter f args=>exact⟨λe=>(by cases e),XR h⟩
   | row row args=>exact⟨λe=>(by cases e),azF h⟩
   | _=>first|exact h|exact h.elim
  | halt x w'=>cases x<;>exact h
 .exact absurd h (hQ.no a' w')
def zt(l:aN):Bool:=l.all λo=>match o.op with | .defer _=>false|_=>true
def acC{l:aN}(h:zt l=true){o:Oper}(ho:o∈l):∀c,o.op ≠ .defer c:=λc e=>by have:=List.all_eq_true.1 h o ho;rw [e] at this;cases this
theorem O3[s7 Q]:∀{l:aN} {a:Act} {w:yp},zt l=true->wpList P ops Q l a w->wpListIn (yw ro) n P ops Q l a w
 | [],_,_,_,h=>h
 | o::l,a,w,hd,h=>by
  have hd':zt l=true:=by unfold zt at hd ⊢;rw [List.all_cons,dJ] at hd;exact hd.2
  unfold wpList at h;unfold wpListIn;split
  .rename_i hw;rw [if_pos hw] at h;exact acU (acC hd eh) (h.imp (Oper.wp_mono λa' w' h'=>O3 hd' h') id)
  .rename_i hw;rw [if_neg hw] at h;exact⟨λ_ _=>trivial,O3 hd' h⟩
end
def DX(ro:j5)(n:Nat)(b:bO)(c:Code)(Q:bK)(N:Nat)(e:Env):Prop:=∀a w,iz b N e a w->c.wpIn (yw ro) n prog Q a w
section
variable{T:eG}{ro:j5}{n:Nat}{b:bO}{Q:bK}{N:Nat}{e e':Env}{E:aG}{L:aH}{R:bF}{F M:aE}{id:Nat}{l l':aN}{x y:Code}
def aeE[s7 Q](hd:zt l=true)(h:a9 prog b l.toArray Q N l e):DX ro n b (.region id l.toArray false) Q N e:=λa w hs=>wpIn_region_lit (O3 hd (h a w hs))
def ayD{E':aG}{L':aH}[s7 Q](hd:zt l=true)(hT:fh prog T)(h:oL T l.toArray N l E L=([],E',L'))(hn:cl b (Q .normal) N ⟨E',L',R,F,M⟩):DX ro n b (.region id l.toArray false) Q N ⟨E,L,R,F,M⟩:=aeE hd (FB hT h (ah hn))
def ayE{c:Code}(h:DX ro n b c (fB id Q) N e):DX ro n b (.block id c) Q N e:=λa w hs=>wpIn_block (h a w hs)
end
def M3(l:Nat)(args:cU)(Fy:aE)(r r1 r0:fS):Prop:=∀(w:yp) (S:cn),r.holds w S->iu S Fy w->∀m,YieldAt n5 m prog l args.toArray w λe w'=>∃(t:Bool) (S':cn),e = .returned (.bool t)/\dO S w w'/\(bif t then r1 else r0).holds w' S'/\∀k,S' k->k<w.heap.size->S k
def Mq{r:fS}{w:yp}{S:cn}:gD [r] w S↔r.holds w S:=by
 constructor
 .rintro⟨S1,S2,h1,h2,h3,_⟩
  have:S=S1:=funext λk=>propext ⟨λh=>((h3 k).1 h).resolve_right (h2 k),λh=>(h3 k).2 (.inl h)⟩
  rwa [this]
 .exact λh=>⟨S,λ_=>False,h,λ_ h=>h,λk=>⟨.inl,λh=>h.elim id tP⟩,λ_ _ h=>h⟩
def D2(ro:j5)(n:Nat)(b:bO)(ops:aZ)(Q:bK)(N:Nat)(l:aN)(e:Env):Prop:=∀a w,iz b N e a w->wpListIn (yw ro) n prog ops Q l a w
section
variable{ro:j5}{n:Nat}{b:bO}{ops:aZ}{Q:bK}{N:Nat}{e:Env}{E:aG}{L L0:aH}{R R':bF}{F M:aE}{o:Oper}{rest l:aN}{k:Nat}{y:Operand}{xs:na}{ats:mX}{svs:nH}{Inv:aE}
def aCT[s7 Q](hd:zt l=true)(h:a9 prog b ops Q N l e):D2 ro n b ops Q N l e:=λa w hs=>O3 hd (h a w hs)
def aCW{g:Nat}{r r1 r0:fS}{Fy:aE}(args:cU)(hg:o.guard=none)(hd:o.dst=some k)(hk:aW k N=true)(ho:o.op = .call { callee:=.value y,args:=xs,argTypes:=ats })(hy:aP E y=some (.v (.func (.yield g) #[] #[])))(hx:lg E xs.toList=some svs)
 (ha:∀G:aK,svs.map (aq.den G)=args)(hs:M3 g args Fy r r1 r0)(hF:∀w,F w->M w->Fy w)(hn:∀t:Bool,D2 ro n b ops Q N rest ⟨(k,.v (.bool t))::E,L,(bif t then r1 else r0)::R',F,M⟩):D2 ro n b ops Q N (o::rest) ⟨E,L,r::R',F,M⟩:=λa w ⟨G,S,h1,h2,h3⟩=>by
 have ab:a.eval y = .func (.yield g) #[] #[]:=h1.eval (bH hy);have hm:=ya (args:=(svs.map (aq.den G)).toArray) (h1.Af _ _ (by rw [vh hx]));rw [ha G] at hm;obtain⟨S1,S2,k1,k2,cl,kd⟩:=bj.split (own:=[r]) h3;obtain⟨fn,tmps,assign,body,hyr,hR⟩:=hs w S1 (Mq.1 k1) ((h3.all.imp λw hw=>hF w hw.1 hw.2).less λk _ hk=>.inr (.inl ((cl k).2 (.inl hk)))) (n-1)
 have iy:(execOp a.eval o).run prog w = .ok (.round g fn tmps assign body) w:=by unfold execOp;simp only [ho,resolve,ab,hm,Deferred.ofValue,bI,bM,bS,invoke];simp [hyr]
 unfold wpListIn
 rw [if_pos (by simp [aU,hg])];refine⟨λ_ _=>trivial,?_⟩;rw [Oper.semAt_eq _ _ _ (λc e=>by rw [ho] at e;cases e),iy];refine⟨λe=>(by cases e),?_⟩;have hR':RoundIn (yw ro) (n-1) prog g fn tmps assign body w _:=hR;refine hR'.mono ?_
 rintro ex w' ⟨t,S',rfl,hc,hr',hS'⟩
 rw [hd];have h5:=h1.put hk (.bool t);exact hn t _ w' ⟨G,λk=>S' k\/S2 k,h5,h2.cons trivial,bj.Uz (own:=[r]) (own':=[bif t then r1 else r0]) h3 k2 cl kd hc (Mq.2 hr') hS'⟩
instance{fn:Func}{b:bO}{α:Type}{post:fm α}:s7 (bodyPost prog fn (tk b post)):=⟨λa w hq=>by obtain⟨_,_,h,_⟩:=hq;cases h⟩
def aAU{c:Code}(h:DX none 0 b c Q N e):cN prog b c Q N e:=λa w hs=>(wpIn_wide (n:=0)).1 (h a w hs)
end
def oz(ds:List Deferred)(a:Act):Act:={ a with defers:=a.defers++ds }
def IG(ds:List Deferred)(a:Act)(d:Option Tmp)(v:Value):(oz ds a).put d v=oz ds (a.put d v):=by cases d<;>rfl
def Gx(ds:List Deferred)(Q:bK):bK:=λe a w=>Q e (oz ds a) w
def qC(ds:List Deferred)(b:bO)(c:Code)(Q:bK)(N:Nat)(e:Env):Prop:=∀a w,iz b N e a w->c.wp prog Q (oz ds a) w
def Ft(ds:List Deferred)(b:bO)(K:fg)(N:Nat)(e:Env):Prop:=∀a w,iz b N e a w->K (oz ds a) w
section
variable{P:Program}{ds:List Deferred}{Q:bK}{ops:aZ}
def avK{o:Oper}{a:Act}{w:yp}{next next':fg}(hn:∀a w,next a w->next' (oz ds a) w)(h:o.wp P a w next (Gx ds Q)\/(o.asks P a w/\LetsOut (Gx ds Q))):o.wp P (oz ds a) w next' Q\/(o.asks P (oz ds a) w/\LetsOut Q):=by
 rcases h with h|⟨h1,a',w',h2⟩
 .refine .inl ?_
  unfold fW at h ⊢;have e:(oz ds a).eval=a.eval:=rfl;rw [e];generalize (execOp a.eval o).run P w=r at *;cases r with
  | ok x w' =>
   cases x with
   | value v =>
    show next' ((oz ds a).put o.dst v) w'
    rw [IG];exact hn _ _ h
   | skip =>
    show next' ((oz ds a).put o.dst undef) w'
    rw [IG];exact hn _ _ h
   | defer d =>
    have h':next (({ a with defers:=d::a.defers }:Act).put o.dst undef) w':=h;have h2:=hn _ _ h';rw [<-IG] at h2;exact h2
   | enter f args =>
    have h':Calls P f args w' _:=h;refine h'.mono λe w'' he=>?_
    cases e with
    | returned v =>
     show next' ((oz ds a).put o.dst v) w''
     rw [IG];exact hn _ _ he
    | panicked c=>exact he
    | outgrown =>
     obtain⟨a1,w1,h1⟩:=he;exact⟨_,w1,h1⟩
   | row row args =>
    have h':Rows P row args w' _:=h;refine h'.mono λv w'' he=>?_
    show next' ((oz ds a).put o.dst v) w''
    rw [IG];exact hn _ _ he
   | _=>exact h.elim
  | halt x w'=>cases x<;>exact h
 .exact .inr ⟨h1,_,w',h2⟩
theorem UB:∀{l:aN} {a:Act} {w:yp},wpList P ops (Gx ds Q) l a w->wpList P ops Q l (oz ds a) w
 | [],_,_,h=>h
 | o::l,a,w,h=>by
  unfold wpList at h ⊢;have e:(oz ds a).tmps=a.tmps:=rfl;rw [e];split
  .rename_i hw;rw [if_pos hw] at h;exact avK (λa' w' h'=>UB h') h
  .rename_i hw;rw [if_neg hw] at h;rw [IG];exact UB h
end
section
variable{T:eG}{ds:List Deferred}{b:bO}{Q:bK}{N:Nat}{e e':Env}{E:aG}{L:aH}{R:bF}{F M:aE}{id:Nat}{l l':aN}{x y:Code}
def amV{c:Code}(hw:gj e e')(h:qC ds b c Q N e'):qC ds b c Q N e:=λa w hs=>h a w (hs.I0 hw)
def X9(h:∀K:fg,(∀e',qC ds b y Q N e'->Ft ds b K N e')->qC ds b x (Exit.then K Q) N e):qC ds b (.seq x y) Q N e:=λa w hs =>
 wp_seq_k λK hK=>h K (λ_ h' a' w' hs'=>hK _ _ (h' a' w' hs')) a w hs
def X7(h:a9 prog b l.toArray (Gx ds Q) N l e):qC ds b (.region id l.toArray false) Q N e:=λa w hs=>wp_region_lit (UB (h a w hs))
def amQ{E':aG}{L':aH}(hT:fh prog T)(h:oL T l.toArray N l E L=([],E',L'))(hn:qC ds b y Q N ⟨E',L',R,F,M⟩):qC ds b (.seq (.region id l.toArray false) y) Q N ⟨E,L,R,F,M⟩ :=
 X9 λ_ hK=>X7 (FB hT h (ah (hK _ hn)))
def X8{E':aG}{L':aH}(hT:fh prog T)(h:oL T l.toArray N l E L=(l',E',L'))(hn:∀K:fg,(∀e',qC ds b y Q N e'->Ft ds b K N e')->a9 prog b l.toArray (Gx ds (Exit.then K Q)) N l' ⟨E',L',R,F,M⟩):qC ds b (.seq (.region id l.toArray false) y) Q N ⟨E,L,R,F,M⟩ :=
 X9 λK hK=>X7 (FB hT h (hn K hK))
def X6{ops:aZ}{K:fg}(h:Ft ds b K N e):a9 prog b ops (Gx ds (Exit.then K Q)) N [] e:=λa w hs=>h a w hs
def amR{c:Code}(h:qC ds b c (fB id Q) N e):qC ds b (.block id c) Q N e:=λa w hs=>wp_block (h a w hs)
def amT(h:Ft ds b (Q .ret) N e):qC ds b .ret Q N e:=λa w hs=>wp_ret (h a w hs)
end
def vZ(D:Nat):fS where
  holds w S:=w.heap[D]?=some (.deferred (some []))/\∀k,S k↔k=D
  fO:=λ⟨h1,h2⟩ hk=>⟨(hk D ((h2 D).2 rfl)).trans h1,h2⟩
  lt:=λ⟨h1,h2⟩ k hk=>by rw [(h2 k).1 hk];exact(po.1 h1).1
abbrev yE(D:Nat):Deferred:={ target:=.collected D,args:=#[] }
abbrev RU(fn:Func)(R:Ending->aE):bK:=bodyPostM n5 0 prog fn R
def Nk(w:yp)(l:Nat)(o:Obj):dO (λk=>k=l) w (w.putObj l o):=⟨rfl,rfl,rfl,by simp,λk _ hn=>World.putObj_heap_other hn⟩
def bj.drop{b:bO}{G:aK}{S:cn}{L:aH}{r:fS}{R:bF}{F M:aE}{w w':yp}{D:Nat}(h:bj b G S L (r::R) F M w)(hr:∀S1,r.holds w S1->S1 D)(hc:dO (λk=>k=D) w w'):∃S2,bj b G S2 L R F M w':=by
 obtain⟨S1,S2,h1,h2,h3,h4⟩:=h.res;have hD:∀k,k=D->S1 k:=λk hk=>by rw [hk];exact hr S1 h1
 have:=h.Nl (R':=R) (S1:=S1) (S2:=S2) (S':=λ_=>False) h3 (hc.mono λk _ hk=>hD k hk) ((h2.fO λk hk=>hc.block k (h2.lt k hk) λe=>h4 k (hD k e) hk).same λk=>⟨.inr,λh=>h.elim tP id⟩) λ_ h _=>h.elim;exact⟨_,this⟩
theorem aaR{b:bO}{fn:Func}{N:Nat}{E:aG}{L:aH}{R:bF}{F M:aE}{α:Type}{post:fm α}:∀(jJ:aC),cl b (bodyPost prog fn (tk b post) .ret) N ⟨E,L,R,F,M⟩->Ft (jJ.map yE) b (RU fn (tk b post) .ret) N ⟨E,L,jJ.map vZ++R,F,M⟩
 | [],h=>λa w hs=>by
  have h1:=(h a w hs).2;have e:(oz ([].map yE) a).defers=[]:=by obtain⟨G,S,h3⟩:=hs;show a.defers++[]=[];rw [fj];exact h3.fr.defers
  show LeavesInM n5 0 prog fn a.tmps (tk b post) (oz ([].map yE) a).defers .returning w;rw [e];exact h1
 | D::jJ,h=>λa w ⟨G,S,h1,h2,h3⟩=>by obtain⟨S1,S2,k1,_⟩:=h3.res;obtain⟨S3,h4⟩:=bj.drop (D:=D) h3 (λS1 bm=>(bm.2 D).2 rfl) (Nk w D (.deferred none));have h5:=aaR jJ h a _ ⟨G,S3,h1,h2,h4⟩;have e0:a.defers=[]:=h1.defers;show LeavesInM n5 0 prog fn a.tmps (tk b post) (a.defers++yE D::jJ.map yE) .returning w;have h6:LeavesInM n5 0 prog fn a.tmps (tk b post) (a.defers++jJ.map yE) .returning (w.putObj D (.deferred none)):=h5;rw [e0] at h6 ⊢;exact⟨λe=>(by cases e),.inl ⟨D,_,rfl,run_takeDeferred k1.1,h6⟩⟩
def aBT{f:FuncId}{fn:Func}{c:Code}{own:bF}{F:aE}{α:Type}{post:fm α}(vs:oG)(N:Nat)(hf:prog.funcs[f]?=some fn)(hb:fn.body=some c)(hn:vs.length+(fn.ntmps-vs.length)=N)(ab:∀v∈vs,v.aI)
 (h:∀b:bO,qC [] b c (RU fn (tk b post)) N ⟨Eg 0 vs,[],own,F,λ_=>True⟩):Spec f (vs.map aL.den) own F post:=λw S X bm hX hF=>by
 refine(callsIn_wide (n:=0)).1 (callsIn_of_wp_marks hf hb trivial ((wpIn_wide (n:=0)).2 ?_) rfl)
 have key:∀a,Fr N (bG (λ_=>0) (Eg 0 vs)) a->c.wp prog (RU fn (tk ⟨X,w,S⟩ post)) a w:=λa ha=>by
  have h1:=h ⟨X,w,S⟩ a w ⟨λ_=>0,S,ha,RK ab,λx hx=>(by cases hx),qE,bm,λx hx=>(by cases hx),?_,λ_ _=>trivial,dO.refl _ _,λk hk _=>?_,hX⟩
  .have:oz [] a=a:=by
    unfold oz;rw [fj]
   rwa [this] at h1
  .exact hF.less λk _ hk=>hk.imp id λhk=>hk.elim id λ⟨j,hj,_⟩=>by cases hj
  .exact hk.elim id λ⟨j,hj,_⟩=>by cases hj
 exact key _ (Fr.start (by simpa using hn) _ λk v hk=>by rw [RJ] at hk;have:=(RI (vs.map aL.den) 0 k v hk).2;simpa using this)
end Go.Proofs.Q
