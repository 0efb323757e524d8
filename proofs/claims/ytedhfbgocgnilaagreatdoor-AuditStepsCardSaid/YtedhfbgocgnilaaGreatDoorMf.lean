import Derived.Test.YtedhfbgocgnilaaGreatDoorMb
import Derived.Test.YtedhfbgocgnilaaGreatDoorMd
import Derived.Test.YtedhfbgocgnilaaGreatDoorMc
import Derived.Test.YtedhfbgocgnilaaGreatDoorMe
import Derived.Maps.OwnSet
import Derived.DeepKeys4
import Derived.Carry
open Iff renaming rfl->mG
open Go.Addr renaming add_mid->lf
open Option.some renaming inj->jm
open Go.Sem renaming run_bind->bI,run_pure->bM
open Go.Result renaming andThen_ok->bS
open Go renaming Value->yl,Program->ym,TypeId->yn,Operand->yo,World->yp
set_option linter.defProp false
open Go.Proofs.Tryz
set_option maxRecDepth 100000
set_option maxHeartbeats 4000000
open Array renaming getElem?_append_right->sM,length_toList->kD,getElem?_eq_some_iff->po,toList_append->wC
open Bool renaming and_eq_false_iff->vY,and_eq_true->dJ
open False renaming elim->tP
open Go.Instr renaming typeAssert->nG
open Go.IntKind renaming signed->mO,bits->oB,wrap->rB
open Go.Op renaming equalIn->cO
open Go.Region renaming wanted->aU
open Go.Value renaming int->bQ,bool->oE,iface->rJ
open Go.World renaming alloc_heap_new->vP,size_alloc->wD
open Int renaming tdiv_eq_ediv_of_nonneg->tL,tmod_eq_emod_of_nonneg->GU
open List renaming length_filter_le->cT,drop_append_of_le_length->lJ,getElem_append_right->tI,length_eq_one_iff->vL,append_nil->fj,eq_nil_of_length_eq_zero->lB,length_append->aV,mem_singleton->bU,getElem?_eq_getElem->da,mem_cons->bT,getElem?_eq_some_iff->eY,mem_cons_of_mem->dS,mem_of_getElem?->eg,mem_cons_self->eh,length_take->du,append_assoc->ei,mem_map->dv,length_cons->fL,getElem?_append_right->rz,take_append_drop->oN,length_drop->k7,nil_append->lD,getElem?_append_left->uk,cons_append->AO,size_toArray->fx,take_of_length_le->kE,not_mem_nil->xG,take_length->kW,take_succ_eq_append_getElem->Eu,drop_of_length_le->um,take_append_of_le_length->KU,getElem_append_left->PH,length_singleton->oM,mem_filter->BO
open Nat renaming blt->aW,beq->b9,lt_succ_self->k9,add_le_add_right->lK,zero_lt_one->lY,strongRecOn->qP,le_add_right->rZ,le_refl->aQ,zero_le->bl,lt_of_lt_of_le->nP,lt_of_le_of_lt->nc,add_assoc->kZ,add_zero->jP,le_trans->fo,one_mul->qI,le_of_eq->vF,mod_eq_of_lt->gm,div_le_self->qA,le_succ->DU
open Option renaming map_eq_some_iff->uD
namespace Go.Proofs.Q
open Go.RowKit Go.IntWalk Nums
def F0{n:Nat}{l:ae}{j:Nat}(hj:j<l.length):(a7 [.agg n (By l).toArray])[0+1*j]?=some (.int .u8 ((l[j]!).toNat:Int)):=by rw [Nat.zero_add,qI];show(By l).toArray[j]?=_;exact ub hj
def an6(v i:Nat):v/2^(i+1)=v/2^i/2:=by rw [Nat.pow_succ,Nat.div_div_eq_div_mul]
def Vz{k:ae}(hk:k.length=32)(n:Nat)(hn:n<256):Spec 68 [(aw 32 k).den,.int .i64 (n:Int)] [] (λ_=>True) (one (.v (.int .i64 ((b7 k n:Nat):Int)))):=by
 refine bA [aw 32 k,.c (.v (.int .i64 (n:Int)))] 23 func68 rfl (ab:=dZ (cq hk).1 trivial) λb=>ag rfl (aA rfl λK hK=>ca 8 ((n/8:Nat):Int) rfl (I6 n 8 (by omega)) (b6 (.a 2 (0+1*(n/8))) rfl (eO (n/8) rfl dp rfl rfl rfl (by omega)) (jq (.v (.int .u8 ((k[n/8]!).toNat:Int))) rfl (jV _ rfl rfl rfl (F0 (by omega)) nu rfl) (aj rfl ?_))));have al:=(k[n/8]!).toNat_lt;generalize ab:(k[n/8]!).toNat=v at *;refine ca 5 (v:Int) rfl (jv rfl (by omega) (by omega)) (ah (hK _ ?_));have aa4:IntKind.i64.wrap (7-(n:Int).tmod 8)=((7-n%8:Nat):Int):=jv (by rw [GU (by omega)];omega) (by omega) (by omega);refine ao λKl hKl=>ag rfl (a8 ?_);let F:Nat->Env:=λi=>⟨[(6,.aT i),(5,.aT (v/2^i)),(1,.aT n)],[],[],λ_=>True,λ_=>True⟩;refine cI (e':=F 0) ⟨⟨rfl,congrArg some (congrArg aq.v (congrArg (bQ .i64) (by rw [Nat.pow_zero,Nat.div_one]))),rfl,trivial⟩,trivial,.refl _,aD, au⟩ (cY (λi=>7-n%8-i) F (λi=>i<=7-n%8) ?_ 0 (bl _));intro i hi;refine ao λK1 aS=>ag rfl ?_;refine bn ((i:Int)<IntKind.i64.wrap (7-(n:Int).tmod 8)) rfl (λnk=>?_) (λcW=>?_)
 .rw [aa4] at nk
  have sw:i<7-n%8:=by omega
  refine aR (aS _ (ao λK4 bW=>a8 (cE rfl (bW _ (cE rfl ?_)))));have hb:v/2^i<=v:=qA _ _;exact cH (i+1) sw (by omega) ⟨⟨pC (by omega) (by omega),congrArg some (congrArg aq.v (congrArg (bQ .i64) (by rw [an6];exact I6 (v/2^i) 2 (by omega)))),rfl,trivial⟩,trivial,.refl _,aD, au⟩
 .rw [aa4] at cW
  obtain rfl:i=7-n%8:=by omega
  refine cG (a6 (a6 (cF (hKl _ ?_))));have hb:v/2^(7-n%8)<=v:=qA _ _;refine ag rfl ?_;have qR:b7 k n=v/2^(7-n%8)%2:=by unfold b7;rw [ab]
  exact aJ (x8 an () rfl rfl (by show bQ .i64 ((b7 k n:Nat):Int)=bQ .i64 (((v/2^(7-n%8):Nat):Int).tmod 2);exact congrArg (bQ .i64) (by rw [qR];generalize v/2^(7-n%8)=z;rw [GU (Int.natCast_nonneg z)];omega)) trivial rfl aD au)
theorem abF:∀(i:Nat) {a b:ae},i<a.length->i<b.length->a.take i=b.take i->a[i]! ≠ b[i]! -> eP a b=decide ((a[i]!).toNat<(b[i]!).toNat)
 | _,[],_,h,_,_,_=>by cases h
 | _,_::_,[],_,h,_,_=>by cases h
 | 0,a::p,b::q,_,_,_,h=>by have h:a≠b:=h;show(if a=b then _ else _)=_;rw [if_neg h];rfl
 | i+1,a::p,b::q,ha,hb,ht,h=>by simp only [List.take_succ_cons,List.cons.injEq] at ht;show(if a=b then _ else _)=_;rw [if_pos ht.1];exact abF i (a:=p) (b:=q) (by simpa using ha) (by simpa using hb) ht.2 h
def aCY{i:Nat}{a b:ae}(ha:i<a.length)(hb:i<b.length)(ht:a.take i=b.take i)(h:a[i]! = b[i]!):a.take (i+1)=b.take (i+1):=by rw [Eu ha,Eu hb,ht];rw [getElem!_pos a i ha,getElem!_pos b i hb] at h;rw [h]
def az3{x y:ae}(hx:x.length=32)(hy:y.length=32):Spec 47 [(aw 32 x).den,(aw 32 y).den] [] (λ_=>True) (one (.q (.c (.b (eP x y))))):=by
 refine bA [aw 32 x,aw 32 y] 24 func47 rfl (ab:=dZ (cq hx).1 (cq hy).1) λb=>ag rfl (ao λK hK=>ag rfl (a8 ?_));let F:Nat->Env:=λi=>⟨[(6,.aT i),(2,.a 2 0),(3,.a 3 0)],[⟨3,none,47,[.agg 32 (By y).toArray]⟩,⟨2,none,47,[.agg 32 (By x).toArray]⟩],[],λ_=>True,λ_=>True⟩;refine cI (e':=F 0) ⟨dB rfl, c8 rfl rfl, .refl _,aD, au⟩ (cY (λi=>32-i) F (λi=>i<=32/\x.take i=y.take i) ?_ 0 ⟨bl _,rfl⟩);rintro i ⟨hi,ht⟩;refine ag rfl (ao λK1 aS=>?_);refine bn ((i:Int)<32) rfl (λal=>?_) (λcW=>?_)
 .have sw:i<32:=by omega
  refine aR (aS _ (ao λK2 aM=>a8 (ag rfl (rT 7 λK3 bu G S w0 aa=>fa an aa rfl (oZ (.a 2 (0+1*i)) rfl (eO i rfl dp rfl rfl rfl sw) (xH aa (.v (.int .u8 ((x[i]!).toNat:Int))) rfl (jV _ rfl rfl rfl (F0 (by omega)) nu rfl) (fa an aa rfl (oZ (.a 3 (0+1*i)) rfl (eO i rfl dp rfl rfl rfl sw) (xH aa (.v (.int .u8 ((y[i]!).toNat:Int))) rfl (jV _ rfl rfl rfl (F0 (by omega)) nu rfl) (fa an aa rfl (p1 aa (ah (bu _ ?_)))))))))))));refine bn (((x[i]!).toNat:Int)≠((y[i]!).toNat:Int)) rfl (λb8=>?_) (λhe=>?_)
  .have b8:x[i]! ≠ y[i]!:=λe=>b8 (by rw [e]);refine rT 7 λK4 bW G S w0 aa=>fa an aa rfl (oZ (.a 2 (0+1*i)) rfl (eO i rfl dp rfl rfl rfl sw) (xH aa (.v (.int .u8 ((x[i]!).toNat:Int))) rfl (jV _ rfl rfl rfl (F0 (by omega)) nu rfl) (fa an aa rfl (oZ (.a 3 (0+1*i)) rfl (eO i rfl dp rfl rfl rfl sw) (xH aa (.v (.int .u8 ((y[i]!).toNat:Int))) rfl (jV _ rfl rfl rfl (F0 (by omega)) nu rfl) (fa an aa rfl (p1 aa (aj rfl (ah (bW _ ?_))))))))));exact aJ (x8 an () rfl rfl (by rw [abF i (by omega) (by omega) ht b8];show oE _=oE _;congr 1;exact decide_eq_decide.2 (by omega)) trivial rfl aD au)
  .have he:x[i]! = y[i]!:=UInt8.toNat_inj.1 (by omega);refine aR (aM _ (cE rfl ?_));exact cH (i+1) ⟨sw,aCY (by omega) (by omega) ht he⟩ (by omega) ⟨⟨pC (by omega) (by omega),rfl,rfl,trivial⟩,c8 rfl rfl, .refl _,aD, au⟩
 .obtain rfl:i=32:=by omega
  have e:x=y:=by rw [kE (by omega),kE (by omega)] at ht;exact ht
  refine cG (a6 (a6 (cF (hK _ (ag rfl ?_)))));exact aJ (x8 an () rfl rfl (by rw [e,sb];rfl) trivial rfl aD au)
def kf(p:dD):aL:=.p [.agg 32 (By p.1).toArray,.agg 32 (By p.2).toArray]
def lW(p:dD):Prop:=p.1.length=32/\p.2.length=32
def JH{p:dD}(h:lW p):ch (kf p).fA/\(kf p).cp.length=64:=by
 have h1:(By p.1).toArray.size=32:=by rw [fx,dH,h.1]
 have h2:(By p.2).toArray.size=32:=by rw [fx,dH,h.2]
 refine⟨λq hq=>?_,?_⟩
 .rcases bT.1 hq with rfl|hq
  .exact⟨h1,qp p.1⟩
  .rw [bU.1 hq];exact⟨h2,qp p.2⟩
 .rw [aL.cp,kD];show(a7 [bz.agg 32 (By p.1).toArray,.agg 32 (By p.2).toArray]).size=64;rw [lE,Array.size_append];simp [bz.cells,a7,dH,h.1,h.2]
def Yn{p:dD}(h:ch (kf p).fA):lW p:=by have h1:=(h (.agg 32 (By p.1).toArray) (by simp [kf,aL.fA])).1;have h2:=(h (.agg 32 (By p.2).toArray) (by simp [kf,aL.fA])).1;rw [fx,dH] at h1 h2;exact⟨h1,h2⟩
abbrev pP:=aO×Nat
theorem Qu:∀(r:Nat) (l:dm),(iw r l).length=32
 | r,[]=>by rw [Lm];rfl
 | r,[p]=>by rw [HY];exact nT _
 | 0,_::_::_=>rfl
 | r+1,p::q::l=>by rw [O7 (by simp)];exact nT _
def zF{P:ym}{N:Nat}{E:aG}{o:Oper}{x:yo}{t e:yn}{g off n sz:Nat}(ho:o.op = .slice t x none none none)(ht:P.underlying t=some (.array n e))(he:(P.info? e).map (·.size)=some sz)(hx:aP E x=some (.v (.pointer (some ⟨g,off,none⟩)))) :
  ∀(G:aK) (a:Act) (w:yp),Fr N (bG G E) a->(execOp a.eval o).run P w = .ok (.value ((aq.v (.slice (some ⟨g,off,none⟩) n n)).den G)) w:=λG a w ha=>by
 have h1:a.eval x = .pointer (some ⟨g,off,none⟩):=ha.eval (bH hx);have h5:=run_sizeOf he w
 unfold execOp
 simp only [ho];generalize a.eval=ρ at *;simp only [Option.map,h1]
 show _=Result.ok (Next.value (.slice (some ⟨g,off,none⟩) n n)) w
 simp [Instr.sliceAt,Instr.sureAddr,run_underlying ht,Instr.sliceBounds,h5,bI,lf]
def Ym(p:dD):(kf p).cp=By p.1++By p.2:=by show(a7 [bz.agg 32 (By p.1).toArray,.agg 32 (By p.2).toArray]).toList=_;rw [lE];simp [bz.cells,a7]
def aeO{g o c i:Nat}{l:dm}{p:dD}{w:yp}(h:ar 64 kf (some ⟨g,o,none⟩) c l w)(hi:l[i]?=some p)(hp:lW p) :
  ja w (.slice (some ⟨g,o+64*i,none⟩) 32 32) p.1/\ja w (.slice (some ⟨g,o+64*i+32,none⟩) 32 32) p.2:=by
 obtain⟨_,_,_,_,h5⟩:=h;obtain⟨b',o',e,hb,hr⟩:=h5 (nc (bl _) (eY.1 hi).1)
 injection e with e
 injection e with e1 e2
 subst e1;subst e2;have hr:=hr i p hi;rw [Ym] at hr
 have qc:(By p.1).length=32:=by rw [dH];exact hp.1
 refine⟨⟨_,_,by rw [hp.1],by rw [hp.1];exact aQ _,by decide,λh=>(by cases h),λ_=>⟨_,rfl,bl _,hb,λj x hx=>?_⟩⟩,⟨_,_,by rw [hp.2],by rw [hp.2];exact aQ _,by decide,λh=>(by cases h),λ_=>⟨_,rfl,bl _,hb,λj x hx=>?_⟩⟩⟩
 .have hj:j<32:=by rw [<-hp.1];exact(eY.1 hx).1
  rw [lf];refine hr j _ ?_;rw [uk (by omega)];simp [By,hx]
 .rw [lf,kZ (o+64*i)];refine hr (32+j) _ ?_;rw [rz (by omega),qc,Nat.add_sub_cancel_left];simp [By,hx]
def QU{α:Type}(f:α->Bool){l:List α}{i:Nat}{x:α}(hx:l[i]?=some x):(l.take (i+1)).filter f=(l.take i).filter f++(if f x then [x] else []):=by rw [List.take_add_one,hx,List.filter_append];simp [List.filter_cons]
def Qi:=@underlying86
theorem azG:∀(r:Nat) (l:dm) (A:aO) (c:Nat),r<=256->l.length<=1000000->fK l->lF (256-r) l->Spec 67 [.slice A l.length c,.int .i64 ((256-r:Nat):Int)] [] (ar 64 kf A c l) (one (.q (aw 32 (iw r l)))):=by
 intro r;induction r using qP with
 | ind r ih =>
 intro l A c hr hl hs gR;refine bA [.c (.v (.slice A l.length c)),.c (.v (.int .i64 ((256-r:Nat):Int)))] 62 func67 rfl λb=>?_;refine lQ (∀x∈l,lW x) (λ_ h _=>λx hx=>Yn (h.2.2.2.1 x hx).1) λbx=>?_;refine ag rfl (ao λK hK=>ag rfl ?_);refine bn ((l.length:Int)=0) rfl (λh0=>?_) (λh0=>?_)
 .obtain rfl:l=[]:=lB (by omega);refine ag rfl ?_;exact aJ (x8 an () rfl rfl (by rw [Lm];rfl) (by rw [Lm];exact(cq (n:=32) (l:=dx) rfl).1) rfl aD au)
 refine aR (hK _ (ao λK1 aS=>ag rfl ?_));refine bn ((l.length:Int)=1) rfl (λh1=>?_) (λh1=>?_)
 .obtain⟨p,rfl⟩:∃p,l=[p]:=vL.1 (by omega)
  have hp:lW p:=bx p eh;refine lQ (∃g o,A=some ⟨g,o,none⟩) (λ_ h _=>by obtain⟨g,o,e,_⟩:=h.2.2.2.2 (by simp);exact⟨g,o,e⟩) λ⟨g,o,hA⟩=>?_;subst hA;refine ao λK2 aM=>F8 9 [] (λ_ _ _ _ h=>by cases h) (vd an 1 rfl rfl rfl rfl (λ_ h=>by cases h) (yD (.v (.pointer (some ⟨g,o+64*0,none⟩))) 2 rfl rfl rfl (lO 0 rfl Qi rfl rfl rfl lY) (vd an 3 rfl rfl rfl rfl (λ_ h=>by cases h) (yD (.v (.slice (some ⟨g,o+64*0+0,none⟩) 32 32)) 4 rfl rfl rfl (zF rfl dp rfl rfl) (vd an 5 rfl rfl rfl rfl (λ_ h=>by cases h) (yD (.v (.pointer (some ⟨g,o+64*0,none⟩))) 6 rfl rfl rfl (lO 0 rfl Qi rfl rfl rfl lY) (vd an 7 rfl rfl rfl rfl (λ_ h=>by cases h) (yD (.v (.slice (some ⟨g,o+64*0+32,none⟩) 32 32)) 8 rfl rfl rfl (zF rfl dp rfl rfl) (Bw 0 rfl λK3 bu=>jC an b.B.heap.size [(0:UInt8)] rfl rfl rfl (λ_=>rfl) rfl (mK _) (aQ _) λB=>ah (bu _ (λ_ _ _ _ h=>by cases h) (Bx ?_)))))))))));refine FC an [.v (.slice B 1 1),.v (.slice (some ⟨g,o+64*0+0,none⟩) 32 32),.v (.slice (some ⟨g,o+64*0+32,none⟩) 32 32)] [[0],p.1,p.2] (qW p) rfl rfl rfl rfl rfl rfl rfl rfl rfl (λ_ _=>by go_simp) (λ_=>rfl) rfl (by decide) (by decide) (nT _) (λA w h _ _=>?_) (λG S w h=>?_) λB2=>?_
  .have dU:=VJ A [[0],p.1,p.2] 3 (by simp) (by simp [hp.1,hp.2]) w h;simpa [qW] using dU
  .have h1:=aeO (i:=0) h.fact rfl hp;have h2:ar 1 aY B 1 [0] w:=fu 0 rfl G S w h;exact⟨h2.dw,h1.1,h1.2,trivial⟩
  refine aj rfl (ah (aM _ (mQ 0 rfl ?_)));exact aJ (x8 an () rfl rfl (by rw [HY];rfl) (by rw [HY];exact(cq (n:=32) (nT _)).1) rfl aD au)
 have h2:2<=l.length:=by omega
 have hk:oh l:=λx hx=>(bx x hx).1;obtain⟨q,rfl⟩:∃q,r=q+1:=⟨r-1,by
  by_cases e:r=0
  .subst e;have:=lF.one hs hk gR;omega
  .omega⟩
 have vB:256-q=256-(q+1)+1:=by omega
 have Hv:iw (q+1) l=mz (iw q (dh (256-(q+1)) l)) (iw q (dd (256-(q+1)) l)):=by rw [O7 h2,show 255-q=256-(q+1) by omega]
 have ihL:=λB e=>ih q (by omega) (dh (256-(q+1)) l) B e (by omega) (fo (cT _ _) hl) (hs.filter _) (by rw [vB];exact gR.left);have ihR:=λB e=>ih q (by omega) (dd (256-(q+1)) l) B e (by omega) (fo (cT _ _) hl) (hs.filter _) (by rw [vB];exact gR.right);rw [vB] at ihL ihR;have hd:256-(q+1)<256:=by omega
 clear ih gR vB;generalize 256-(q+1)=d at *;refine aR (aS _ (ag rfl (pF b.B.heap.size 120 64 kf (pF b.B.heap.size 120 64 kf (ao λK2 aM=>ag rfl (a8 ?_))))));let F:Nat×aO×Nat×aO×Nat->Env:=λ⟨i,B1,e1,B2,e2⟩=>⟨[(31,.aT i),(30,.aT l.length),(29,.v (.slice A l.length c)),(1,.aT d),(5,.v (.slice B1 (dh d (l.take i)).length e1)),(6,.v (.slice B2 (dd d (l.take i)).length e2)),(4,.a 4 0)],[⟨4,none,47,[.agg 32 (By dx).toArray]⟩],[bL b.B.heap.size 120 64 kf B1 e1 (dh d (l.take i)),bL b.B.heap.size 120 64 kf B2 e2 (dd d (l.take i))],ar 64 kf A c l,λ_=>True⟩;refine cI (e':=F (0,none,0,none,0)) (fC rfl rfl rfl λ_ h _=>h) (cY (λx=>l.length-x.1) F (λx=>x.1<=l.length) ?_ (0,none,0,none,0) (bl _));rintro⟨i,B1,e1,B2,e2⟩ hi;dsimp only at hi;refine ag rfl (ao λK3 bu=>?_);refine bn ((i:Int)<(l.length:Int)) rfl (λal=>?_) (λcW=>?_)
 .have al:i<l.length:=by omega
  obtain⟨x,hx⟩:∃x,l[i]?=some x:=⟨_,da al⟩;have lI:=bx x (eg hx);have hL:=QU (λx:dD=>b7 x.1 d==0) hx;have hR:=QU (λx:dD=>b7 x.1 d != 0) hx;have lL:(dh d (l.take i)).length<=1000000:=fo (cT _ _) (by rw [du];omega);have lR:(dd d (l.take i)).length<=1000000:=fo (cT _ _) (by rw [du];omega);refine aR (bu _ (ao λK4 bW=>a8 (aA rfl λK5 bN=>jh an rfl rfl rfl i rfl hx rfl rfl (dX λ_ h _=>h) (aj rfl (ah (bN _ (aA rfl λK6 cr=>bY [.agg (By x.1).toArray,.int .i64 (d:Int)] rfl (Vz lI.1 d hd) aD λ_=>aj rfl (ah (cr _ ?_)))))))));refine bn (((b7 x.1 d:Nat):Int)=0) rfl (λhb=>?_) (λhb=>?_)
  .have hb:b7 x.1 d=0:=by omega
   have eL:dh d (l.take (i+1))=dh d (l.take i)++[x]:=by simpa [hb,dh] using hL
   have eR:dd d (l.take (i+1))=dd d (l.take i):=by simpa [hb,dd] using hR
   refine ef (aj rfl (lq an 0 x rfl rfl rfl rfl rfl rfl rfl (JH lI) (by show(_+1)*64<=_;omega) (by omega) (aQ _) λB3 e3=>?_));rw [<-eL];refine aj rfl (ah (bW _ ?_));rw [<-eR];refine cE rfl ?_;exact cH (i+1,B3,e3,B2,e2) al (by show l.length-(i+1)<l.length-i;omega) ⟨⟨pC (by omega) (by omega),rfl,rfl,rfl,rfl,rfl,rfl,trivial⟩,⟨rfl,rfl,trivial⟩,.refl _,λ_ h _=>h.2, au⟩
  .have hb:b7 x.1 d≠0:=by omega
   have eL:dh d (l.take (i+1))=dh d (l.take i):=by simpa [hb,dh] using hL
   have eR:dd d (l.take (i+1))=dd d (l.take i)++[x]:=by simpa [hb,dd] using hR
   refine ef (aj rfl (lq an 1 x rfl rfl rfl rfl rfl rfl rfl (JH lI) (by show(_+1)*64<=_;omega) (by omega) (aQ _) λB3 e3=>?_));rw [<-eR];refine aj rfl (ah (bW _ ?_));rw [<-eL];refine cE rfl ?_;exact cH (i+1,B1,e1,B3,e3) al (by show l.length-(i+1)<l.length-i;omega) ⟨⟨pC (by omega) (by omega),rfl,rfl,rfl,rfl,rfl,rfl,trivial⟩,⟨rfl,rfl,trivial⟩,.refl _,λ_ h _=>h.2, au⟩
 .obtain rfl:i=l.length:=by omega
  refine cG (a6 (a6 (cF (aM _ ?_))));rw [kW];refine IP 1 rfl (aQ _) (IP 0 rfl (aQ _) (aA rfl λK5 bN=>?_));have hd1:IntKind.i64.wrap ((d:Int)+1)=((d+1:Nat):Int):=jv (by omega) (by omega) (by omega);refine ca 51 ((d+1:Nat):Int) rfl hd1 (bY [.slice B1 (dh d l).length e1,.int .i64 ((d+1:Nat):Int)] rfl (ihL B1 e1) (λ_ _ h=>h.1) λ_=>aj rfl (ca 55 ((d+1:Nat):Int) rfl hd1 (bY [.slice B2 (dd d l).length e2,.int .i64 ((d+1:Nat):Int)] rfl (ihR B2 e2) (λ_ _ h=>h.2.2.1) λ_=>aj rfl (ah (bN _ ?_)))));have x32:=Qu q (dh d l);have y32:=Qu q (dd d l);generalize iw q (dh d l)=x at *;generalize iw q (dd d l)=y at *;refine ao λK6 cr=>F8 3 [] (λ_ _ _ _ h=>by cases h) (yD (.s 9 0 32 32) 1 rfl rfl rfl (nv rfl dp rfl rfl) (yD (.s 10 0 32 32) 2 rfl rfl rfl (nv rfl dp rfl rfl) (Bw 0 rfl λK7 df=>jC an b.B.heap.size [(1:UInt8)] rfl rfl rfl (λ_=>rfl) rfl (mK _) (aQ _) λB=>ah (df _ (λ_ _ _ _ h=>by cases h) (Bx ?_)))));refine FC an [.v (.slice B 1 1),.s 9 0 32 32,.s 10 0 32 32] [[1],x,y] (mz x y) rfl rfl rfl rfl rfl rfl rfl rfl rfl (λ_ _=>by go_simp) (λ_=>rfl) rfl (by decide) (by decide) (nT _) (λA w h _ _=>?_) (λG S w h=>?_) λB3=>?_
  .have dU:=VJ A [[1],x,y] 3 (by simp) (by simp [x32,y32]) w h;simpa [mz] using dU
  .have aF:ar 1 aY B 1 [1] w:=fu 0 rfl G S w h;exact⟨aF.dw,sW (j:=9) rfl x32 (by decide) G S w h,sW (j:=10) rfl y32 (by decide) G S w h,trivial⟩
  refine aj rfl (ah (cr _ (mQ 0 rfl ?_)));exact aJ (dk an () rfl rfl (congrArg (λz=>cM.q (aw 32 z)) Hv) rfl aD au)
inductive eW where
  | nil
  | leaf (g h:Nat) (p:dD)
  | node (g:Nat) (a b:eW)
namespace eW
def ptr:eW->j5
  | nil=>none
  | leaf g _ _=>some g
  | node g _ _=>some g
def root:eW->ae
  | nil=>dx
  | leaf _ _ p=>qW p
  | node _ a b=>mz a.root b.root
def len:eW->Nat
  | nil=>0
  | leaf _ _ _=>1
  | node _ a b=>a.len+b.len
def val(t:eW):yl:=.pointer (t.ptr.map λg=>⟨g,0,none⟩)
def all:eW->dm
  | nil=>[]
  | leaf _ _ p=>[p]
  | node _ a b=>a.all++b.all
end eW
def zx(p:dD):cJ:=[.agg 32 (By p.1).toArray,.agg 32 (By p.2).toArray]
def abG(h:Nat)(p:dD):cJ:=[.agg 32 (By (qW p)).toArray,.one (.v (.int .i64 1)),.one (.v (eE h)),.agg 2 #[.pointer none,.pointer none]]
def auU(a b:eW):cJ:=[.agg 32 (By (mz a.root b.root)).toArray,.one (.v (.int .i64 ((a.len+b.len:Nat):Int))),.one (.v (.pointer none)),.agg 2 #[a.val,b.val]]
def jk:eW->aE
  | .nil,_=>True
  | .leaf g h p,w=>ij g 223 (abG h p) w/\ij h 206 (zx p) w
  | .node g a b,w=>ij g 223 (auU a b) w/\jk a w/\jk b w
theorem jk.later:∀{t:eW} {w w':yp},jk t w->Below w.heap.size w w'->jk t w'
 | .nil,_,_,_,_=>trivial
 | .leaf _ _ _,_,_,h,k=>⟨⟨h.1.1.later k,h.1.2⟩,⟨h.2.1.later k,h.2.2⟩⟩
 | .node _ _ _,_,_,h,k=>⟨⟨h.1.1.later k,h.1.2⟩,h.2.1.later k,h.2.2.later k⟩
instance{t:eW}:dc (jk t):=⟨λ_ _ h k=>h.later k⟩
theorem eW.uS:∀t:eW,t.root.length=32
 | .nil=>rfl
 | .leaf _ _ _=>nT _
 | .node _ _ _=>nT _
def fZ:Nat->dm->eW->Prop
  | _,l,.nil=>l=[]
  | _,l,.leaf _ _ p=>l=[p]
  | 0,_,.node _ _ _=>False
  | r+1,l,.node _ a b=>2<=l.length/\fZ r (dh (255-r) l) a/\fZ r (dd (255-r) l) b
theorem fZ.root:∀{r:Nat} {l:dm} {t:eW},fZ r l t->t.root=iw r l
 | r,l,.nil,h=>by
  have h:l=[]:=by cases r<;>exact h
  subst h;exact(Lm r).symm
 | r,l,.leaf _ _ p,h=>by
  have h:l=[p]:=by cases r<;>exact h
  subst h;exact(HY r p).symm
 | 0,_,.node _ _ _,h=>h.elim
 | r+1,l,.node _ a b,h=>by obtain⟨h1,h2,h3⟩:=h;rw [O7 h1,<-h2.root,<-h3.root];rfl
theorem aBE(d:Nat)(l:dm):(dh d l).length+(dd d l).length=l.length:=by
 unfold dh dd;induction l with
 | nil=>rfl
 | cons x l ih =>
  by_cases h:b7 x.1 d=0
  .simp [h] at ih ⊢;omega
  .simp [h] at ih ⊢;omega
theorem fZ.len:∀{r:Nat} {l:dm} {t:eW},fZ r l t->t.len=l.length
 | r,l,.nil,h=>by
  have h:l=[]:=by cases r<;>exact h
  subst h;rfl
 | r,l,.leaf _ _ p,h=>by
  have h:l=[p]:=by cases r<;>exact h
  subst h;rfl
 | 0,_,.node _ _ _,h=>h.elim
 | r+1,l,.node _ a b,h=>by obtain⟨h1,h2,h3⟩:=h;have:=aBE (255-r) l;show a.len+b.len=_;rw [h2.len,h3.len,this]
def abK(m:Nat)(h:m<256):bits .and .u8 (m:Int) 1=((m%2:Nat):Int):=by
 have key:∀m:Nat,m<256->bits .and .u8 (m:Int) 1=((m%2:Nat):Int):=by decide +kernel
 exact key m h
def afN{N:Nat}{E:aG}{o:Oper}{x y:yo}{t':yn}{m n:Nat}(hn:n<=8)(ho:o.op = .binOp .shr 5 x y t')(hx:aP E x=some (.v (.int .u8 (m:Int))))(hy:aP E y=some (.v (.int .u8 (n:Int)))) :
  ∀(G:aK) (a:Act) (w:yp),Fr N (bG G E) a->(execOp a.eval o).run prog w = .ok (.value ((aq.v (.int .u8 ((m/2^n:Nat):Int))).den G)) w:=λG a w ha=>by
 have h1:a.eval x = .int .u8 (m:Int):=ha.eval (bH hx);have h2:a.eval y = .int .u8 (n:Int):=ha.eval (bH hy)
 have h3:(n:Int)<=8:=by omega
 unfold execOp
 simp only [ho,h1,h2]
 go_simp
 rfl
def afB{N:Nat}{E:aG}{o:Oper}{x y:yo}{t':yn}{m n:Int}(ho:o.op = .binOp .and 5 x y t')(hx:aP E x=some (.v (.int .u8 m)))(hy:aP E y=some (.v (.int .u8 n))) :
  ∀(G:aK) (a:Act) (w:yp),Fr N (bG G E) a->(execOp a.eval o).run prog w = .ok (.value ((aq.v (.int .u8 (bits .and .u8 m n))).den G)) w:=λG a w ha=>by
 have h1:a.eval x = .int .u8 m:=ha.eval (bH hx);have h2:a.eval y = .int .u8 n:=ha.eval (bH hy)
 unfold execOp
 simp only [ho,h1,h2]
 go_simp
 rfl
def I5{m r:Int}(h:m=r)(h1:0<=r)(h2:r<256):IntKind.u8.wrap m=r:=by subst h;unfold rB;simp [oB,mO];omega
def U7:Own 141:=λ_ _=>by go_simp
def Wk{k:ae}(hk:k.length=32)(n:Nat)(hn:n<256):Spec 141 [(aw 32 k).den,.int .u8 (n:Int)] [] (λ_=>True) (one (.v (.int .u8 ((b7 k n:Nat):Int)))):=by refine bA [aw 32 k,.c (.v (.int .u8 (n:Int)))] 14 func141 rfl (ab:=dZ (cq hk).1 trivial) λb=>?_;refine ag rfl (aA rfl λK hK=>ca 6 ((n/8:Nat):Int) rfl (I5 (by rw [tL (by omega)];omega) (by omega) (by omega)) (b6 (.a 2 (0+1*(n/8))) rfl (eO (n/8) rfl dp rfl rfl rfl (by omega)) (jq (.v (.int .u8 ((k[n/8]!).toNat:Int))) rfl (jV _ rfl rfl rfl (F0 (by omega)) nu rfl) ?_)));have al:=(k[n/8]!).toNat_lt;have hb:b7 k n=(k[n/8]!).toNat/2^(7-n%8)%2:=rfl;generalize (k[n/8]!).toNat=v at *;refine aj rfl (ca 11 ((7-n%8:Nat):Int) rfl (I5 (by rw [GU (by omega)];omega) (by omega) (by omega)) (b6 (.v (.int .u8 ((v/2^(7-n%8):Nat):Int))) rfl (afN (by omega) rfl rfl rfl) ?_));have h2:v/2^(7-n%8)<256:=nc (qA _ _) al;generalize v/2^(7-n%8)=z at *;refine b6 (.v (.int .u8 (bits .and .u8 (z:Int) 1))) rfl (afB rfl rfl rfl) (ca 13 ((z%2:Nat):Int) rfl (abK z h2) (aj rfl (ah (hK _ ?_))));exact aJ (dk an () rfl rfl (congrArg (λx:Nat=>cM.v (.int .u8 (x:Int))) hb) rfl aD au)
theorem Wp(t:eW):Spec 138 [t.val] [] (jk t) (one (.v (.int .i64 (t.len:Int)))):=by
 refine bA [.c (.v t.val)] 9 func138 rfl λb=>ag rfl (ao λK hK=>?_);cases t with
 | nil =>
  refine ag rfl (ir rfl (ag rfl ?_));exact aJ (bE () rfl aD au)
 | leaf g h p =>
  refine ag rfl (dY rfl (aR (hK _ (aA rfl λK2 aM=>gE rfl (kP λ_ h _=>h.1) (aj rfl (ah (aM _ ?_)))))));exact aJ (bE () rfl aD au)
 | node g x y =>
  refine ag rfl (dY rfl (aR (hK _ (aA rfl λK2 aM=>gE rfl (kP λ_ h _=>h.1) (aj rfl (ah (aM _ ?_)))))));exact aJ (bE () rfl aD au)
theorem Wl(t:eW):Spec 86 [t.val] [] (jk t) (one (.q (aw 32 t.root))):=by
 refine bA [.c (.v t.val)] 10 func86 rfl λb=>ag rfl (ao λK hK=>?_);cases t with
 | nil =>
  refine ag rfl (ir rfl (ag rfl ?_));exact aJ (bE () rfl aD au)
 | leaf g h p =>
  refine ag rfl (dY rfl (aR (hK _ (aA rfl λK2 aM=>gE rfl (kP λ_ h _=>h.1) (aj rfl (ah (aM _ ?_)))))));exact aJ (bE () rfl aD au)
 | node g x y =>
  refine ag rfl (dY rfl (aR (hK _ (aA rfl λK2 aM=>gE rfl (kP λ_ h _=>h.1) (aj rfl (ah (aM _ ?_)))))));exact aJ (bE () rfl aD au)
section
variable{P:ym}{b:bO}{ops:aZ}{Q:bK}{N:Nat}{E E':aG}{L:aH}{R:bF}{F M:aE}{g:Nat}{t:yn}{ai:cJ}
def bj.acM{G:aK}{S:cn}{w:yp}(h:bj b G S L R F M w){i:Nat}(hi:R[i]?=some (rq g t ai)):∃S',bj b G S' L (R.eraseIdx i) (λw=>ij g t ai w/\F w) M w:=by
 obtain⟨S1,S2,h1,h2,h3,h4⟩:=h.let hi;refine⟨S2,h4.and λw' hw=>⟨?_,h1.1.2⟩⟩;have hg:S1 g:=(h1.2 g).2 rfl;have al:=h1.1.1.lt;have uC:¬xh b.X S2 G L g:=by
  rintro(hx|hx|⟨j,hj,e⟩)
  .obtain⟨rK,lI⟩:=h.eS g hx;exact lI (h.mine g (.inl ((h3 g).2 (.inl hg))) rK)
  .exact h2 g hg hx
  .exact h.sep j hj (by rw [e];exact(h3 g).2 (.inl hg))
 exact(hw.block g al uC).trans h1.1.1
def KW{K:fg}(i:Nat)(hi:R[i]?=some (rq g t ai))(h:cl b K N ⟨E,L,R.eraseIdx i,λw=>ij g t ai w/\F w,M⟩):cl b K N ⟨E,L,R,F,M⟩:=λa w ⟨G,S,h1,h2,h3⟩=>by obtain⟨S',h4⟩:=h3.acM hi;exact h a w ⟨G,S',h1,h2,h4⟩
def OX{l:aN}(i:Nat)(hi:R[i]?=some (rq g t ai))(h:a9 P b ops Q N l ⟨E,L,R.eraseIdx i,λw=>ij g t ai w/\F w,M⟩):a9 P b ops Q N l ⟨E,L,R,F,M⟩:=λa w ⟨G,S,h1,h2,h3⟩=>by obtain⟨S',h4⟩:=h3.acM hi;exact h a w ⟨G,S',h1,h2,h4⟩
def OU{l:aN}{y:mn}(i:Nat)(hx:dG E i=some (.a y.j 0))(hs:wh E' E)(h:∀g,a9 P b ops Q N l ⟨(i,.v (eE g))::E',L,rq g y.t y.ai::R,F,M⟩):a9 P b ops Q N l ⟨E,y::L,R,F,M⟩:=rL (K:=λa w=>wpList P ops Q l a w) i hx hs h
end
instance:dc fV:=⟨λ_ _ h hb=>h.below hb⟩
def PX:Own 108:=λ_ _=>by go_simp
def PW:Own 142:=λ_ _=>by go_simp
def Vk{p:dD}(h:ch (zx p)):lW p:=by have h1:=(h (.agg 32 (By p.1).toArray) (by simp [zx])).1;have h2:=(h (.agg 32 (By p.2).toArray) (by simp [zx])).1;rw [fx,dH] at h1 h2;exact⟨h1,h2⟩
def av8{h:Nat}{t:yn}{p:dD}{w:yp}(hF:ij h t (zx p) w):ar 64 kf (some ⟨h,0,none⟩) 1 [p] w:=by
 refine⟨aQ _,by decide,λe=>(by cases e),λx hx=>?_,λ_=>⟨h,0,rfl,hF.1.lt,λi x hx=>?_⟩⟩
 .rw [bU.1 hx];exact JH (Vk hF.2)
 .cases i with
  | zero =>
   simp only [List.getElem?_cons_zero,Option.some.injEq] at hx;subst hx;exact Vv (A:=[]) (Z:=[]) hF.1 (by simp [aL.cp,aL.den,kf,Value.cells,zx])
  | succ i=>simp at hx
def ah7(h:Nat)(p:dD):Spec 140 [eE h] [] (λw=>ij h 206 (zx p) w/\fV w) { ret:=λg:Nat=>.v (eE g),own:=λ_=>[],p:=λg=>jk (.leaf g h p) }:=by
 refine bA [.c (.v (eE h))] 17 func140 rfl λb=>?_;refine lQ (lW p) (λw hw _=>Vk hw.1.2) λhp=>?_;refine ag rfl ?_;refine nw 13 λK hK G S w0 aa=>?_;refine G2 an [(0:UInt8)] rfl rfl rfl rfl (λ_=>rfl) rfl λB=>dC aa rfl (ni aa (.v (.slice (some ⟨h,0+64*0,none⟩) 32 32)) rfl rfl (zF rfl dp rfl rfl) (dC aa rfl (ni aa (.v (.slice (some ⟨h,0+64*0+32,none⟩) 32 32)) rfl rfl (zF rfl dp rfl rfl) ?_)));refine Dc [cj B 1 1,.slice (some ⟨h,0+64*0,none⟩) 32 32,.slice (some ⟨h,0+64*0+32,none⟩) 32 32] [[0],p.1,p.2] aa rfl rfl rfl rfl rfl (by decide) (by decide) (λw hw hu=>?_) λA=>?_
 .have h1:=aeO (i:=0) (av8 hw.fact.1) rfl hp;have h2:ar 1 aY (some ⟨B,0,none⟩) 1 [0] w:=hu 0 _ rfl (by kernel_rfl);exact⟨h2.dw,h1.1,h1.2,trivial⟩
 refine EB (r:=.q (aw 32 (qW p))) aa [cj A 3 3] rfl rfl PX rfl rfl (λ_=>rfl) (cq (n:=32) (nT _)).1 (λw hw hu=>?_) ?_
 .have hA:lX w (some ⟨A,0,none⟩) [[0],p.1,p.2]:=hu 9 _ rfl (by kernel_rfl)
  have dU:=Mr (some ⟨A,0,none⟩) [[0],p.1,p.2] 3 w hw.fact.2 hA (by simp) (by simp);have e:qW p=gQ cg [[0],p.1,p.2].flatten:=by simp [qW]
  show Calls prog _ _ w λe w'=>e = .returned (.agg (By (qW p)).toArray)/\_;rw [e];exact dU
 refine dC aa rfl (jR aa (aj rfl (ah (hK _ (aJ (rL 2 rfl (E':=[]) trivial λg=>KW 0 rfl ?_))))));exact bE g rfl (λ_ hw _=>⟨hw.1,hw.2.1⟩) au
def w8(a b:eW):cJ:=[.agg 2 #[a.val,b.val]]
def val_one(t:eW):t.val.oneCell'=true:=by cases t<;>rfl
def Ga(a b:eW):ch (w8 a b):=λp hp=>by
 rw [bU.1 hp];refine⟨rfl,λv ab=>?_⟩;rcases bT.1 ab with rfl|ab
 .exact val_one a
 .rw [bU.1 ab];exact val_one b
def tV:=@underlying221
def A8:=@underlying29
def QW(x y:eW)(hl:x.len+y.len<=1000000):Spec 142 [.agg #[x.val,y.val]] [] (λw=>jk x w/\jk y w/\fV w) { ret:=λg:Nat=>.v (eE g),own:=λ_=>[],p:=λg=>jk (.node g x y) }:=by
 refine bA [.p (w8 x y)] 26 func142 rfl (ab:=iG (Ga x y)) λb=>ag rfl (VW 6 [⟨3,47,(By dx).toArray⟩,⟨4,47,(By dx).toArray⟩] (by decide) rfl ⟨⟨rfl,rfl,rfl,rfl,rfl⟩,⟨rfl,rfl,rfl,rfl,rfl⟩,trivial⟩ (by kernel_rfl) (by kernel_rfl) (by kernel_rfl) λK hK G S w0 aa=>vH aa (.a 1 (0+1*0)) rfl (eO 0 rfl tV rfl rfl rfl (by decide)) (AR aa (.v x.val) rfl (jV _ rfl rfl rfl rfl A8 rfl) (ac4 (F':=jk x) aa [x.val] rfl rfl rfl (λ_=>rfl) (Wl x) (cq x.uS).1 (λ_ _ _ ab=>ab.fact.1) (vH aa (.a 1 (0+1*1)) rfl (eO 1 rfl tV rfl rfl rfl (by decide)) (AR aa (.v y.val) rfl (jV _ rfl rfl rfl rfl A8 rfl) (ac4 (F':=jk y) aa [y.val] rfl rfl rfl (λ_=>rfl) (Wl y) (cq y.uS).1 (λ_ _ _ ab=>ab.fact.2.1) ?_))))));have Ay:=x.uS;have Az:=y.uS;have sz:∀l:ae,l.length=32->(By l).toArray.size=32:=λl h=>by rw [fx,dH,h]
 refine Ps aa [⟨3,none,47,[.agg 32 (By x.root).toArray]⟩,⟨4,none,47,[.agg 32 (By y.root).toArray]⟩] [(By dx).toArray,(By dx).toArray] [.tmp 7,.tmp 10] rfl rfl rfl (λu hu=>?_) ⟨rfl,rfl,trivial⟩ rfl ⟨⟨rfl,rfl,rfl⟩,⟨rfl,rfl,rfl⟩,rfl⟩ ⟨⟨rfl,?_,?_,qp _⟩,⟨rfl,?_,?_,qp _⟩,trivial⟩ ?_
 .rcases bT.1 hu with rfl|hu
  .exact(cq Ay).1
  .rw [bU.1 hu];exact(cq Az).1
 .exact(sz dx rfl).trans (sz _ Ay).symm
 .show _=some (By x.root).toArray.size;rw [sz _ Ay];rfl
 .exact(sz dx rfl).trans (sz _ Az).symm
 .show _=some (By y.root).toArray.size;rw [sz _ Az];rfl
 refine ah (hK _ (mR [1,2,3,4] [1,3,4] rfl rfl ?_));refine nw 13 λK hK G S w0 aa=>?_;refine G2 an [(1:UInt8)] rfl rfl rfl rfl (λ_=>rfl) rfl λB=>ni aa (.s 3 0 32 32) rfl rfl (nv rfl dp rfl rfl) (ni aa (.s 4 0 32 32) rfl rfl (nv rfl dp rfl rfl) ?_);refine Dc [cj B 1 1,(aq.s 3 0 32 32).den G,(aq.s 4 0 32 32).den G] [[1],x.root,y.root] aa rfl rfl rfl rfl rfl (by decide) (by decide) (λw hw hu=>?_) λA=>?_
 .have h2:ar 1 aY (some ⟨B,0,none⟩) 1 [1] w:=hu 0 _ rfl (by kernel_rfl);exact⟨h2.dw,sW (j:=3) rfl Ay (by decide) G S w hw,sW (j:=4) rfl Az (by decide) G S w hw,trivial⟩
 refine EB (r:=.q (aw 32 (mz x.root y.root))) aa [cj A 3 3] rfl rfl PX rfl rfl (λ_=>rfl) (cq (n:=32) (nT _)).1 (λw hw hu=>?_) ?_
 .have hA:lX w (some ⟨A,0,none⟩) [[1],x.root,y.root]:=hu 3 _ rfl (by kernel_rfl)
  have dU:=Mr (some ⟨A,0,none⟩) [[1],x.root,y.root] 3 w hw.fact.2.2 hA (by simp) (by simp);have e:mz x.root y.root=gQ cg [[1],x.root,y.root].flatten:=by simp [mz]
  show Calls prog _ _ w λe w'=>e = .returned (.agg (By (mz x.root y.root)).toArray)/\_;rw [e];exact dU
 refine ni aa (.a 1 (0+1*0)) rfl rfl (eO 0 rfl tV rfl rfl rfl (by decide)) (G3 aa (.v x.val) rfl rfl (jV _ rfl rfl rfl rfl A8 rfl) (vp (F':=jk x) (r:=.v (.int .i64 (x.len:Int))) aa [x.val] rfl rfl rfl rfl (λ_=>rfl) trivial (Wp x) (λ_ _ _ ab=>ab.fact.1) (ni aa (.a 1 (0+1*1)) rfl rfl (eO 1 rfl tV rfl rfl rfl (by decide)) (G3 aa (.v y.val) rfl rfl (jV _ rfl rfl rfl rfl A8 rfl) (vp (F':=jk y) (r:=.v (.int .i64 (y.len:Int))) aa [y.val] rfl rfl rfl rfl (λ_=>rfl) trivial (Wp y) (λ_ _ _ ab=>ab.fact.2.1) (dC aa rfl (SP 22 ((x.len+y.len:Nat):Int) rfl (jv (by omega) (by omega) (by omega)) (dC aa rfl (jR aa (aj rfl (ah (hK _ (aJ (rL 2 rfl (E':=[]) trivial λg=>KW 0 rfl ?_))))))))))))));exact bE g rfl (λ_ hw _=>⟨hw.1,hw.2.1,hw.2.2.1⟩) au
def LL:Own 107:=λ_ _=>by go_simp
theorem P9:∀(l:dm) (p:dD),l.length<=(ed l p).length/\(ed l p).length<=l.length+1
 | [],_=>⟨bl _,aQ _⟩
 | q::l,p=>by
  have:=P9 l p;unfold ed;split
  .simp only [fL];omega
  .split
   .simp
   .simp
def MJ{d e r:Nat}(h:d=255-r/\r<=255)(he:(256-r)%256=e):IntKind.u8.wrap ((d:Int)+1)=(e:Int):=by unfold rB;simp [oB,mO];omega
def xe(t:eW):t.val.cells = #[t.val]:=by cases t<;>rfl
def au2{d:Nat}{q:dD}(h:b7 q.1 d=0):dh d [q]=[q]/\dd d [q]=[]:=by simp [dh,dd,h]
def az1{d:Nat}{q:dD}(h:b7 q.1 d≠0):dh d [q]=[]/\dd d [q]=[q]:=by simp [dh,dd,h]
def fZ.nil{r:Nat}{l:dm}(h:l=[]):fZ r l .nil:=by cases r<;>exact h
def fZ.leaf{r:Nat}{l:dm}{g h:Nat}{p:dD}(e:l=[p]):fZ r l (.leaf g h p):=by cases r<;>exact e
def fZ.acB{r:Nat}{l:dm}(h:fZ r l .nil):l=[]:=by cases r<;>exact h
def fZ.abA{r:Nat}{l:dm}{g h:Nat}{p:dD}(e:fZ r l (.leaf g h p)):l=[p]:=by cases r<;>exact e
theorem aDA:∀(r:Nat) (l:dm) (t:eW) (h:Nat) (p:dD),r<=256->fZ r l t->fK l->oh l->lF (256-r) (p::l)->l.length+1<=1000000 ->
  Spec 107 [t.val,eE h,.int .u8 (((256-r)%256:Nat):Int)] [] (λw=>jk t w/\ij h 206 (zx p) w/\fV w) { ret:=λx:{ t':eW // fZ r (ed l p) t' }=>.v x.1.val,own:=λ_=>[],p:=λx=>jk x.1 }:=by
 intro r
 induction r using qP with
 | ind r ih =>
 intro l t h p hr ht hs hk gR hl
 obtain⟨D,hD⟩:∃D,(256-r)%256=D:=⟨_,rfl⟩;rw [hD];refine bA [.c (.v t.val),.c (.v (eE h)),.c (.v (.int .u8 (D:Int)))] 71 func107 rfl λb=>?_;refine lQ (lW p) (λw hw _=>Vk hw.2.1.2) λsC=>?_;refine ag rfl (ao λK hK=>?_)
 cases t with
 | nil =>
  obtain rfl:=ht.acB;refine rT 23 λK1 aS G S w0 aa=>?_;refine fa an aa rfl ?_;refine YV rfl ?_;refine fa an aa rfl ?_;refine p1 aa ?_;refine ah (aS _ ?_);refine ir rfl ?_;refine aA rfl λK2 aM=>?_;refine bY [eE h] rfl (ah7 h p) (λ_ hw _=>⟨hw.2.1,hw.2.2⟩) λg=>?_;refine aj rfl (ah (aM _ ?_));exact aJ (bE ⟨.leaf g h p,fZ.leaf rfl⟩ rfl (λ_ hw _=>hw.1) au)
 | leaf g0 h0 q =>
  obtain rfl:=ht.abA;have hq:=hk q eh;refine rT 23 λK1 aS G S w0 aa=>?_;refine fa an aa rfl ?_;refine JU an aa rfl rfl rfl rfl (kP λ_ h _=>h.1.1) ?_;refine fa an aa rfl ?_;refine JU an aa rfl rfl rfl rfl (kP λ_ h _=>h.1.1) ?_;refine fa an aa rfl ?_;refine JU an aa rfl rfl rfl rfl (kP λ_ h _=>h.1.2) ?_;refine fa an aa rfl ?_;refine JU an aa rfl rfl rfl rfl (kP λ_ h _=>h.2.1) ?_;refine fa an aa rfl ?_;refine oZ (.b (decide (q.1=p.1))) rfl (F6 rfl rfl rfl dp (by kernel_rfl) hq sC.1) ?_
  by_cases he:q.1=p.1
  .refine YU 29 true rfl (by simp [he]) ?_
   refine fa an aa rfl ?_;refine p1 aa ?_;refine ah (aS _ ?_);refine ir rfl ?_;refine aA rfl λK2 aM=>?_;refine bY [eE h] rfl (ah7 h p) (λ_ hw _=>⟨hw.2.1,hw.2.2⟩) λg=>?_;refine aj rfl (ah (aM _ ?_));have e2:ed [q] p=[p]:=by simp [ed,he,sb]
   exact aJ (bE ⟨.leaf g h p,fZ.leaf e2⟩ rfl (λ_ hw _=>hw.1) au)
  refine YU 29 false rfl (by simp [he]) ?_;refine fa an aa rfl ?_;refine p1 aa ?_;refine ah (aS _ ?_);refine dY rfl ?_;refine aR (hK _ ?_)
  obtain⟨r,rfl⟩:∃q,r=q+1:=⟨r-1,by
   by_cases e:r=0
   .subst e;exact absurd (FR.all hq sC.1 (gR q (by simp) p (by simp))) he
   .omega⟩
  obtain rfl:255-r=D:=by omega
  clear aa aS;rw [show 256-(r+1)=255-r by omega] at gR;obtain⟨d,lj⟩:∃d,255-r=d:=⟨_,rfl⟩;obtain⟨e8,vu⟩:∃e,(256-r)%256=e:=⟨_,rfl⟩;have ih2:=λl t h p ht hs hk=>ih r (by omega) l t h p (by omega) ht hs hk;simp only [vu] at ih2;clear ih
  have hd:d<256:=by omega
  rw [lj] at gR ⊢
  have h2:2<=(ed [q] p).length:=by
   by_cases h3:eP q.1 p.1=true
   .simp [ed,h3]
   .simp [ed,h3,he]
  refine mR [0,1,2] [] rfl rfl ?_;refine aA rfl λK1 aS=>?_;refine gE rfl (kP λ_ h _=>h.1.1) ?_;refine aj rfl (ah (aS _ ?_));refine ao λK2 aM=>?_;refine aA rfl λK6 cr=>?_;refine gE rfl (kP λ_ h _=>h.1.1) ?_;refine aj rfl (ah (cr _ ?_));refine ir rfl ?_
  have ll:∀x y:eW,fZ r (dh d [q]) x->fZ r (dd d [q]) y->∀en,gj en ⟨[(1,.v (eE h)),(2,.v (.int .u8 (d:Int))),(7,.a 7 0)],[⟨7,none,221,w8 x y⟩],[],λw=>jk x w/\jk y w/\ij h 206 (zx p) w/\fV w,λ_=>True⟩->cl b K2 71 en:=by
   intro x y hx hy en hw;refine ft hw (aM _ ?_);have jz:=sj p.1 d;refine aA rfl λK3 bu=>?_;refine gE rfl (kP λ_ h _=>h.2.2.1) ?_;refine aj rfl ?_;refine bY [.agg (By p.1).toArray,.int .u8 (d:Int)] (hf:=U7) rfl (Wk sC.1 d hd) aD λ_=>?_;refine aj rfl ?_;have hlen:∀t':eW,fZ (r+1) (ed [q] p) t'->t'.len<=1000000:=λt' ht'=>by rw [ht'.len];exact fo (P9 [q] p).2 hl
   by_cases qR:b7 p.1 d=0
   .refine ca 8 0 rfl (by rw [qR];rfl) ?_
    refine ah (bu _ ?_);refine mR [1,2,7,8] [7] rfl rfl ?_;refine aA rfl λK4 bW=>?_;refine b6 (.a 7 (0+1*0)) rfl (eO 0 rfl tV rfl rfl rfl (by decide)) ?_;refine jq (.v x.val) rfl (jV _ rfl rfl rfl rfl A8 rfl) ?_;refine aj rfl ?_;refine ca 66 (e8:Int) rfl (MJ ⟨lj.symm,by omega⟩ vu) ?_;have eL:dh d (ed [q] p)=ed (dh d [q]) p:=by rw [HZ hs hk sC.1,if_pos qR]
    have eR:dd d (ed [q] p)=dd d [q]:=by rw [HH hs hk sC.1,if_pos qR]
    have zc:lF (256-r) (p::dh d [q]):=by have:=gR.left;rw [show dh d (p::[q])=p::dh d [q] by simp [dh,qR],show d+1=256-r by omega] at this;exact this
    refine bY [x.val,eE h,.int .u8 (e8:Int)] (hf:=LL) rfl (ih2 (dh d [q]) x h p hx (hs.filter _) (hk.filter _) zc (fo (lK (cT _ _) 1) hl)) (λ_ h _=>⟨h.2.1,h.2.2.2.1,h.2.2.2.2⟩) λx'=>?_;refine aj rfl ?_;refine b6 (.a 7 (0+1*0)) rfl (eO 0 rfl tV rfl rfl rfl (by decide)) ?_;refine tC (w8 x'.1 y) rfl rfl rfl rfl rfl rfl rfl (xe _) (val_one _) (show _<2 by decide) (Ga _ _) rfl ?_;refine ah (bW _ ?_);have hT:∀g,fZ (r+1) (ed [q] p) (.node g x'.1 y):=λg=>⟨h2,by show fZ r (dh (255-r) (ed [q] p)) x'.1;rw [lj,eL];exact x'.2,by show fZ r (dd (255-r) (ed [q] p)) y;rw [lj,eR];exact hy⟩;refine mR [7] [7] rfl rfl ?_;refine aA rfl λK5 bN=>?_;refine bY [.agg #[x'.1.val,y.val]] (hf:=PW) rfl (QW x'.1 y (hlen _ (hT 0))) (λ_ h _=>⟨h.1,h.2.2.2.1,h.2.2.2.2.2⟩) λg=>?_;refine aj rfl (ah (bN _ ?_));exact aJ (bE ⟨.node g x'.1 y,hT g⟩ rfl (λ_ hw _=>hw.1) au)
   .refine ca 8 1 rfl (by rw [show b7 p.1 d=1 by omega];rfl) ?_
    refine ah (bu _ ?_);refine mR [1,2,7,8] [7] rfl rfl ?_;refine aA rfl λK4 bW=>?_;refine b6 (.a 7 (0+1*1)) rfl (eO 1 rfl tV rfl rfl rfl (by decide)) ?_;refine jq (.v y.val) rfl (jV _ rfl rfl rfl rfl A8 rfl) ?_;refine aj rfl ?_;refine ca 66 (e8:Int) rfl (MJ ⟨lj.symm,by omega⟩ vu) ?_;have eL:dh d (ed [q] p)=dh d [q]:=by rw [HZ hs hk sC.1,if_neg qR]
    have eR:dd d (ed [q] p)=ed (dd d [q]) p:=by rw [HH hs hk sC.1,if_neg qR]
    have zc:lF (256-r) (p::dd d [q]):=by have:=gR.right;rw [show dd d (p::[q])=p::dd d [q] by simp [dd,qR],show d+1=256-r by omega] at this;exact this
    refine bY [y.val,eE h,.int .u8 (e8:Int)] (hf:=LL) rfl (ih2 (dd d [q]) y h p hy (hs.filter _) (hk.filter _) zc (fo (lK (cT _ _) 1) hl)) (λ_ h _=>⟨h.2.2.1,h.2.2.2.1,h.2.2.2.2⟩) λy'=>?_;refine aj rfl ?_;refine b6 (.a 7 (0+1*1)) rfl (eO 1 rfl tV rfl rfl rfl (by decide)) ?_;refine tC (w8 x y'.1) rfl rfl rfl rfl rfl rfl rfl (xe _) (val_one _) (show _<2 by decide) (Ga _ _) rfl ?_;refine ah (bW _ ?_);have hT:∀g,fZ (r+1) (ed [q] p) (.node g x y'.1):=λg=>⟨h2,by show fZ r (dh (255-r) (ed [q] p)) x;rw [lj,eL];exact hx,by show fZ r (dd (255-r) (ed [q] p)) y'.1;rw [lj,eR];exact y'.2⟩;refine mR [7] [7] rfl rfl ?_;refine aA rfl λK5 bN=>?_;refine bY [.agg #[x.val,y'.1.val]] (hf:=PW) rfl (QW x y'.1 (hlen _ (hT 0))) (λ_ h _=>⟨h.2.2.1,h.1,h.2.2.2.2.2⟩) λg=>?_;refine aj rfl (ah (bN _ ?_));exact aJ (bE ⟨.node g x y'.1,hT g⟩ rfl (λ_ hw _=>hw.1) au)
  have Zt:=sj q.1 d;refine ef (aj rfl ?_);refine gE rfl (kP λ_ h _=>h.1.1) ?_;refine aj rfl ?_;refine gE rfl (kP λ_ h _=>h.1.2) ?_;refine aj rfl ?_;refine bY [.agg (By q.1).toArray,.int .u8 (d:Int)] (hf:=U7) rfl (Wk hq d hd) aD λ_=>?_;refine aj rfl ?_
  by_cases Di:b7 q.1 d=0
  .obtain⟨e1,e2⟩:=au2 Di;refine ca 51 0 rfl (by rw [Di];rfl) ?_;refine b6 (.a 7 (0+1*0)) rfl (eO 0 rfl tV rfl rfl rfl (by decide)) ?_;refine tC (w8 (.leaf g0 h0 q) .nil) rfl rfl rfl rfl rfl rfl rfl (xe (.leaf g0 h0 q)) (val_one (.leaf g0 h0 q)) (show _<2 by decide) (Ga _ _) rfl ?_;exact ah (ll (.leaf g0 h0 q) .nil (fZ.leaf e1) (fZ.nil e2) _ ⟨dB rfl, c8 rfl rfl, .refl _,λ_ h _=>⟨h.2.1,trivial,h.2.2.1,h.2.2.2⟩, au⟩)
  .obtain⟨e1,e2⟩:=az1 Di;refine ca 51 1 rfl (by rw [show b7 q.1 d=1 by omega];rfl) ?_;refine b6 (.a 7 (0+1*1)) rfl (eO 1 rfl tV rfl rfl rfl (by decide)) ?_;refine tC (w8 .nil (.leaf g0 h0 q)) rfl rfl rfl rfl rfl rfl rfl (xe (.leaf g0 h0 q)) (val_one (.leaf g0 h0 q)) (show _<2 by decide) (Ga _ _) rfl ?_;exact ah (ll .nil (.leaf g0 h0 q) (fZ.nil e1) (fZ.leaf e2) _ ⟨dB rfl, c8 rfl rfl, .refl _,λ_ h _=>⟨trivial,h.2.1,h.2.2.1,h.2.2.2⟩, au⟩)
 | node g0 x0 y0 =>
  obtain⟨r,rfl⟩:∃q,r=q+1:=⟨r-1,by
   cases r with
   | zero=>exact ht.elim
   | succ r=>rfl⟩
  obtain rfl:255-r=D:=by omega
  rw [show 256-(r+1)=255-r by omega] at gR;obtain⟨d,lj⟩:∃d,255-r=d:=⟨_,rfl⟩;obtain⟨e8,vu⟩:∃e,(256-r)%256=e:=⟨_,rfl⟩;have ih2:=λl t h p ht hs hk=>ih r (by omega) l t h p (by omega) ht hs hk;simp only [vu] at ih2;clear ih
  have hd:d<256:=by omega
  rw [lj] at gR ⊢;obtain⟨iJ,np,HB⟩:=ht;rw [lj] at np HB;have h2:2<=(ed l p).length:=fo iJ (P9 l p).1;refine rT 23 λK1 aS G S w0 aa=>?_;refine fa an aa rfl ?_;refine JU an aa rfl rfl rfl rfl (kP λ_ h _=>h.1.1) ?_;refine fa an aa rfl ?_;refine p1 aa ?_;refine ah (aS _ ?_);refine dY rfl ?_;refine aR (hK _ ?_);clear aa aS;refine mR [0,1,2] [] rfl rfl ?_;refine aA rfl λK1 aS=>?_;refine gE rfl (kP λ_ h _=>h.1.1) ?_;refine aj rfl (ah (aS _ ?_));refine ao λK2 aM=>?_;refine aA rfl λK6 cr=>?_;refine gE rfl (kP λ_ h _=>h.1.1) ?_;refine aj rfl (ah (cr _ ?_));refine dY rfl ?_
  have ll:∀x y:eW,fZ r (dh d l) x->fZ r (dd d l) y->∀en,gj en ⟨[(1,.v (eE h)),(2,.v (.int .u8 (d:Int))),(7,.a 7 0)],[⟨7,none,221,w8 x y⟩],[],λw=>jk x w/\jk y w/\ij h 206 (zx p) w/\fV w,λ_=>True⟩->cl b K2 71 en:=by
   intro x y hx hy en hw;refine ft hw (aM _ ?_);have jz:=sj p.1 d;refine aA rfl λK3 bu=>?_;refine gE rfl (kP λ_ h _=>h.2.2.1) ?_;refine aj rfl ?_;refine bY [.agg (By p.1).toArray,.int .u8 (d:Int)] (hf:=U7) rfl (Wk sC.1 d hd) aD λ_=>?_;refine aj rfl ?_;have hlen:∀t':eW,fZ (r+1) (ed l p) t'->t'.len<=1000000:=λt' ht'=>by rw [ht'.len];exact fo (P9 l p).2 hl
   by_cases qR:b7 p.1 d=0
   .refine ca 8 0 rfl (by rw [qR];rfl) ?_
    refine ah (bu _ ?_);refine mR [1,2,7,8] [7] rfl rfl ?_;refine aA rfl λK4 bW=>?_;refine b6 (.a 7 (0+1*0)) rfl (eO 0 rfl tV rfl rfl rfl (by decide)) ?_;refine jq (.v x.val) rfl (jV _ rfl rfl rfl rfl A8 rfl) ?_;refine aj rfl ?_;refine ca 66 (e8:Int) rfl (MJ ⟨lj.symm,by omega⟩ vu) ?_;have eL:dh d (ed l p)=ed (dh d l) p:=by rw [HZ hs hk sC.1,if_pos qR]
    have eR:dd d (ed l p)=dd d l:=by rw [HH hs hk sC.1,if_pos qR]
    have zc:lF (256-r) (p::dh d l):=by have:=gR.left;rw [show dh d (p::l)=p::dh d l by simp [dh,qR],show d+1=256-r by omega] at this;exact this
    refine bY [x.val,eE h,.int .u8 (e8:Int)] (hf:=LL) rfl (ih2 (dh d l) x h p hx (hs.filter _) (hk.filter _) zc (fo (lK (cT _ _) 1) hl)) (λ_ h _=>⟨h.2.1,h.2.2.2.1,h.2.2.2.2⟩) λx'=>?_;refine aj rfl ?_;refine b6 (.a 7 (0+1*0)) rfl (eO 0 rfl tV rfl rfl rfl (by decide)) ?_;refine tC (w8 x'.1 y) rfl rfl rfl rfl rfl rfl rfl (xe _) (val_one _) (show _<2 by decide) (Ga _ _) rfl ?_;refine ah (bW _ ?_);have hT:∀g,fZ (r+1) (ed l p) (.node g x'.1 y):=λg=>⟨h2,by show fZ r (dh (255-r) (ed l p)) x'.1;rw [lj,eL];exact x'.2,by show fZ r (dd (255-r) (ed l p)) y;rw [lj,eR];exact hy⟩;refine mR [7] [7] rfl rfl ?_;refine aA rfl λK5 bN=>?_;refine bY [.agg #[x'.1.val,y.val]] (hf:=PW) rfl (QW x'.1 y (hlen _ (hT 0))) (λ_ h _=>⟨h.1,h.2.2.2.1,h.2.2.2.2.2⟩) λg=>?_;refine aj rfl (ah (bN _ ?_));exact aJ (bE ⟨.node g x'.1 y,hT g⟩ rfl (λ_ hw _=>hw.1) au)
   .refine ca 8 1 rfl (by rw [show b7 p.1 d=1 by omega];rfl) ?_
    refine ah (bu _ ?_);refine mR [1,2,7,8] [7] rfl rfl ?_;refine aA rfl λK4 bW=>?_;refine b6 (.a 7 (0+1*1)) rfl (eO 1 rfl tV rfl rfl rfl (by decide)) ?_;refine jq (.v y.val) rfl (jV _ rfl rfl rfl rfl A8 rfl) ?_;refine aj rfl ?_;refine ca 66 (e8:Int) rfl (MJ ⟨lj.symm,by omega⟩ vu) ?_;have eL:dh d (ed l p)=dh d l:=by rw [HZ hs hk sC.1,if_neg qR]
    have eR:dd d (ed l p)=ed (dd d l) p:=by rw [HH hs hk sC.1,if_neg qR]
    have zc:lF (256-r) (p::dd d l):=by have:=gR.right;rw [show dd d (p::l)=p::dd d l by simp [dd,qR],show d+1=256-r by omega] at this;exact this
    refine bY [y.val,eE h,.int .u8 (e8:Int)] (hf:=LL) rfl (ih2 (dd d l) y h p hy (hs.filter _) (hk.filter _) zc (fo (lK (cT _ _) 1) hl)) (λ_ h _=>⟨h.2.2.1,h.2.2.2.1,h.2.2.2.2⟩) λy'=>?_;refine aj rfl ?_;refine b6 (.a 7 (0+1*1)) rfl (eO 1 rfl tV rfl rfl rfl (by decide)) ?_;refine tC (w8 x y'.1) rfl rfl rfl rfl rfl rfl rfl (xe _) (val_one _) (show _<2 by decide) (Ga _ _) rfl ?_;refine ah (bW _ ?_);have hT:∀g,fZ (r+1) (ed l p) (.node g x y'.1):=λg=>⟨h2,by show fZ r (dh (255-r) (ed l p)) x;rw [lj,eL];exact hx,by show fZ r (dd (255-r) (ed l p)) y'.1;rw [lj,eR];exact y'.2⟩;refine mR [7] [7] rfl rfl ?_;refine aA rfl λK5 bN=>?_;refine bY [.agg #[x.val,y'.1.val]] (hf:=PW) rfl (QW x y'.1 (hlen _ (hT 0))) (λ_ h _=>⟨h.2.2.1,h.1,h.2.2.2.2.2⟩) λg=>?_;refine aj rfl (ah (bN _ ?_));exact aJ (bE ⟨.node g x y'.1,hT g⟩ rfl (λ_ hw _=>hw.1) au)
  exact aR (ll x0 y0 np HB _ ⟨dB rfl, c8 rfl rfl, .refl _,λ_ h _=>⟨h.1.2.1,h.1.2.2,h.2.1,h.2.2⟩, au⟩)
def PU:Own 39:=λ_ _=>by go_simp
def rV(t:eW)(d:Nat):cJ:=[.one (.v t.val),.one (.v (.int .u8 (d:Int)))]
def j7(t:eW)(d:Nat):aL:=.p (rV t d)
def aEF(t:eW):t.val.cells = #[t.val]:=by cases t<;>rfl
def Gg(t:eW)(d:Nat):ch (rV t d):=λp hp=>by
 rcases bT.1 hp with rfl|hp
 .exact⟨trivial,val_one t,aEF t⟩
 .rw [bU.1 hp];exact⟨trivial,rfl,rfl⟩
def QS(t:eW)(d:Nat):Spec 39 [(j7 t d).den] [] (jk t) (one (.q (aw 32 t.root))):=by refine bA [j7 t d] 6 func39 rfl (ab:=iG (Gg t d)) λb=>?_;refine ag rfl (aA rfl λK hK=>bY [t.val] rfl (Wl t) (λ_ h _=>h) λ_=>aj rfl (ah (hK _ ?_)));exact aJ (bE () rfl aD au)
def aCL(t:eW)(d:Nat):Spec 102 [(j7 t d).den] [] (jk t) (one (.v (.int .i64 (t.len:Int)))):=by refine bA [j7 t d] 6 func102 rfl (ab:=iG (Gg t d)) λb=>?_;refine ag rfl (aA rfl λK hK=>bY [t.val] rfl (Wp t) (λ_ h _=>h) λ_=>aj rfl (ah (hK _ ?_)));exact aJ (bE () rfl aD au)
def ayV:eW->cM
  | .leaf _ _ p=>.t [aw 32 p.1,aw 32 p.2,.c (.v (.bool true))]
  | _=>.t [aw 32 dx,aw 32 dx,.c (.v (.bool false))]
def ayW(d:Nat):eW->cM
  | .node _ a b=>.t [j7 a d,j7 b d,.c (.v (.bool true))]
  | _=>.t [j7 .nil 0,j7 .nil 0,.c (.v (.bool false))]
theorem aCK(t:eW)(d:Nat):Spec 103 [(j7 t d).den] [] (jk t) { ret:=λ_:Unit=>ayV t,own:=λ_=>[] }:=by
 refine bA [j7 t d] 34 func103 rfl (ab:=iG (Gg t d)) λb=>ag rfl (ao λK hK=>?_);cases t with
 | nil =>
  refine ag rfl (ir rfl (ag rfl ?_));exact aJ (bE () rfl aD au)
 | leaf g h p =>
  refine aA rfl λK2 aM=>gE rfl (kP λ_ h _=>h.1) (aj rfl (ah (aM _ (dY rfl (aR (hK _ ?_))))));refine lQ (ch (abG h p)/\ch (zx p)) (λw hw _=>⟨hw.1.2,hw.2.2⟩) λ⟨ho1,xS⟩=>?_;refine rS λG=>?_
  have c7:∀x∈[(⟨1,some (G 1),31,rV (.leaf g h p) d⟩:mn)],x∈iH G [⟨3,none,47,[.agg 32 (By dx).toArray]⟩,⟨2,none,47,[.agg 32 (By dx).toArray]⟩,⟨1,none,31,rV (.leaf g h p) d⟩]/\x.g.isSome=true:=λx hx=>by rw [bU.1 hx];exact⟨dS _ (dS _ eh),rfl⟩
  refine ao λK3 bu=>?_;refine lv [0,1,2,3,4,5,6,7,8,9,10,11,12,13,14,15] 17 2 (λw=>iV [⟨1,some (G 1),31,rV (.leaf g h p) d⟩] w/\jk (.leaf g h p) w) rfl (sG c7 λ_ h _=>h) ?_;refine cK 0 rfl (λx hx=>(c7 x hx).1) (λ_ h=>h.1) (cK 1 rfl (λx hx=>(c7 x hx).1) (λ_ h=>h.1) (cK 2 rfl (λx hx=>(c7 x hx).1) (λ_ h=>h.1) (cK 3 rfl (λx hx=>(c7 x hx).1) (λ_ h=>h.1) (DO an 4 rfl rfl rfl rfl rfl ho1 (λ_ h=>h.2.1) (cK 5 rfl (λx hx=>(c7 x hx).1) (λ_ h=>h.1) (cK 6 rfl (λx hx=>(c7 x hx).1) (λ_ h=>h.1) (DO an 7 rfl rfl rfl rfl rfl xS (λ_ h=>h.2.2) (cK 8 rfl (λx hx=>(c7 x hx).1) (λ_ h=>h.1) (cK 9 rfl (λx hx=>(c7 x hx).1) (λ_ h=>h.1) (cK 10 rfl (λx hx=>(c7 x hx).1) (λ_ h=>h.1) (cK 11 rfl (λx hx=>(c7 x hx).1) (λ_ h=>h.1) (DO an 12 rfl rfl rfl rfl rfl ho1 (λ_ h=>h.2.1) (cK 13 rfl (λx hx=>(c7 x hx).1) (λ_ h=>h.1) (cK 14 rfl (λx hx=>(c7 x hx).1) (λ_ h=>h.1) (DO an 15 rfl rfl rfl rfl rfl xS (λ_ h=>h.2.2) ?_)))))))))))))));refine eN 16 rfl λK4 bW=>?_;refine aj rfl ?_
  refine ah (bW _ (sG (λx hx=>by rw [bU.1 hx];exact⟨dS _ (dS _ eh),rfl⟩) λ_ h _=>h) ?_)
  refine kQ [17,18] rfl (aj rfl (ah (bu _ ?_)));exact aJ (bE () rfl aD au)
 | node g x y =>
  refine aA rfl λK2 aM=>gE rfl (kP λ_ h _=>h.1) (aj rfl (ah (aM _ (ir rfl (ag rfl ?_)))));exact aJ (bE () rfl aD au)
theorem aCO(t:eW)(d d':Nat)(hd:IntKind.u8.wrap ((d:Int)+1)=(d':Int)):Spec 104 [(j7 t d).den] [] (jk t) { ret:=λ_:Unit=>ayW d' t,own:=λ_=>[] }:=by
 refine bA [j7 t d] 36 func104 rfl (ab:=iG (Gg t d)) λb=>ag rfl (ao λK hK=>?_);cases t with
 | nil =>
  refine ag rfl (ir rfl (ag rfl ?_));exact aJ (bE () rfl aD au)
 | leaf g h p =>
  refine aA rfl λK2 aM=>gE rfl (kP λ_ h _=>h.1) (aj rfl (ah (aM _ (ir rfl (ag rfl ?_)))));exact aJ (bE () rfl aD au)
 | node g x y =>
  refine aA rfl λK2 aM=>gE rfl (kP λ_ h _=>h.1) (aj rfl (ah (aM _ (dY rfl (aR (hK _ (aA rfl λK4 bW=>gE rfl (kP λ_ h _=>h.1) (aj rfl (ah (bW _ ?_))))))))));refine rS λG=>?_
  have c7:∀u∈([⟨5,some (G 5),221,w8 x y⟩,⟨1,some (G 1),31,rV (.node g x y) d⟩]:aH),u∈iH G [⟨5,none,221,w8 x y⟩,⟨3,none,31,rV .nil 0⟩,⟨2,none,31,rV .nil 0⟩,⟨1,none,31,rV (.node g x y) d⟩]/\u.g.isSome=true:=λu hu=>by
   rcases bT.1 hu with rfl|hu
   .exact⟨eh,rfl⟩
   .rw [bU.1 hu];exact⟨dS _ (dS _ (dS _ eh)),rfl⟩
  refine ao λK3 bu=>?_;refine lv [0,1,2,3,4,5,6,7,8,9,10,11] 13 2 (iV [⟨5,some (G 5),221,w8 x y⟩,⟨1,some (G 1),31,rV (.node g x y) d⟩]) rfl (iE c7) ?_;refine kp (.a 5 (0+1*0)) 0 rfl rfl rfl (eO 0 rfl tV rfl rfl rfl (by decide)) (CB (.v x.val) 1 rfl rfl rfl (λx hx=>(c7 x hx).1) (λ_ h=>h) (CF _ rfl rfl rfl rfl A8 rfl) (cK 2 rfl (λx hx=>(c7 x hx).1) (λ_ h=>h) (cK 3 rfl (λx hx=>(c7 x hx).1) (λ_ h=>h) (cK 4 rfl (λx hx=>(c7 x hx).1) (λ_ h=>h) (cK 5 rfl (λx hx=>(c7 x hx).1) (λ_ h=>h) (kp (.a 5 (0+1*1)) 6 rfl rfl rfl (eO 1 rfl tV rfl rfl rfl (by decide)) (CB (.v y.val) 7 rfl rfl rfl (λx hx=>(c7 x hx).1) (λ_ h=>h) (CF _ rfl rfl rfl rfl A8 rfl) (cK 8 rfl (λx hx=>(c7 x hx).1) (λ_ h=>h) (cK 9 rfl (λx hx=>(c7 x hx).1) (λ_ h=>h) (cK 10 rfl (λx hx=>(c7 x hx).1) (λ_ h=>h) (cK 11 rfl (λx hx=>(c7 x hx).1) (λ_ h=>h) ?_)))))))))));refine eN 12 rfl λK5 bN=>?_;refine aj rfl ?_
  refine ah (bN _ (iE λu hu=>by
   rcases bT.1 hu with rfl|hu
   .exact⟨eh,rfl⟩
   .rw [bU.1 hu];exact⟨dS _ (dS _ (dS _ eh)),rfl⟩) ?_)
  refine kQ [13,14] rfl (aj rfl (ah (bu _ ?_)));exact aJ (dk an () rfl rfl (congrArg (λz:Int=>cM.t [.p [.one (.v x.val),.one (.v (.int .u8 z))],.p [.one (.v y.val),.one (.v (.int .u8 z))],.c (.v (.bool true))]) hd.symm) rfl aD au)
def aCM(r:Nat)(l:dm)(t:eW)(p:dD)(hp:lW p)(hr:r<=256)(ht:fZ r l t)(hs:fK l)(hk:oh l)(gR:lF (256-r) (p::l))(hl:l.length+1<=1000000) :
  Spec 71 [(j7 t ((256-r)%256)).den,(aw 32 p.1).den,(aw 32 p.2).den] [] (λw=>jk t w/\fV w) { ret:=λx:{ t':eW // fZ r (ed l p) t' }=>.q (j7 x.1 ((256-r)%256)),own:=λ_=>[],p:=λx=>jk x.1 }:=by
 have ix:=λh=>aDA r l t h p hr ht hs hk gR hl;obtain⟨D,hD⟩:∃D,(256-r)%256=D:=⟨_,rfl⟩;rw [hD] at ix ⊢;refine bA [j7 t D,aw 32 p.1,aw 32 p.2] 19 func71 rfl (ab:=uP (Gg t _) (dZ (cq hp.1).1 (cq hp.2).1)) λb=>ag rfl ?_;refine rS λG=>?_
 have c7:∀u∈([⟨5,some (G 5),47,[.agg 32 (By p.2).toArray]⟩,⟨4,some (G 4),47,[.agg 32 (By p.1).toArray]⟩,⟨3,some (G 3),31,rV t D⟩]:aH),u∈iH G [⟨6,none,31,rV .nil 0⟩,⟨5,none,47,[.agg 32 (By p.2).toArray]⟩,⟨4,none,47,[.agg 32 (By p.1).toArray]⟩,⟨3,none,31,rV t D⟩]/\u.g.isSome=true:=λu hu=>by
  rcases bT.1 hu with rfl|hu
  .exact⟨dS _ eh,rfl⟩
  rcases bT.1 hu with rfl|hu
  .exact⟨dS _ (dS _ eh),rfl⟩
  rw [bU.1 hu];exact⟨dS _ (dS _ (dS _ eh)),rfl⟩
 refine ao λK3 bu=>?_;refine lv [0,1,2,3,4,6,7,9,10] 11 2 (iV [⟨5,some (G 5),47,[.agg 32 (By p.2).toArray]⟩,⟨4,some (G 4),47,[.agg 32 (By p.1).toArray]⟩,⟨3,some (G 3),31,rV t D⟩]) rfl (iE c7) ?_;refine cK 0 rfl (λx hx=>(c7 x hx).1) (λ_ h=>h) (cK 1 rfl (λx hx=>(c7 x hx).1) (λ_ h=>h) (cK 2 rfl (λx hx=>(c7 x hx).1) (λ_ h=>h) (cK 3 rfl (λx hx=>(c7 x hx).1) (λ_ h=>h) (cK 4 rfl (λx hx=>(c7 x hx).1) (λ_ h=>h) (cK 6 rfl (λx hx=>(c7 x hx).1) (λ_ h=>h) (cK 7 rfl (λx hx=>(c7 x hx).1) (λ_ h=>h) (cK 9 rfl (λx hx=>(c7 x hx).1) (λ_ h=>h) (cK 10 rfl (λx hx=>(c7 x hx).1) (λ_ h=>h) ?_))))))));refine eN 5 rfl λK5 bN=>?_;refine aj rfl (OU 12 (E':=[(8,.v t.val),(14,.v (.int .u8 (D:Int))),(17,.v (.int .u8 (D:Int))),(6,.a 6 0)]) rfl ⟨rfl,rfl,rfl,rfl,trivial⟩ λh=>OX 0 rfl (ah (bN _ (iE c7) ?_)));refine eN 8 rfl λK6 cr=>?_;refine bY [t.val,eE h,.int .u8 (D:Int)] (hf:=LL) rfl (ix h) (λ_ h _=>⟨h.2.1,h.1,h.2.2⟩) λx=>ah (cr _ (iE c7) (kQ [11,12] rfl (aj rfl (ah (bu _ ?_)))));exact aJ (bE x rfl (λ_ h _=>h.1) au)
def Ys(r1 r0:fS):fm Bool:={ ret:=λ_=>.t [],own:=λt=>[bif t then r1 else r0] }
def s6(l:Nat)(o:Loop):fS where
  holds w S:=w.heap[l]?=some (.loop o)/\∀k,S k↔k=l
  fO:=λ⟨h1,h2⟩ hk=>⟨(hk l ((h2 l).2 rfl)).trans h1,h2⟩
  lt:=λ⟨h1,h2⟩ k hk=>by rw [(h2 k).1 hk];exact(po.1 h1).1
def wo(G:aK)(L:aH)(R:bF):fS where
  holds w S:=∃S0,(∀x∈L,bB w (G x.j) x.t (a7 x.ai)/\ch x.ai)/\(gM L).Pairwise (λi j=>G i≠G j)/\gD R w S0/\(∀j∈gM L,¬S0 (G j))/\∀k,S k↔gP S0 G L k
  fO:=λ⟨S0,h1,h2,h3,h4,h5⟩ hk=>⟨S0,λx hx=>⟨(hk _ ((h5 _).2 (.inr ⟨x.j,dv.2 ⟨x,hx,rfl⟩,rfl⟩))).trans (h1 x hx).1,(h1 x hx).2⟩,h2,h3.fO λk hs=>hk k ((h5 k).2 (.inl hs)),h4,h5⟩
  lt:=λ⟨S0,h1,_,h3,_,h5⟩ k hk=>by
    rcases(h5 k).1 hk with hk|⟨j,hj,rfl⟩
    . exact h3.lt k hk
    . obtain⟨x,hx,rfl⟩:=dv.1 hj
      exact(h1 x hx).1.lt
def LF:aH->Bool
  | []=>true
  | x::L=>x.g.isNone&&LF L
theorem acF:∀{L:aH},LF L=true->∀x∈L,x.g=none
 | y::L,h,x,hx=>by
  unfold LF at h;rw [dJ] at h;rcases bT.1 hx with rfl|hx
  .exact Option.isNone_iff_eq_none.1 h.1
  .exact acF h.2 x hx
section
variable{b:bO}{G G':aK}{S:cn}{L L':aH}{R R':bF}{F M:aE}{w w':yp}
def bj.toV(h:bj b G S L R F M w):(wo G L R).holds w (gP S G L):=⟨S,λx hx=>⟨(h.var x hx).1,(h.var x hx).2.1⟩,h.apart,h.res,h.sep,λ_=>mG⟩
theorem UG{G:aK}:∀{L:aH} {x:mn},x∈L->{ x with g:=some (G x.j) }∈iH G L
 | y::L,x,h=>by
  rcases bT.1 h with rfl|h
  .exact eh
  .exact dS _ (UG h)
def bj.akX(h:bj b G' S (iH G L) R F M w):∀j∈gM L,G' j=G j:=λj hj=>by obtain⟨x,hx,rfl⟩:=dv.1 hj;exact(h.var _ (UG hx)).2.2 _ rfl
def bj.aD3(h:bj b G' S (iH G L) R F M w):(wo G L R).holds w (gP S G L)/\∀k,gP S G L k↔gP S G' (iH G L) k:=by
 have hg:=h.akX;refine⟨⟨S,λx hx=>?_,?_,h.res,λj hj=>?_,λ_=>mG⟩,λk=>?_⟩
 .have h1:=h.var _ (UG hx);have h2:=hg x.j (dv.2 ⟨x,hx,rfl⟩);rw [<-h2];exact⟨h1.1,h1.2.1⟩
 .have h1:=h.apart;rw [Bm] at h1;exact h1.imp_of_mem λhi hj b8=>by rwa [<-hg _ hi,<-hg _ hj]
 .rw [<-hg j hj];exact h.sep j (by rw [Bm];exact hj)
 .unfold gP;rw [Bm];exact or_congr mG ⟨λ⟨j,hj,e⟩=>⟨j,hj,(hg j hj).trans e⟩,λ⟨j,hj,e⟩=>⟨j,hj,(hg j hj).symm.trans e⟩⟩
def bj.ofV{S1:cn}(h:(wo G L R).holds w S1)(hF:iu S1 F w):∃S0,bj ⟨λ_=>False,w,S1⟩ G S0 (iH G L) R F (λ_=>True) w:=by
 obtain⟨S0,h1,h2,h3,h4,h5⟩:=h;have hM:∀k,gP S0 G (iH G L) k↔S1 k:=λk=>by rw [h5 k];unfold gP;rw [Bm]
 refine⟨S0,λx hx=>?_,by rw [Bm];exact h2,h3,by rw [Bm];exact h4,hF.less λk _ hk=>hk.elim tP (hM k).1,λ_ _=>trivial,dO.refl _ _,λk hk _=>(hM k).1 hk,λ_ h=>h.elim⟩;obtain⟨y,hy,rfl⟩:=Re hx;exact⟨(h1 y hy).1,(h1 y hy).2,λg hg=>jm hg⟩
def bj.back{T:cn}(h:bj b G S L R F M w)(hg:LF L'=true)(hc:dO (gP S G L) w w')(ab:(wo G L' R').holds w' T)(hT:∀k,T k->k<w.heap.size->gP S G L k):∃S',bj b G S' L' R' F M w':=by
 obtain⟨S0,h1,h2,h3,h4,h5⟩:=ab;have hm:∀k,gP S0 G L' k->k<w.heap.size->gP S G L k:=λk hk=>hT k ((h5 k).2 hk);refine⟨S0,λx hx=>⟨(h1 x hx).1,(h1 x hx).2,λg e=>?_⟩,h2,h3,h4,?_,?_,h.chg.step hc λi hi hs=>h.mine i hs hi,λk hk al=>h.mine k (hm k hk (nP al h.chg.size)) al,h.eS⟩
 .rw [acF hg x hx] at e;cases e
 .exact h.fact.AW (D':=xh b.X S0 G L') (hc.mono (D':=xh b.X S G L) λi _ hs=>.inr hs) λi hi hd=>hd.imp id λhd=>hm i hd hi
 .exact h.fresh.AW (D':=Br b S0 G L') (hc.mono (D':=Br b S G L) λi _ hs=>.inr hs) λi hi hd=>hd.imp id λhd=>hm i hd hi
def bj.mark{l:Nat}{o:Loop}(o':Loop)(h:bj b G S L (s6 l o::R) F M w):∃S',bj b G S' L (s6 l o'::R) F M (w.putObj l (.loop o')):=by obtain⟨S1,h1,h2⟩:=h.put (i:=0) rfl;refine h2 (s6 l o') _ (λk=>k=l) ((Nk w l _).mono λk _ hk=>(h1.2 k).2 hk) ⟨World.putObj_heap_same (po.1 h1.1).1,λ_=>mG⟩ λk hk _=>(h1.2 k).2 hk
def bj.IK{l:Nat}{o:Loop}(h:bj b G S L (s6 l o::R) F M w):w.heap[l]?=some (.loop o):=by obtain⟨S1,h1,_⟩:=h.put (i:=0) rfl;exact h1.1
end
def aIO:j5->Exit
  | none=>.ret
  | some id=>.exit id
def KV:j5->Code
  | none=>.ret
  | some id=>.exit id
def I9{σ:Type}(p:σ->Prop)(r:σ->fS):fS where
  holds w S:=∃s,p s/\(r s).holds w S
  fO:=λ⟨s,hp,h⟩ hk=>⟨s,hp,(r s).fO h hk⟩
  lt:=λ⟨s,_,h⟩=>(r s).lt h
def Jm(R:bF):fS where
  holds w S:=gD R w S
  fO:=λh hk=>h.fO hk
  lt:=λh=>h.lt
def aBY{R R':bF}{w:yp}{S:cn}:gD (Jm R::R') w S↔gD (R++R') w S:=by rw [gD.app];rfl
def wo.more{G:aK}{L:aH}{R O:bF}{w:yp}{S1 S2:cn}(h:(wo G L R).holds w S1)(h2:gD O w S2)(hd:∀k,S2 k->¬S1 k):(wo G L (O++R)).holds w λk=>S2 k\/S1 k:=by
 obtain⟨S0,h3,h4,h5,h6,h7⟩:=h;refine⟨λk=>S2 k\/S0 k,h3,h4,gD.app.2 ⟨S2,S0,h2,h5,λ_=>mG,λk hk h0=>hd k hk ((h7 k).2 (.inl h0))⟩,λj hj hk=>?_,λk=>?_⟩
 .rcases hk with hk|hk
  .exact hd _ hk ((h7 _).2 (.inr ⟨j,hj,rfl⟩))
  .exact h6 j hj hk
 .show S2 k\/S1 k↔(S2 k\/S0 k)\/_
  rw [h7 k];constructor
  .rintro(h|h|h)
   .exact .inl (.inl h)
   .exact .inl (.inr h)
   .exact .inr h
  .rintro((h|h)|h)
   .exact .inl h
   .exact .inr (.inl h)
   .exact .inr (.inr h)
section
variable{ds:List Deferred}{b:bO}{Q:bK}{N:Nat}{E:aG}{F M:aE}{g:yo}{k1 k2:Tmp}{assign body:Code}{gf:FuncId}{lb:cU}{α β σ:Type}
def VH(b1:bO)(N:Nat)(G:aK)(busy:fS)(ar:fS)(I:σ->Prop)(Ix:j5->σ->Prop)(Lf:σ->aH)(Rf:σ->bF):bK
  | .normal,a,w=>∃s,I s/\iz b1 N ⟨[],iH G (Lf s),busy::ar::Rf s,λ_=>True,λ_=>True⟩ a w
  | .ret,a,w=>∃s,Ix none s/\iz b1 N ⟨[],iH G (Lf s),busy::ar::Rf s,λ_=>True,λ_=>True⟩ a w
  | .exit id,a,w=>∃s,Ix (some id) s/\iz b1 N ⟨[],iH G (Lf s),busy::ar::Rf s,λ_=>True,λ_=>True⟩ a w
  | _,_,_=>False
instance{b1:bO}{G:aK}{busy ar:fS}{I:σ->Prop}{Ix:j5->σ->Prop}{Lf:σ->aH}{Rf:σ->bF}:s7 (VH b1 N G busy ar I Ix Lf Rf):=⟨λ_ _ h=>h⟩
def asC{b1:bO}{G:aK}{busy ar:fS}{I:σ->Prop}{Ix:j5->σ->Prop}{Lf:σ->aH}{Rf:σ->bF}{e:Env}(s:σ)(hI:I s)(hw:gj e ⟨[],iH G (Lf s),busy::ar::Rf s,λ_=>True,λ_=>True⟩):cl b1 (VH b1 N G busy ar I Ix Lf Rf .normal) N e:=λ_ _ hs=>⟨s,hI,hs.I0 hw⟩
theorem amS{τ:Type}(ai:Array Tmp)(args:β->cU)(En:β->aG)(Ov:β->bF)(nx:τ->β->τ->Prop)(rF:τ->Prop)(t0:τ)(Lf:σ->aH)(Rf:σ->bF)(I:τ->σ->Prop)(Ix:j5->σ->Prop)(s0:σ)(Fi:aE)
 (hg:aP E g=some (.v (.func (.func gf) #[] lb.toArray)))(hf:Own gf)(Og:∀s,LF (Lf s)=true)(bx:∀t y t',nx t y t'->jK E->jK (En y++E))(gT:∀y,(args y).toArray.size=ai.size)
 (ix:∀y (G:aK) (a:Act),Fr N (bG G E) a->Fr N (bG G (En y++E)) { tmps:=(ai.zip (args y).toArray).foldl (λtm (t,v)=>tm.setIfInBounds t v) a.tmps,defers:=[] })
 (hFi:∀w,F w->M w->Fi w)
 (arF:∀(l:Nat) (Fy:aE) (JR:τ->fS) (JX:fS),(∀t y t',nx t y t'->M3 l (args y) Fy (Jm (Ov y++[JR t])) (JR t') JX)->Spec gf (.func (.yield l) #[] #[]::lb) [JR t0] (λw=>Fi w/\Fy w) (Ys (I9 rF JR) JX))
 (h0:I t0 s0)
 (arC:∀(G:aK) (l D m:Nat) (ready busy:Loop) (b1:bO) (t:τ) (s:σ) (y:β) (t':τ),b.B.heap.size<=b1.B.heap.size->I t s->nx t y t'->∀K:fg,
   (∀E' L' R' F' M',DX (some l) m b1 body (VH b1 N G (s6 l busy) (vZ D) (I t') Ix Lf Rf) N ⟨E',L',s6 l busy::R',F',M'⟩->cl b1 K N ⟨E',L',s6 l ready::R',F',M'⟩) ->
   DX (some l) m b1 assign (Exit.then K λ_ _ _=>False) N ⟨En y++E,iH G (Lf s),s6 l ready::vZ D::(Ov y++Rf s),λw=>F w/\M w,λ_=>True⟩)
 (EI:∀t s D,rF t->I t s->Ft (yE D::ds) b (Q .normal) N ⟨E,Lf s,vZ D::Rf s,F,M⟩)
 (arK:∀c s D,Ix c s->qC (yE D::ds) b (KV c) Q N ⟨E,Lf s,vZ D::Rf s,F,M⟩):qC ds b (.rangeFunc g ai assign body) Q N ⟨E,Lf s0,Rf s0,F,M⟩:=λa w hs=>by
 obtain⟨G,S,lk,hE,hW⟩:=hs;refine(wpIn_wide (n:=0)).1 (wpIn_rangeFunc ?_)
 intro fn _
 obtain⟨rec,sD⟩:∃rec:LoopState->Option Code->Loop,rec=λst IE=>{ state:=st,pending:=IE,fn,tmps:=a.tmps,params:=ai,assign,body,defers:=w.heap.size }:=⟨_,rfl⟩
 have za:∀st IE,(rec st IE).pending=IE:=λst IE=>by rw [sD]
 obtain⟨w1,fy⟩:∃w1,(w.alloc (.deferred (some []))).alloc (.loop (rec .ready none))=w1:=⟨_,rfl⟩;obtain⟨l,hl⟩:∃l,w.heap.size+1=l:=⟨_,rfl⟩;obtain⟨D,hD⟩:∃D,w.heap.size=D:=⟨_,rfl⟩
 have apQ:∃S1,bj b G S1 (Lf s0) (s6 l (rec .ready none)::vZ D::Rf s0) F M w1:=by
  obtain⟨S2,h2⟩:=hW.xI (w':=w.alloc (.deferred (some []))) ((Below.refl _ w).alloc (aQ _) _) (r:=vZ D) (S':=λk=>k=D) ⟨by rw [<-hD];exact vP w _,λ_=>mG⟩ λk hk=>by omega
  obtain⟨S3,h3⟩:=h2.xI (w':=w1) (by rw [<-fy];exact(Below.refl _ _).alloc (aQ _) _) (r:=s6 l (rec .ready none)) (S':=λk=>k=l) ⟨by
   rw [<-fy,<-hl];have:=vP (w.alloc (.deferred (some []))) (.loop (rec .ready none))
   rwa [wD] at this,λ_=>mG⟩ λk hk=>by rw [wD];omega
  exact⟨S3,h3⟩
 obtain⟨S1,NT⟩:=apQ;refine⟨l,[yE D],w1,{ target:=.fn (.func gf) lb.toArray,args:=#[.func (.yield l) #[] #[]] },w1,gf,#[.func (.yield l) #[] #[]]++lb.toArray,w1,?_,?_,λ_ _=>trivial,?_,λh=>(by cases h),?_⟩
 .rw [<-fy,sD,<-hl,<-hD];exact run_enterLoop_outer _ _ _ _ _
 .have e:(oz ds a).eval g = .func (.func gf) #[] lb.toArray:=lk.eval (bH hg);simp only [resolve,e];simp [go_sem]
 .simp [invoke,go_sem];exact hf _ w1
 let JR:τ->fS:=λt=>I9 (I t) λs=>wo G (Lf s) (s6 l (rec .ready none)::vZ D::Rf s)
 let JX:fS:=I9 (λx:j5×σ=>Ix x.1 x.2) λx=>wo G (Lf x.2) (s6 l (rec .done (some (KV x.1)))::vZ D::Rf x.2)
 have hy:∀t y t',nx t y t'->M3 l (args y) (λw=>F w/\M w) (Jm (Ov y++[JR t])) (JR t') JX:=by
  rintro t y t' hj w2 S2 KN GW m;obtain⟨SO,SJ,hO,hJ,NS,aq7⟩:=gD.app.1 KN;obtain⟨s,hI,nn⟩:=Mq.1 hJ;have TW:(wo G (Lf s) (Ov y++(s6 l (rec .ready none)::vZ D::Rf s))).holds w2 S2:=by obtain⟨S0,a1,a2,a3,a4,a5⟩:=wo.more nn hO aq7;exact⟨S0,a1,a2,a3,a4,λk=>(NS k).trans (a5 k)⟩
  have ab:(wo G (Lf s) (s6 l (rec .ready none)::vZ D::(Ov y++Rf s))).holds w2 S2:=by obtain⟨S0,a1,a2,a3,a4,a5⟩:=TW;exact⟨S0,a1,a2,a3.perm (List.perm_middle.trans (.cons _ List.perm_middle)),a4,a5⟩
  obtain⟨S3,h3⟩:=bj.ofV ab GW;have hle:b.B.heap.size<=w2.heap.size:=by have h1:=(po.1 h3.IK).1;have h2:=hW.chg.size;omega
  have hy:(Instr.yield l (args y).toArray).run prog w2 = .ok (.round l fn ((ai.zip (args y).toArray).foldl (λtm (t,v)=>tm.setIfInBounds t v) a.tmps) assign body) w2:=by
   have hy:=run_yield (P:=prog) (args:=(args y).toArray) h3.IK (by rw [sD];exact gT y)
   rwa [sD] at hy
  refine⟨fn,_,assign,body,hy,roundIn_of_wpIn trivial ?_⟩;refine arC G l D m (rec .ready none) (rec .busy none) ⟨λ_=>False,w2,S2⟩ t s y t' hle hI hj _ ?_ _ _ ⟨G,S3,?_,?_,h3⟩
  .rintro E' L' R' F' M' hb a3 w3 ⟨G4,S4,h41,h42,h43⟩
   refine⟨_,run_beginRound h43.IK (by rw [sD]),?_⟩;obtain⟨S5,h5⟩:=h43.mark (rec .busy none);have h6:=hb a3 _ ⟨G4,S5,h41,h42,h5⟩;have eb:({ rec .ready none with state:=.busy }:Loop)=rec .busy none:=by rw [sD]
   rw [eb];refine wpIn_mono h6 ?_;have fin:∀(c:Option Code) (a4:Act) (w4:yp) (s':σ),iz ⟨λ_=>False,w2,S2⟩ N ⟨[],iH G (Lf s'),s6 l (rec .busy none)::vZ D::Rf s',λ_=>True,λ_=>True⟩ a4 w4 ->
     ∃w5 S5,(Instr.endRound l c).run prog w4 = .ok (.bool c.isNone) w5/\dO S2 w2 w5/\(wo G (Lf s') (s6 l (rec (if c.isNone then .ready else .done) c)::vZ D::Rf s')).holds w5 S5/\∀k,S5 k->k<w2.heap.size->S2 k:=by
    rintro c a4 w4 s' ⟨G7,S7,_,_,h7⟩
    obtain⟨S8,h8⟩:=h7.mark (rec (if c.isNone then .ready else .done) c);have hr:=run_endRound (P:=prog) c h7.IK
    have eb:({ rec .busy none with state:=if c.isNone then .ready else .done,pending:=c }:Loop)=rec (if c.isNone then .ready else .done) c:=by rw [sD]
    rw [eb] at hr;obtain⟨h9,h10⟩:=h8.aD3;exact⟨_,_,hr,h8.chg,h9,λk hk al=>h8.mine k ((h10 k).1 hk) al⟩
   rintro e a4 w4 hp;cases e with
   | normal =>
    obtain⟨s',hI',hs'⟩:=hp;obtain⟨w5,S5,hr,hc,ab,bm⟩:=fin none a4 w4 s' hs';exact⟨_,_,hr,true,S5,rfl,hc,⟨s',hI',ab⟩,bm⟩
   | ret =>
    obtain⟨s',hI',hs'⟩:=hp;obtain⟨w5,S5,hr,hc,ab,bm⟩:=fin (some .ret) a4 w4 s' hs';exact⟨_,_,hr,false,S5,rfl,hc,⟨(none,s'),hI',ab⟩,bm⟩
   | exit id =>
    obtain⟨s',hI',hs'⟩:=hp;obtain⟨w5,S5,hr,hc,ab,bm⟩:=fin (some (.exit id)) a4 w4 s' hs';exact⟨_,_,hr,false,S5,rfl,hc,⟨(some id,s'),hI',ab⟩,bm⟩
   | _=>exact hp.elim
  .exact ix y G a lk
  .exact bx t y t' hj hE
 have Zy:=arF l (λw=>F w/\M w) JR JX hy w1 (gP S1 G (Lf s0)) (λ_=>False) (Mq.2 ⟨s0,h0,NT.toV⟩) (λ_ h=>h.elim) ((NT.all.imp λw hw=>⟨hFi w hw.1 hw.2,hw⟩).less λk _ hk=>.inr (hk.elim tP id))
 have e:(.func (.yield l) #[] #[]::lb).toArray = #[.func (.yield l) #[] #[]]++lb.toArray:=by simp
 rw [e] at Zy;refine(XR (ro:=none) (n:=0-1) Zy).mono ?_
 have ea:({ oz ds a with defers:=[yE D]++(oz ds a).defers }:Act)=oz (yE D::ds) a:=by have:=lk.defers;cases a;simp only at this;subst this;rfl
 rw [ea]
 rintro e w2 ⟨t,S2,rfl,_,n6,h2,NS,_,_⟩
 have h2:=Mq.1 h2
 cases t with
 | true =>
  obtain⟨t,Td,s,hI,ab⟩:=h2;obtain⟨S3,h3⟩:=NT.back (Og s) n6 ab NS;have hr:=run_endLoop (P:=prog) h3.IK (by rw [sD];simp);obtain⟨S4,h4⟩:=bj.drop (D:=l) h3 (λS1 bm=>(bm.2 l).2 rfl) (Nk w2 l (.loop (rec .exhausted none)))
  have eb:({ rec .ready none with state:=.exhausted }:Loop)=rec .exhausted none:=by rw [sD]
  rw [eb,za] at hr;exact⟨_,_,hr,EI t s D Td hI a _ ⟨G,S4,lk,hE,h4⟩⟩
 | false =>
  obtain⟨⟨c,s⟩,hI,ab⟩:=h2;obtain⟨S3,h3⟩:=NT.back (Og s) n6 ab NS;have hr:=run_endLoop (P:=prog) h3.IK (by rw [sD];simp);obtain⟨S4,h4⟩:=bj.drop (D:=l) h3 (λS1 bm=>(bm.2 l).2 rfl) (Nk w2 l (.loop (rec .exhausted (some (KV c)))))
  have eb:({ rec .done (some (KV c)) with state:=.exhausted }:Loop)=rec .exhausted (some (KV c)):=by rw [sD]
  rw [eb,za] at hr;exact⟨_,_,hr,(wpIn_wide (n:=0)).2 (arK c s D hI a _ ⟨G,S4,lk,hE,h4⟩)⟩
end
section
variable{ds:List Deferred}{ro:j5}{n:Nat}{b:bO}{Q:bK}{N:Nat}{E:aG}{L:aH}{R:bF}{F M:aE}{id:Nat}{l:aN}{y:Code}
def amU{x:Code}{e:Env}(h:∀K:fg,(∀ds' e',qC ds' b y Q N e'->Ft ds' b K N e')->qC ds b x (Exit.then K Q) N e):qC ds b (.seq x y) Q N e:=λa w hs =>
 wp_seq_k λK hK=>h K (λ_ _ h' a' w' hs'=>hK _ _ (h' a' w' hs')) a w hs
instance:s7 (λ_ _ _=>False):=⟨λ_ _ h=>h⟩
end
def atH:laidOutB prog=true:=by kernel_rfl
def Zr:Maps.Keyed prog 47:=Maps.Keyed.of_law (deep_law_laid (m:=4) atH (by decide) (of_decide_eq_true (by kernel_rfl)) (by kernel_rfl) (by kernel_rfl))
def Gr(s:ae):yl:=.agg (By s).toArray
theorem Xk:∀{l m:ae},Gr l=Gr m->l=m:=by
 intro l m h;have h8:By l=By m:=by injection h with h;exact List.toArray_inj h
 clear h;induction l generalizing m with
 | nil=>cases m with
  | nil=>rfl
  | cons=>cases h8
 | cons x l ih=>cases m with
  | nil=>cases h8
  | cons y m =>
   injection h8 with h1 h2
   injection h1 with _ h1
   rw [ih h2,UInt8.toNat_inj.1 (by omega:x.toNat=y.toNat)]
def asH(d:Nat)(n:Nat)(h:n<256):prog.keyLits (d+1) 5 [.int .u8 (n:Int)]=some [.int .u8 (n:Int)]:=by
 have hw:(Lit.int .u8 (n:Int)).wf=true:=by simp [Lit.wf,IntKind.min,IntKind.max,mO,oB];omega
 simp [Program.keyLits,nu,hw]
def asF(d:Nat){s:ae}(hs:s.length=32):∃l,prog.keyLits (d+2) 47 (By s)=some l:=by
 have hc:prog.cellsOf 47 = 32:=by kernel_rfl
 have h8:prog.cellsOf 5 = 1:=by kernel_rfl
 have hm:∀i,i<32->∃l,prog.keyLits (d+1) 5 (((By s).drop (i*1)).take 1)=some l:=λi hi=>by
  have e:((By s).drop (i*1)).take 1=[.int .u8 ((s[i]'(by omega)).toNat:Int)]:=by rw [Nat.mul_one,List.drop_eq_getElem_cons (by rw [dH];omega)];simp [By]
  rw [e];exact⟨_,asH d _ (UInt8.toNat_lt _)⟩
 have key:∀(is:aC),(∀i∈is,i<32)->∃L,is.mapM (λi=>prog.keyLits (d+1) 5 (((By s).drop (i*1)).take 1))=some L:=by
  intro is;induction is with
  | nil=>intro _;exact⟨[],rfl⟩
  | cons i is ih =>
   intro h
   obtain⟨l,hl⟩:=hm i (h i (by simp));obtain⟨L,hL⟩:=ih λj hj=>h j (by simp [hj]);exact⟨l::L,by simp only [List.mapM_cons,hl,hL];rfl⟩
 obtain⟨L,hL⟩:=key (List.range 32) (λi hi=>List.mem_range.1 hi);refine⟨L.flatten,?_⟩;unfold Program.keyLits;simp only [dp];rw [if_pos (by rw [dH,hs,hc]),h8,hL];rfl
def Zq{s:ae}(hs:s.length=32):∃l,keyOf prog 47 (Gr s)=some l:=by
 have hk:prog.keyType 47 = true:=by kernel_rfl
 have hc:prog.cellsOf 47 = 32:=by kernel_rfl
 have hf:(Gr s).formed prog 47 = true:=by unfold Gr Value.formed;simp only [dp,hc];simp [dH,hs]
 obtain⟨n,hn⟩:∃n,prog.types.size+1=n+2:=⟨prog.types.size-1,by
  have:decide (2<=prog.types.size)=true:=by kernel_rfl
  have:=of_decide_eq_true this;omega⟩
 obtain⟨ls,y6⟩:=asF n hs;have dN:(Gr s).cells.toList=By s:=rfl;refine⟨.string (keyBytes ls),?_⟩;unfold keyOf;simp only [dp,hk,hf,Bool.and_self,if_true,hn,dN,y6];rfl
abbrev jM:nK ae fv:={ t:=28,kt:=47,vt:=38,kv:=aw 32,vv:=se }
abbrev iF(k:ae):Prop:=k.length=32
def Qj:=@underlying28
def uf:jM.aI iF where
 und:=Qj
 keyed:=Zr
 key _ h:=Zq h
 inj _ _ h:=Xk h
theorem UP:∀w,(zeroValue jM.vt).run prog w = .ok (jM.V Cv) w:=λw=>by
 have hi:(prog.info? 38).bind (·.zero)=some (.slice none 0 0):=by kernel_rfl
 unfold zeroValue typeInfo;cases h:prog.info? 38 with
 | none=>rw [h] at hi;cases hi
 | some i =>
  rw [h] at hi;have hi:i.zero=some (.slice none 0 0):=hi
  simp [h,hi]
  rfl
structure fU where
  ep:Int
  mv:j5
  es:Array MapEntry
  clock:Nat
  n:Nat
  h:ae->Option fv
  t:eW
  l:bZ
def fU.parts(d:fU):cJ:=[.one (.v (.int .i64 d.ep)),.one (.v (.map d.mv)),.agg 2 #[d.t.val,.int .u8 0]]
abbrev nU(d:fU):aL:=.p d.parts
def anA(t:eW):t.val.oneCell'=true:=by cases t<;>rfl
def fU.ig(d:fU):ch d.parts:=λp hp=>by
 simp only [fU.parts,bT,xG,or_false] at hp;rcases hp with rfl|rfl|rfl
 .exact⟨trivial,rfl,rfl⟩
 .exact⟨trivial,rfl,rfl⟩
 .refine⟨rfl,λv ab=>?_⟩
  simp only [bT,xG,or_false] at ab;rcases ab with rfl|rfl
  .exact anA _
  .rfl
structure fU.aI(d:fU):Prop where
  dir:dj d.l
  small:mq d.l
  zK:CR d.h d.l
  tree:fZ 256 (dg d.l) d.t
  map:match d.mv with|none=>∀k,d.h k=none|some _=>mo jM iF d.es d.clock d.n d.h
def fU.F(d:fU)(w:yp):Prop:=(∀m,d.mv=some m->vb m d.es d.clock w)/\(∀k s,d.h k=some s->s.rd w)/\jk d.t w
instance aHV{d:fU}:dc d.F:=⟨λ_ _ ⟨h1,h2,h3⟩ hb=>⟨λm hm=>dc.later _ _ (h1 m hm) hb,λk s hs=>dc.later (p:=s.rd) _ _ (h2 k s hs) hb,h3.later hb⟩⟩
def vS:fU:=⟨0,none,#[],0,0,λ_=>none,.nil,[]⟩
def MN:vS.aI:=⟨dj.nil,λ_ h=>(by cases h),CR.nil,rfl,λ_=>rfl⟩
def W8(w:yp):vS.F w:=⟨λ_ h=>(by cases h),λ_ _ h=>(by cases h),trivial⟩
def fU.R9(d:fU):Nat:=match d.mv with
  | none=>0
  | some _=>d.n
def fU.w9(d:fU)(k:ae):fv:=(d.h k).getD Cv
theorem fU.aI.ag5{d:fU}(h:d.aI)(k:ae):(d.w9 k).l=cB d.l k:=by
 unfold fU.w9;cases hk:d.h k with
 | none=>exact((h.zK k).2 hk).symm
 | some s=>exact((h.zK k).1 s hk).2.symm
theorem fU.F.ag6{d:fU}{w:yp}(h:d.F w)(k:ae):(d.w9 k).rd w:=by
 unfold fU.w9;cases hk:d.h k with
 | none=>exact ar.nil _ _ _
 | some s=>exact h.2.1 k s hk
section
variable{N:Nat}{E:aG}{L:aH}{R:bF}{F M:aE}{o:Oper}{x y:yo}
theorem af5{d:fU}(hd:d.aI)(hF:∀G S w,View G S L R F M w->d.F w)(k:ae)(hk:k.length=32)(ho:o.op = .lookup jM.t x y false)(hx:aP E x=some (.v (.map d.mv)))(hy:aP E y=some (.q (aw 32 k))) :
  ∀(G:aK) (S:cn) (a:Act) (w:yp),Fr N (bG G E) a->View G S L R F M w->(execOp a.eval o).run prog w = .ok (.value ((aq.q (se (d.w9 k))).den G)) w:=by
 have hm:=hd.map
 unfold fU.w9
 cases xP:d.mv with
 | none =>
  rw [xP] at hm hx;rw [hm k];exact azT uf k Cv hk UP ho hx hy
 | some m =>
  rw [xP] at hm hx;have hA:∀G S w,View G S L R F M w->yz jM iF m d.n d.h w:=λG S w h=>⟨d.es,d.clock,(hF G S w h).1 m xP,hm⟩
  cases hs:d.h k with
  | none=>exact af9 uf hA k Cv hk hs UP ho hx hy
  | some s=>exact af7 uf hA k s hk hs ho hx hy
theorem azP{m n:Nat}{g:ae->Option fv}(hA:∀G S w,View G S L R F M w->yz jM iF m n g w)(k:ae)(hk:k.length=32)(ho:o.op = .lookup jM.t x y true)(hx:aP E x=some (.v (.map (some m))))(hy:aP E y=some (.q (aw 32 k))) :
  ∀(G:aK) (S:cn) (a:Act) (w:yp),Fr N (bG G E) a->View G S L R F M w->(execOp a.eval o).run prog w = .ok (.value ((aq.t [se ((g k).getD Cv),.c (.b (g k).isSome)]).den G)) w:=by
 cases hs:g k with
 | none=>exact afA uf hA k Cv hk hs UP ho hx hy
 | some s=>exact af8 uf hA k s hk hs ho hx hy
theorem azR{d:fU}(hd:d.aI)(hF:∀G S w,View G S L R F M w->d.F w)(ho:o.op = .call { callee:=.builtin .len,args:=#[x],argTypes:=#[jM.t] })(hx:aP E x=some (.v (.map d.mv))) :
  ∀(G:aK) (S:cn) (a:Act) (w:yp),Fr N (bG G E) a->View G S L R F M w->(execOp a.eval o).run prog w = .ok (.value ((aq.v (.int .i64 (d.R9:Int))).den G)) w:=by
 have hm:=hd.map
 unfold fU.R9
 cases xP:d.mv with
 | none =>
  rw [xP] at hx;exact azS uf ho hx
 | some m =>
  rw [xP] at hm hx;exact VM uf (λG S w h=>⟨d.es,d.clock,(hF G S w h).1 m xP,hm⟩) ho hx
end
def GN{k:ae}(h:iF k):(jM.kv k).aI:=(cq h).1
def Yk(s:fv):(jM.vv s).aI:=trivial
def Bo(h:ae->Option fv)(done:List (ae×fv)):Prop:=∀k s,h k=some s↔(k,s)∈done
def Bo.nil:Bo (λ_=>none) []:=λk s=>by simp
def Bo.put{h:ae->Option fv}{done:List (ae×fv)}(hh:Bo h done){k:ae}(s:fv)(hn:∀d∈done,d.1≠k):Bo (nt h k s) (done++[(k,s)]):=λx y=>by
 unfold nt;rw [List.mem_append,bU];by_cases c:x=k
 .subst c
  rw [if_pos rfl];constructor
  .exact λe=>.inr (by injection e with e;rw [e])
  .rintro(e|e)
   .exact absurd rfl (hn _ e)
   .injection e with _ e;rw [e]
 .rw [if_neg c,hh x y];exact⟨.inl,λe=>e.resolve_right λe=>c (by injection e)⟩
theorem Bo.eq{h g:ae->Option fv}{done:List (ae×fv)}(hh:Bo h done)(h1:∀d∈done,g d.1=some d.2)(h2:∀k s,g k=some s->(k,s)∈done):h=g:=by
 funext k;cases hg:g k with
 | some s=>exact(hh k s).2 (h2 k s hg)
 | none =>
  cases hk:h k with
  | none=>rfl
  | some s =>
   have:=h1 _ ((hh k s).1 hk);rw [hg] at this
   cases this
theorem auN{d:fU}(hd:d.aI)(m:Nat):Spec 70 [.map (some m),.map d.mv] [iZ jM iF m 0 λ_=>none] d.F { ret:=λ_=>.t [],own:=λn:Nat=>[iZ jM iF m n d.h] }:=by
 refine bA [.c (.v (.map (some m))),.c (.v (.map d.mv))] 16 func70 rfl λb=>?_;have hm:=hd.map;cases xP:d.mv with
 | none =>
  rw [xP] at hm;have hh:d.h=λ_=>none:=funext hm;refine aA rfl λK hK=>atA rfl rfl rfl rfl Qj rfl λr=>ah (hK _ (a8 ?_))
  let Fs:Unit->Env:=λ_=>⟨[(7,.v (eE r))],[],[ue none r 0 #[],iZ jM iF m 0 λ_=>none],λ_=>True,λ_=>True⟩
  refine cI (e':=Fs ()) ⟨⟨rfl,trivial⟩,trivial,.refl _,aD, au⟩ (cY (λ_=>0) Fs (λ_=>True) ?_ () trivial)
  intro _ _
  refine aA rfl λK2 aM=>at5 0 rfl rfl rfl rfl (aj rfl (ah (aM _ (ao λK3 bu=>dY rfl (cG (a6 (a6 (cF (lN 0 rfl ?_)))))))));exact dk an 0 rfl rfl rfl (by rw [hh];rfl) aD au
 | some m2 =>
  rw [xP] at hm;have hH:mo jM iF d.es d.clock d.n d.h:=hm;refine aA rfl λK hK=>Uw rfl rfl rfl rfl Qj rfl (es:=d.es) (clock:=d.clock) (λ_ _ _ h=>h.fact.1 m2 xP) λr=>ah (hK _ (a8 ?_))
  let Fs:Array Nat×List (ae×fv)×Nat×(ae->Option fv)->Env:=λx=>⟨[(7,.v (eE r)),(0,.v (.map (some m)))],[],[ue (some m2) r d.clock x.1,iZ jM iF m x.2.2.1 x.2.2.2],vb m2 d.es d.clock,λ_=>True⟩
  refine cI (e':=Fs (#[],[],0,λ_=>none)) ⟨dB rfl, trivial, .refl _,λ_ h _=>h.1 m2 xP, au⟩ (cY (λx=>(leftOf d.es x.1).size) Fs (λx=>ud jM iF d.es d.h x.1 x.2.1/\Bo x.2.2.2 x.2.1) ?_ (#[],[],0,λ_=>none) ⟨ud.nil,Bo.nil⟩)
  rintro⟨seen,done,n,f⟩ ⟨hD,aF⟩
  dsimp only at hD aF
  refine aA rfl λK2 aM=>?_;refine Uu hH hD (λ_ h=>GN h) Yk 0 rfl rfl rfl rfl rfl rfl (λ_ _ _ h=>h.fact) (λh0=>?_) λq v seen' hq ab b8 al hl hD'=>?_
  .refine aj rfl ?_;refine ah (aM _ (ao λK3 bu=>dY rfl (cG (a6 (a6 (cF (lN 0 rfl ?_)))))));exact dk an n rfl rfl rfl (by rw [aF.eq (λd hd=>(hD.tB d hd).2) λk s h=>hD.all uf hH h0 h];rfl) aD au
  refine aj rfl (ah (aM _ (ao λK3 bu=>ir rfl (aR (bu _ (a8 (aA rfl λK4 bW=>jq (.t [aw 32 q,se v]) (ab:=dZ (GN hq) trivial) rfl (VL hH 0 rfl hl (λ_ _ _ h=>h.fact) rfl rfl) (aj rfl (ah (bW _ (ef (aj rfl (Lg uf 1 rfl q v hq rfl rfl rfl rfl rfl rfl (ah ?_))))))))))))));exact(cH (seen',done++[(q,v)],_,nt f q v) ⟨hD',aF.put v b8⟩ al (hv rfl rfl rfl))
def HG:TypeDesc->Bool
  | .interface _=>true
  | _=>false
section
variable{P:ym}{a t ti:yn}{d:TypeDesc}{v z:yl}{w:yp}
def akW(hu:P.underlying a=some d)(hd:HG d=false):(nG (.iface a v) ti a true).run P w = .ok (.tuple #[v,.bool true]) w:=by simp only [nG,bI,run_underlying hu,bS];cases d<;>first|(simp;done)|cases hd
def akV(hu:P.underlying a=some d)(hd:HG d=false)(ht:t≠a)(hz:(P.info? a).map (·.zero)=some (some z)):(nG (.iface t v) ti a true).run P w = .ok (.tuple #[z,.bool false]) w:=by obtain⟨j,hj,hz'⟩:=uD.1 hz;simp only [nG,bI,run_underlying hu,bS];cases d<;>first|(simp [ht,zeroValue,typeInfo,hj,hz'];done)|cases hd
def tU(P:ym)(t:yn)(name:String)(f:FuncId):Bool:=match P.info? t,P.underlying t with
  | some i,some d=>(match i.methods.find? (·.name==name) with
    | some m=>m.path.isEmpty&&(m.func==some (f,false)) && !(match d with | .pointer _=>true|_=>false)
    | none=>false)
  | _,_=>false
end
section
variable{N:Nat}{E:aG}{o:Oper}{x y:yo}{t ti a t':yn}{d:TypeDesc}{q z:aL}{v:yl}
def qk(ho:o.op = .makeInterface t x)(hu:prog.underlying t=some d)(hd:HG d=false)(hx:aP E x=some (.q q)) :
  ∀(G:aK) (a:Act) (w:yp),Fr N (bG G E) a->(execOp a.eval o).run prog w = .ok (.value ((aq.v (.iface t q.den)).den G)) w:=λG a w ha=>by
 have h1:a.eval x=q.den:=ha.eval (bH hx)
 unfold execOp
 simp only [ho,h1,Instr.makeInterface,bI,run_underlying hu,bS]
 cases d<;>first|rfl|cases hd
def azY(ho:o.op = .typeAssert x ti a true)(hu:prog.underlying a=some d)(hd:HG d=false)(hx:aP E x=some (.v (.iface a v)))(ab:v=q.den) :
  ∀(G:aK) (ac:Act) (w:yp),Fr N (bG G E) ac->(execOp ac.eval o).run prog w = .ok (.value ((aq.t [q,.c (.v (.bool true))]).den G)) w:=λG ac w ha=>by
 have h1:ac.eval x = .iface a v:=ha.eval (bH hx);subst ab
 unfold execOp
 simp only [ho,h1,akW hu hd,bI,bS,bM]
 rfl
def azX(ho:o.op = .typeAssert x ti a true)(hu:prog.underlying a=some d)(hd:HG d=false)(hx:aP E x=some (.v (.iface t v)))(ht:t≠a)(hz:(prog.info? a).map (·.zero)=some (some z.den)) :
  ∀(G:aK) (ac:Act) (w:yp),Fr N (bG G E) ac->(execOp ac.eval o).run prog w = .ok (.value ((aq.t [z,.c (.v (.bool false))]).den G)) w:=λG ac w ha=>by
 have h1:ac.eval x = .iface t v:=ha.eval (bH hx)
 unfold execOp
 simp only [ho,h1,akV hu hd ht hz,bI,bS,bM]
 rfl
def VO(ms:Array (String×yn))(hu:prog.underlying ti=some (.interface ms))(ho:o.op = .binOp .eql ti x (.const .nilIface) t')(hx:aP E x=some (.v (.iface t v))) :
  ∀(G:aK) (ac:Act) (w:yp),Fr N (bG G E) ac->(execOp ac.eval o).run prog w = .ok (.value ((aq.v (.bool false)).den G)) w:=λG ac w ha=>by
 have h1:ac.eval x = .iface t v:=ha.eval (bH hx)
 unfold execOp
 simp only [ho,h1]
 go_simp
 rfl
def aA2(ms:Array (String×yn))(hu:prog.underlying ti=some (.interface ms))(ho:o.op = .binOp .eql ti x (.const .nilIface) t')(hx:aP E x=some (.v .nilIface)) :
  ∀(G:aK) (ac:Act) (w:yp),Fr N (bG G E) ac->(execOp ac.eval o).run prog w = .ok (.value ((aq.v (.bool true)).den G)) w:=λG ac w ha=>by
 have h1:ac.eval x = .nilIface:=ha.eval (bH hx)
 unfold execOp
 simp only [ho,h1]
 go_simp
 rfl
end
theorem aA8{P:ym}{t:yn}{v:yl}{name:String}{f:FuncId}{fuel:Nat}{w:yp}(h:tU P t name f=true):(method (fuel+1) t v name).run P w = .ok (f,v) w:=by
 unfold tU at h;cases hi:P.info? t with
 | none=>rw [hi] at h;cases h
 | some i =>
  cases hu:P.underlying t with
  | none=>rw [hi,hu] at h;cases h
  | some d =>
   rw [hi,hu] at h
   dsimp only at h
   cases hm:i.methods.find? (·.name==name) with
   | none=>rw [hm] at h;cases h
   | some m =>
    rw [hm] at h;simp only [dJ,beq_iff_eq,Bool.not_eq_true',Array.isEmpty_iff] at h;obtain⟨⟨h1,h2⟩,h3⟩:=h
    have TQ:∀w,(typeInfo t).run P w = .ok i w:=λw=>by simp [typeInfo,hi]
    have wO:∀w wr,(receiverAt t (.val v) false wr).run P w = .ok v w:=λw wr=>by unfold receiverAt;simp only [run_underlying hu,bI,bS];cases d<;>first|rfl|cases h3
    unfold method
    simp only [bI,TQ,bS,hm];rw [h1];simp only [follow,bM,bS,h2,bI,wO]
def afD{a:Act}{o:Oper}{f:FuncId}{x:yo}{name:String}{xs:na}{ats:mX}{t:yn}{v:yl}(hf:Own f)(hm:tU prog t name f=true)(ho:o.op = .call { callee:=.invoke x name,args:=xs,argTypes:=ats })(hx:a.eval x = .iface t v)(w:yp) :
  (execOp a.eval o).run prog w = .ok (.enter f (#[v]++xs.map a.eval)) w:=by
 obtain⟨dst,op,ty,pos,af,gd⟩:=o;simp only at ho;subst ho;have h:=hf (#[v]++xs.map a.eval) w;have h2:∀fuel w,(method (fuel+1) t v name).run prog w = .ok (f,v) w:=λfuel w=>aA8 hm
 have e0:(#[rJ t v]++xs.map a.eval)[0]?=some (.iface t v):=by rw [Array.getElem?_append_left (show 0<1 from lY)];rfl
 have e1:(#[rJ t v]++xs.map a.eval).extract 1 (#[rJ t v]++xs.map a.eval).size=xs.map a.eval:=by apply Array.toList_inj.1;rw [Array.toList_extract,wC,<-kD,wC];show List.take (([rJ t v]++(Array.map a.eval xs).toList).length-1) (Array.map a.eval xs).toList=_;exact kE (by rw [aV,oM];omega)
 have h3:=λw=>h2 (prog.types.size+99) w
 unfold execOp
 simp only [resolve,hx,bI,bM,bS]
 unfold invoke
 dsimp only
 rw [e0]
 dsimp only
 rw [e1]
 unfold callMethod
 dsimp only
 generalize prog=P at *;simp only [bI,run_program,bS];rw [show P.types.size+Made.depth=P.types.size+99+1 from rfl,h3];exact h
section
variable{b:bO}{ops:aZ}{Q:bK}{N:Nat}{E:aG}{L:aH}{R R' own:bF}{F M F':aE}{o:Oper}{rest:aN}{k:Nat}{α:Type}{post:fm α}{f:FuncId}{x:yo}{name:String}{xs:na}{ats:mX}{svs:nH}{t:yn}{v:yl}
def asW(args:cU)(hq:di o k N)(hf:Own f)(ho:o.op = .call { callee:=.invoke x name,args:=xs,argTypes:=ats })(np:aP E x=some (.v (.iface t v)))(hm:tU prog t name f=true)(hx:lg E xs.toList=some svs)
 (ha:∀G:aK,(∀x∈L,∀g,x.g=some g->G x.j=g)->svs.map (aq.den G)=args)(hs:Spec f (v::args) own F' post)(hF:∀w,F w->M w->F' w)
 (hn:∀x,a9 prog b ops Q N rest ⟨(k,(post.ret x).eJ)::E,L,post.own x++R',λw=>post.p x w/\F w,λw=>post.n x w/\M w⟩):a9 prog b ops Q N (o::rest) ⟨E,L,own++R',F,M⟩:=λa w ⟨G,S,h1,h2,h3⟩=>by
 have hr:=afD hf hm ho (show a.eval x = .iface t v from h1.eval (bH np)) w;rw [ya (args:=(svs.map (aq.den G)).toArray) (h1.Af _ _ (by rw [vh hx])),ha G λx hx=>(h3.var x hx).2.2,show #[v]++args.toArray=(v::args).toArray by simp] at hr
 unfold wpList
 rw [if_pos (by simp [aU,(eB hq)])];refine .inl ?_
 unfold Oper.wp
 rw [hr];simp only [Oper.upon,(eC hq)];refine(h3.RZ hs hF).mono ?_
 rintro e w' ⟨x,S',rfl,bx,h4⟩
 have h5:=h1.put (dQ hq) (post.ret x).den;rw [<-cM.ql _ G] at h5;have h6:=hn x _ w' ⟨G,S',h5,h2.cons bx,h4⟩;rw [cM.ql] at h6;exact h6
end
inductive ak where
  | empty
  | leaf (p:dD)
  | inner (a b:ak)
  | hid (h:ae)
namespace ak
def root:ak->ae
  | empty=>dx
  | leaf p=>qW p
  | inner a b=>mz a.root b.root
  | hid h=>h
def bytes:ak->ae
  | empty=>[0]
  | leaf p=>1::(p.1++p.2)
  | inner a b=>2::(a.bytes++b.bytes)
  | hid h=>3::h
def kind:ak->Nat
  | empty=>0
  | leaf _=>1
  | inner _ _=>2
  | hid _=>3
def find(k:ae):Nat->ak->ak
  | d,inner a b=>if b7 k d=0 then find k (d+1) a else find k (d+1) b
  | _,w=>w
def tell(k:ae):ak->ae×Bool×Bool
  | leaf p=>if p.1=k then(p.2,true,false) else(dx,false,false)
  | hid _=>(dx,false,true)
  | _=>(dx,false,false)
def two:Nat->Nat->dD->dD->ak
  | 0,_,_,_=>empty
  | n+1,d,q,p=>if b7 q.1 d=b7 p.1 d then(if b7 q.1 d=0 then inner (two n (d+1) q p) empty else inner empty (two n (d+1) q p)) else if b7 q.1 d=0 then inner (leaf q) (leaf p) else inner (leaf p) (leaf q)
def put(p:dD):Nat->ak->ak
  | _,empty=>leaf p
  | d,leaf q=>if q.1=p.1 then leaf p else two (256-d) d q p
  | d,inner a b=>if b7 p.1 d=0 then inner (put p (d+1) a) b else inner a (put p (d+1) b)
  | _,hid h=>hid h
def bad(a b:ak):Bool:=(a.kind==0&&b.kind==0)||(a.kind==0&&b.kind==1)||(a.kind==1&&b.kind==0)
end ak
def iO(way:aC)(k:ae):Prop:=∀i,i<way.length->b7 k i=way[i]!
instance(way:aC)(k:ae):Decidable (iO way k):=Nat.decidableBallLT way.length λi _=>b7 k i=way[i]!
def iO.nil(k:ae):iO [] k:=λ_ h=>absurd h (Nat.not_lt_zero _)
def iO.more{way:aC}{k:ae}{b:Nat}:iO (way++[b]) k↔iO way k/\b7 k way.length=b:=by
 constructor
 .intro h
  refine⟨λi hi=>?_,?_⟩
  .have:=h i (by rw [aV];exact nP hi (rZ _ _));rw [this,getElem!_pos (way++[b]) _ (by rw [aV];exact nP hi (rZ _ _)),PH hi,getElem!_pos way i hi]
  .have:=h way.length (by rw [aV];exact k9 _);rw [this,getElem!_pos (way++[b]) _ (by rw [aV];exact k9 _),tI (aQ _)];simp
 .rintro⟨h1,h2⟩ i hi
  rw [aV,oM] at hi;by_cases e:i=way.length
  .subst e;rw [h2,getElem!_pos (way++[b]) _ (by rw [aV];exact k9 _),tI (aQ _)];simp
  .have hi:i<way.length:=by omega
   rw [h1 i hi,getElem!_pos way i hi,getElem!_pos (way++[b]) _ (by rw [aV];exact nP hi (rZ _ _)),PH hi]
def iO.share{way:aC}{k m:ae}(h1:iO way k)(h2:iO way m):FR way.length k m:=λn hn=>(h1 n hn).trans (h2 n hn).symm
namespace ak
def jj:aC->ak->Prop
  | _,empty=>True
  | way,leaf p=>p.1.length=32/\p.2.length=32/\iO way p.1
  | way,inner a b=>way.length<256/\jj (way++[0]) a/\jj (way++[1]) b/\bad a b=false
  | _,hid h=>h.length=32
def read:Nat->aC->ae->Except Nat (ak×ae)
  | _,_,[]=>.error 10
  | n,way,x::b =>
    if x=0 then .ok (empty,b)
    else if x=1 then(if b.length<64 then .error 10 else if iO way (b.take 32) then .ok (leaf (b.take 32,(b.drop 32).take 32),b.drop 64) else .error 13)
    else if x=2 then(match n with
      | 0=>.error 13
      | n+1=>match read n (way++[0]) b with
        | .error e=>.error e
        | .ok (l,b1)=>match read n (way++[1]) b1 with
          | .error e=>.error e
          | .ok (r,b2)=>if bad l r then .error 13 else .ok (inner l r,b2))
    else if x=3 then(if b.length<32 then .error 10 else .ok (hid (b.take 32),b.drop 32))
    else .error 13
def parse(b:ae):Except Nat ak:=match read 256 [] b with
  | .error e=>.error e
  | .ok (w,[])=>.ok w
  | .ok _=>.error 11
theorem VD:∀{n:Nat} {way:aC} {b:ae} {w:ak} {rest:ae},n+way.length=256->read n way b = .ok (w,rest)->jj way w/\b=w.bytes++rest
 | _,_,[],_,_,_,h=>by unfold read at h;cases h
 | n,way,x::b,w,rest,hn,h=>by
  unfold read at h;by_cases h0:x=0
  .rw [if_pos h0] at h;injection h with h;injection h with h1 h2;subst h1 h2 h0;exact⟨trivial,rfl⟩
  rw [if_neg h0] at h;by_cases h1:x=1
  .rw [if_pos h1] at h
   by_cases hl:b.length<64
   .rw [if_pos hl] at h;cases h
   rw [if_neg hl] at h;by_cases hw:iO way (b.take 32)
   .rw [if_pos hw] at h;injection h with h;injection h with e1 e2;subst e1 e2 h1;refine⟨⟨by rw [du];omega,by rw [du,k7];omega,hw⟩,?_⟩;show _=1::(b.take 32++(b.drop 32).take 32)++b.drop 64;rw [AO,ei,show b.drop 64=(b.drop 32).drop 32 by rw [List.drop_drop],oN,oN]
   .rw [if_neg hw] at h;cases h
  rw [if_neg h1] at h;by_cases h2:x=2
  .rw [if_pos h2] at h
   cases n with
   | zero=>cases h
   | succ n =>
    dsimp only at h
    cases hr:read n (way++[0]) b with
    | error e=>rw [hr] at h;cases h
    | ok u =>
     obtain⟨l,b1⟩:=u;rw [hr] at h
     dsimp only at h
     cases dU:read n (way++[1]) b1 with
     | error e=>rw [dU] at h;cases h
     | ok u =>
      obtain⟨r,b2⟩:=u;rw [dU] at h
      dsimp only at h
      obtain⟨k1,k2⟩:=VD (by rw [aV,oM];omega) hr;obtain⟨k3,k4⟩:=VD (by rw [aV,oM];omega) dU
      by_cases hb:bad l r=true
      .rw [if_pos hb] at h;cases h
      .rw [if_neg hb] at h;injection h with h;injection h with e1 e2;subst e1 e2 h2;refine⟨⟨by omega,k1,k3,by simpa using hb⟩,?_⟩;rw [k2,k4];show _=2::(l.bytes++r.bytes)++b2;simp
  rw [if_neg h2] at h;by_cases h3:x=3
  .rw [if_pos h3] at h
   by_cases hl:b.length<32
   .rw [if_pos hl] at h;cases h
   rw [if_neg hl] at h;injection h with h;injection h with e1 e2;subst e1 e2 h3;refine⟨by show(b.take 32).length=32;rw [du];omega,?_⟩;show _=3::b.take 32++b.drop 32;rw [AO,oN]
  .rw [if_neg h3] at h;cases h
theorem VE:∀{n:Nat} {way:aC} {w:ak} {rest:ae},n+way.length=256->jj way w->read n way (w.bytes++rest) = .ok (w,rest)
 | n,way,empty,rest,_,_=>by show read n way (0::rest)=_;unfold read;rfl
 | n,way,leaf p,rest,_,⟨h1,h2,h3⟩=>by
  show read n way (1::(p.1++p.2++rest))=_;have e1:(p.1++p.2++rest).take 32=p.1:=by rw [ei,KU (by omega),kE (by omega)]
  have e2:(p.1++p.2++rest).drop 32=p.2++rest:=by rw [ei,lJ (by omega),um (by omega),lD]
  have e3:(p.1++p.2++rest).drop 64=rest:=by rw [show(64:Nat)=32+32 from rfl,<-List.drop_drop,e2,lJ (by omega),um (by omega),lD]
  have e4:(p.2++rest).take 32=p.2:=by rw [KU (by omega),kE (by omega)]
  unfold read;rw [if_neg (by decide),if_pos rfl,if_neg (by rw [aV,aV];omega),e1,e2,e3,e4,if_pos h3]
 | n,way,inner a b,rest,hn,⟨h1,h2,h3,h4⟩=>by show read n way (2::(a.bytes++b.bytes++rest))=_;obtain⟨m,rfl⟩:∃m,n=m+1:=⟨n-1,by omega⟩;unfold read;rw [if_neg (by decide),if_neg (by decide),if_pos rfl];dsimp only;rw [ei,VE (by rw [aV,oM];omega) h2];dsimp only;rw [VE (by rw [aV,oM];omega) h3];dsimp only;rw [if_neg (by rw [h4];decide)]
 | n,way,hid h,rest,_,h1=>by have h1:h.length=32:=h1;show read n way (3::(h++rest))=_;unfold read;rw [if_neg (by decide),if_neg (by decide),if_neg (by decide),if_pos rfl,if_neg (by rw [aV];omega),KU (by omega),kE (by omega),lJ (by omega),um (by omega),lD]
theorem axG{b:ae}{w:ak}(h:parse b = .ok w):jj [] w/\b=w.bytes:=by
 unfold parse at h;cases hr:read 256 [] b with
 | error e=>rw [hr] at h;cases h
 | ok u =>
  obtain⟨x,rest⟩:=u;rw [hr] at h
  cases rest with
  | nil =>
   injection h with h
   subst h;have:=VD rfl hr
   rwa [fj] at this
  | cons=>cases h
def axF{w:ak}(h:jj [] w):parse w.bytes = .ok w:=by have:=VE (rest:=[]) rfl h;rw [fj] at this;unfold parse;rw [this]
theorem uS{way:aC}:∀{w:ak},jj way w->w.root.length=32
 | empty,_=>rfl
 | leaf _,_=>nT _
 | inner _ _,_=>nT _
 | hid _,h=>h
abbrev zl(d:Nat)(ks:aX):aX:=ks.filter λk=>b7 k d==0
abbrev x9(d:Nat)(ks:aX):aX:=ks.filter λk=>b7 k d != 0
def pj:Nat->dm->aX->ak->Prop
  | _,l,_,empty=>l=[]
  | _,l,_,leaf p=>l=[p]
  | d,l,ks,inner a b=>d<256/\2<=l.length/\pj (d+1) (dh d l) (zl d ks) a/\pj (d+1) (dd d l) (x9 d ks) b
  | d,l,ks,hid h=>ks=[]/\l≠[]/\h=iw (256-d) l
theorem J9(d:Nat)(l:dm):(dh d l).length+(dd d l).length=l.length:=by
 unfold dh dd;induction l with
 | nil=>rfl
 | cons x l ih =>
  by_cases h:b7 x.1 d=0
  .simp [h] at ih ⊢;omega
  .simp [h] at ih ⊢;omega
theorem pj.root:∀{d:Nat} {l:dm} {ks:aX} {w:ak},pj d l ks w->w.root=iw (256-d) l
 | _,l,_,empty,h=>by have h:l=[]:=h;subst h;exact(Lm _).symm
 | _,l,_,leaf p,h=>by have h:l=[p]:=h;subst h;exact(HY _ p).symm
 | d,l,_,inner a b,⟨h1,h2,h3,h4⟩=>by
  have e:256-d=(255-d)+1:=by omega
  rw [e,O7 h2];show mz a.root b.root=_;rw [h3.root,h4.root,show 255-(255-d)=d by omega,show 256-(d+1)=255-d by omega]
 | _,_,_,hid _,h=>h.2.2
theorem pj.right:∀{way:aC} {l:dm} {ks:aX} {w:ak},pj way.length l ks w->(∀p∈l,p.1.length=32/\p.2.length=32/\iO way p.1)->jj way w
 | _,_,_,empty,_,_=>trivial
 | _,l,_,leaf p,h,hl=>hl p (by have h:l=[p]:=h;rw [h];exact eh)
 | way,l,_,inner a b,⟨h1,h2,h3,h4⟩,hl=>by
  have e:∀x:Nat,(way++[x]).length=way.length+1:=λx=>by rw [aV,oM]
  refine⟨h1,pj.right (by rw [e];exact h3) λp hp=>?_,pj.right (by rw [e];exact h4) λp hp=>?_,?_⟩
  .obtain⟨k1,k2⟩:=Ci.1 hp;obtain⟨l1,l2,l3⟩:=hl p k1;exact⟨l1,l2,iO.more.2 ⟨l3,k2⟩⟩
  .obtain⟨k1,k2⟩:=BN.1 hp;obtain⟨l1,l2,l3⟩:=hl p k1;have:=sj p.1 way.length;exact⟨l1,l2,iO.more.2 ⟨l3,by omega⟩⟩
  .have hs:=J9 way.length l
   have hE:∀{d:Nat} {m:dm} {k:aX} {w:ak},pj d m k w->(w.kind=0->m.length=0)/\(w.kind=1->m.length=1):=λ{d m k w} h=>by
    cases w with
    | empty=>have h:m=[]:=h;subst h;exact⟨λ_=>rfl,λh=>(by cases h)⟩
    | leaf p=>have h:m=[p]:=h;subst h;exact⟨λh=>(by cases h),λ_=>rfl⟩
    | inner=>exact⟨λh=>(by cases h),λh=>(by cases h)⟩
    | hid=>exact⟨λh=>(by cases h),λh=>(by cases h)⟩
   have ha:=hE h3;have hb:=hE h4;unfold bad;generalize a.kind=x at *;generalize b.kind=y at *;simp only [Bool.or_eq_false_iff,vY,beq_eq_false_iff_ne];omega
 | way,l,_,hid h,⟨_,h2,h3⟩,hl=>by
  show h.length=32;rw [h3];cases l with
  | nil=>exact absurd rfl h2
  | cons p l =>
   cases l with
   | nil=>rw [HY];exact nT _
   | cons q l =>
    generalize 256-way.length=r
    cases r with
    | zero=>rfl
    | succ r=>exact nT _
theorem pj.zK:∀{d:Nat} {l:dm} {ks:aX} {w:ak} {k:ae},pj d l ks w->k∈ks->fK l->tell k (find k d w)=(match uQ l k with
  | some v=>(v,true,false)
  | none=>(dx,false,false))
 | _,l,_,empty,k,h,_,_=>by have h:l=[]:=h;subst h;rfl
 | _,l,_,leaf p,k,h,_,_=>by
  have h:l=[p]:=h;subst h;show(if p.1=k then _ else _)=_;by_cases e:p.1=k
  .rw [if_pos e];subst e;simp [uQ]
  .rw [if_neg e];simp [uQ,e]
 | d,l,ks,inner a b,k,⟨h1,h2,h3,h4⟩,hk,hs=>by
  show tell k (if b7 k d=0 then find k (d+1) a else find k (d+1) b)=_;by_cases e:b7 k d=0
  .rw [if_pos e,h3.zK (BO.2 ⟨hk,by simpa using e⟩) (hs.filter _)]
   have:uQ (dh d l) k=uQ l k:=by
    cases hg:uQ l k with
    | some v=>exact(Pn (hs.filter _)).2 (Ci.2 ⟨(Pn hs).1 hg,e⟩)
    | none=>exact Po.2 λq hq=>Po.1 hg q (Ci.1 hq).1
   rw [this]
  .rw [if_neg e,h4.zK (BO.2 ⟨hk,by simpa using e⟩) (hs.filter _)]
   have:uQ (dd d l) k=uQ l k:=by
    cases hg:uQ l k with
    | some v=>exact(Pn (hs.filter _)).2 (BN.2 ⟨(Pn hs).1 hg,e⟩)
    | none=>exact Po.2 λq hq=>Po.1 hg q (BN.1 hq).1
   rw [this]
 | _,_,ks,hid _,k,h,hk,_=>by rw [h.1] at hk;cases hk
def abB{d:Nat}{p:dD}(h:b7 p.1 d=0):dh d [p]=[p]/\dd d [p]=[]:=by simp [dh,dd,h]
def aeT{d:Nat}{p:dD}(h:b7 p.1 d≠0):dh d [p]=[]/\dd d [p]=[p]:=by simp [dh,dd,h]
def adY{q p:dD}(h:q.1≠p.1):ed [q] p=[q,p]\/ed [q] p=[p,q]:=by
 unfold ed;split
 .exact .inl rfl
 .exact .inr rfl
theorem Q1:∀(n:Nat) {d:Nat} {q p:dD} {ks:aX},n+d=256->q.1.length=32->p.1.length=32->q.1≠p.1->FR d q.1 p.1->pj d (ed [q] p) ks (two n d q p)
 | 0,d,q,p,_,hn,hq,hp,b8,hs=>by
  obtain rfl:d=256:=by omega
  exact absurd (hs.all hq hp) b8
 | n+1,d,q,p,ks,hn,hq,hp,b8,hs=>by
  have h1:=sj q.1 d;have h2:=sj p.1 d;have aa7:fK [q]:=List.pairwise_singleton _ _;have Ku:oh [q]:=λx hx=>by rw [bU.1 hx];exact hq
  have iJ:2<=(ed [q] p).length:=by rcases adY b8 with e|e<;>rw [e]<;>exact aQ _
  have hL:=HZ (d:=d) aa7 Ku hp;have hR:=HH (d:=d) aa7 Ku hp;have uH:b7 q.1 d=b7 p.1 d->FR (d+1) q.1 p.1:=λe i hi=>by
   by_cases e2:i=d
   .rw [e2];exact e
   .exact hs i (by omega)
  unfold two;by_cases e:b7 q.1 d=b7 p.1 d
  .rw [if_pos e]
   by_cases e0:b7 q.1 d=0
   .rw [if_pos e0];obtain⟨x1,x2⟩:=abB e0;rw [if_pos (by omega),x1] at hL;rw [if_pos (by omega),x2] at hR;exact⟨by omega,iJ,by rw [hL];exact Q1 n (by omega) hq hp b8 (uH e),hR⟩
   .rw [if_neg e0];obtain⟨x1,x2⟩:=aeT e0;rw [if_neg (by omega),x1] at hL;rw [if_neg (by omega),x2] at hR;exact⟨by omega,iJ,hL,by rw [hR];exact Q1 n (by omega) hq hp b8 (uH e)⟩
  .rw [if_neg e]
   by_cases e0:b7 q.1 d=0
   .rw [if_pos e0];obtain⟨x1,x2⟩:=abB e0;rw [if_neg (by omega),x1] at hL;rw [if_neg (by omega),x2] at hR;exact⟨by omega,iJ,hL,hR⟩
   .rw [if_neg e0];obtain⟨x1,x2⟩:=aeT e0;rw [if_pos (by omega),x1] at hL;rw [if_pos (by omega),x2] at hR;exact⟨by omega,iJ,hL,hR⟩
theorem adX:∀(l:dm) (p:dD),l.length<=(ed l p).length
 | [],_=>bl _
 | q::l,p=>by
  unfold ed;split
  .exact Nat.succ_le_succ (adX l p)
  .split
   .exact aQ _
   .exact DU _
theorem pj.Vp:∀{d:Nat} {l:dm} {ks:aX} {w:ak} {p:dD},pj d l ks w->p.1∈ks->fK l->oh l->p.1.length=32->d<=256->lF d (p::l)->pj d (ed l p) ks (put p d w)
 | _,l,_,empty,p,h,_,_,_,_,_,_=>by have h:l=[]:=h;subst h;rfl
 | d,l,ks,leaf q,p,h,_,_,hk,hp,hd,gR=>by
  have h:l=[q]:=h;subst h;show pj d (ed [q] p) ks (if q.1=p.1 then leaf p else two (256-d) d q p);by_cases e:q.1=p.1
  .rw [if_pos e];show ed [q] p=[p];unfold ed;rw [if_neg (by rw [e,sb];decide),if_pos e]
  .rw [if_neg e];exact Q1 _ (by omega) (hk q eh) hp e (gR q (dS _ eh) p eh)
 | d,l,ks,inner a b,p,⟨h1,h2,h3,h4⟩,wM,hs,hk,hp,hd,gR=>by
  show pj d (ed l p) ks (if b7 p.1 d=0 then inner (put p (d+1) a) b else inner a (put p (d+1) b));have hL:=HZ (d:=d) hs hk hp;have hR:=HH (d:=d) hs hk hp;have iJ:=fo h2 (adX l p);by_cases e:b7 p.1 d=0
  .rw [if_pos e] at hL hR ⊢
   have zc:lF (d+1) (p::dh d l):=by
    have:=gR.left
    rwa [show dh d (p::l)=p::dh d l by simp [dh,e]] at this
   exact⟨h1,iJ,by rw [hL];exact h3.Vp (BO.2 ⟨wM,by simpa using e⟩) (hs.filter _) (hk.filter _) hp (by omega) zc,by rw [hR];exact h4⟩
  .rw [if_neg e] at hL hR ⊢
   have zc:lF (d+1) (p::dd d l):=by
    have:=gR.right
    rwa [show dd d (p::l)=p::dd d l by simp [dd,e]] at this
   exact⟨h1,iJ,by rw [hL];exact h3,by rw [hR];exact h4.Vp (BO.2 ⟨wM,by simpa using e⟩) (hs.filter _) (hk.filter _) hp (by omega) zc⟩
 | _,_,ks,hid _,p,h,wM,_,_,_,_,_=>by rw [h.1] at wM;cases wM
def cut:Nat->Nat->dm->aX->ak
  | _,_,[],_=>empty
  | _,d,p::l,[]=>hid (iw (256-d) (p::l))
  | _,_,[p],_::_=>leaf p
  | 0,_,_::_::_,_::_=>empty
  | n+1,d,p::q::l,k::ks=>inner (cut n (d+1) (dh d (p::q::l)) (zl d (k::ks))) (cut n (d+1) (dd d (p::q::l)) (x9 d (k::ks)))
theorem JD:∀(n:Nat) {d:Nat} {l:dm} (ks:aX),n+d=256->fK l->oh l->lF d l->pj d l ks (cut n d l ks)
 | n,d,[],_,_,_,_,_=>by cases n<;>rfl
 | n,d,p::l,[],_,_,_,_=>by cases n<;>exact⟨rfl,by simp,rfl⟩
 | n,d,[p],k::ks,_,_,_,_=>by cases n<;>rfl
 | 0,d,p::q::l,k::ks,hn,hs,hk,gR=>by
  obtain rfl:d=256:=by omega
  have:=gR.one hs hk;simp at this
 | n+1,d,p::q::l,k::ks,hn,hs,hk,gR=>⟨by omega,by simp,JD n _ (by omega) (hs.filter _) (hk.filter _) gR.left,JD n _ (by omega) (hs.filter _) (hk.filter _) gR.right⟩
end ak
section
variable{α:Type}{fe:α->aL}{l:List α}{P:ym}{T:eG}{b:bO}{ops:aZ}{Q:bK}{N:Nat}{E:aG}{L:aH}{R:bF}{F M:aE}{o:Oper}{rest:aN}{k:Nat}{t e:yn}{x y z:yo}{A:aO}{lo c sz bs g:Nat}
def H6{A2':aK->aO}{n c2:Nat}{u:aq}(hT:fh P T)(i:Nat)(m:List α)(hq:di o k N)(ho:o.op = .call { callee:=.builtin .append,args:=#[x,y],argTypes:=#[t,t] })(hs:uU T t=some (e,sz,bs))(hx:aP E x=some (.v (.slice A n c)))(hy:aP E y=some u)(hu:∀G,u.den G = .slice (A2' G) m.length c2)
 (hi:R[i]?=some (bL lo e sz fe A c l))(hn:n=l.length)(gA:∀G S w,View G S L R F M w->ar sz fe (A2' G) c2 m w)(h0:0<sz)(hb:(l.length+m.length)*bs<=140737488355328)(hm:l.length+m.length<=9223372036854775807-64)(nj:lo<=b.B.heap.size)
 (hc:∀A' c',a9 P b ops Q N rest ⟨(k,.v (.slice A' (l++m).length c'))::E,L,R.set i (bL lo e sz fe A' c' (l++m)),F,M⟩):a9 P b ops Q N (o::rest) ⟨E,L,R,F,M⟩:=λa w ⟨G,S,f1,f2,f3⟩=>by
 have hR:=gA G S w f3.view;obtain⟨S1,h5,ix⟩:=f3.put hi;have e1:=f1.eval (bH hx);have e2:=f1.eval (bH hy);rw [hu G] at e2;generalize A2' G=A2 at *;subst hn
 have key:∃A' c' w' S',(Builtin.append_ #[t,t] o.type #[.slice A l.length c,.slice A2 m.length c2]).run P w = .ok (.slice A' (l++m).length c') w'/\dO S1 w w'/\(bL lo e sz fe A' c' (l++m)).holds w' S'/\∀k,S' k->k<w.heap.size->S1 k:=by
  cases vn:A2 with
  | none =>
   have n6:=hR.2.2.1 vn;have qT:m=[]:=lB (by have:=hR.1;omega);subst qT;subst n6;obtain⟨ht,ie,ua,EN,hz,gT,vq,tA,_⟩:=Bi hT hs;have hr:=run_append_owned_none (P:=P) w lo t o.type e ie sz ht EN _ l.length (de fe l) h5.2.1;refine⟨A,c,w,S1,by rw [fj];exact hr,dO.refl _ _,by rw [fj];exact h5,λ_ h _=>h⟩
  | some ad =>
   refine bL.grow hT (d:=c2) (ad:=ad) o.type hs h0 h5 hR.2.2.2.1 (λj v hj=>?_) hb hm (fo nj f3.chg.size);have hlen:=wG hR.2.2.2.1;have uB:=(eY.1 hj).1
   have qT:0<m.length:=by
    rcases Nat.eq_zero_or_pos m.length with h|h
    .rw [hlen,h,Nat.zero_mul] at uB;omega
    .exact h
   obtain⟨bb,oo,e,_,p9⟩:=hR.2.2.2.2 qT;rw [vn] at e
   injection e with e
   subst e
   have hq:j/sz<m.length:=by rw [hlen] at uB;exact Nat.div_lt_of_lt_mul (by rwa [Nat.mul_comm] at uB)
   obtain⟨B,Z,h9,h10,_⟩:=C5 hR.2.2.2.1 (da hq);have Hl:=Nat.div_add_mod j sz;have al:=Nat.mod_lt j h0;have fM:=(hR.2.2.2.1 _ (List.getElem_mem hq)).2
   have ab:(fe m[j/sz]).cp[j%sz]?=some v:=by
    rw [h9,rz (by omega),h10,uk (by omega)] at hj
    rwa [show j-sz*(j/sz)=j%sz by omega] at hj
   have:=p9 (j/sz) _ (da hq) (j%sz) v ab;rw [lf]
   rwa [kZ,Hl] at this
 obtain⟨A',c',w',S',hr,fX,ho',hS'⟩:=key;obtain⟨S'',h6⟩:=ix _ _ _ fX ho' hS'
 refine nA (v:=.slice A' (l++m).length c') (w':=w') (lr (eB hq)) (by unfold execOp;simp only [ho,resolve,invoke,builtin,bI,bM,bS,List.map_toArray,List.map_cons,List.map_nil,e1,e2,aq.den,aL.den,eK.den,hr]) ?_
 rw [(eC hq)];exact hc A' c' _ _ ⟨G,S'',f1.put (dQ hq) _,f2.cons trivial,h6⟩
end
theorem Qq{j off n:Nat}{l:ae}{L:aH}{R:bF}{F M:aE}(ai:cJ)(hj:mJ L j=some ai)(ki:GH ai off=some (.agg n (By l).toArray))(hl:l.length=n)(hm:n<=9223372036854775807):∀G S w,View G S L R F M w->ar 1 aY (some ⟨G j,off,none⟩) n l w:=λG S w ab=>by
 obtain⟨z,hz,rfl,hps⟩:=tR hj;have hb:=(ab.var z hz).1;have bx:=(ab.var z hz).2.1;rw [hps] at hb bx;obtain⟨_,A,Z,e,hA⟩:=M7 bx ki;have hr:=Vv hb e;rw [hA] at hr;refine⟨vF hl,hm,λh=>(by cases h),mK l,λ_=>⟨G z.j,off,rfl,hb.lt,λi x hi j v hj=>?_⟩⟩;cases j with
 | zero =>
  have e:v = .int .u8 (x.toNat:Int):=(jm ((show(aY x).cp[0]?=some (.int .u8 (x.toNat:Int)) from rfl).symm.trans hj)).symm;obtain⟨h2,h3⟩:=eY.1 hi;have h4:=By_at? h2;rw [getElem!_pos l i h2,h3] at h4;have h5:=hr i (.int .u8 (x.toNat:Int)) (by simpa [bz.cells] using h4);rw [e,qI,jP];exact h5
 | succ j =>
  have:(aY x).cp[j+1]?=none:=rfl;rw [this] at hj
  cases hj
def Wq(n d:Nat)(q p:dD):ak.two (n+1) d q p=if b7 q.1 d=b7 p.1 d then(if b7 q.1 d=0 then .inner (ak.two n (d+1) q p) .empty else .inner .empty (ak.two n (d+1) q p)) else if b7 q.1 d=0 then .inner (.leaf q) (.leaf p) else .inner (.leaf p) (.leaf q):=rfl
abbrev LB(l:ae):fm pP:={ ret:=λx=>.v (.slice x.1 l.length x.2),own:=λ_=>[],n:=λx=>ar 1 aY x.1 x.2 l }
structure Jg where
  k:Nat
  key:ae
  val:ae
  l:Int
  r:Int
def av7(x:Jg):cJ:=[.one (.v (.int .i64 (x.k:Int))),.agg 32 (By x.key).toArray,.agg 32 (By x.val).toArray,.one (.v (.int .i64 x.l)),.one (.v (.int .i64 x.r))]
def Yl(x:Jg):aL:=.p (av7 x)
def ak6(g:Nat)(B:aO)(c:Nat)(ns:List Jg)(w:yp):Prop:=ij g 164 [.one (.v (.slice B ns.length c))] w/\ar 67 Yl B c ns w
instance{g:Nat}{B:aO}{c:Nat}{ns:List Jg}:dc (ak6 g B c ns):=inferInstanceAs (dc λw=>ij g 164 [.one (.v (.slice B ns.length c))] w/\ar 67 Yl B c ns w)
def Xe(ns:List Jg):ak->cn
  | .empty,n=>ns[n]?=some ⟨0,dx,dx, -1, -1⟩
  | .leaf p,n=>ns[n]?=some ⟨1,p.1,p.2, -1, -1⟩
  | .inner a b,n=>∃i j:Nat,ns[n]?=some ⟨2,dx,dx,i,j⟩/\Xe ns a i/\Xe ns b j
  | .hid h,n=>ns[n]?=some ⟨3,dx,h, -1, -1⟩
def ak.Good:ak->Prop
  | .empty=>True
  | .leaf p=>lW p
  | .inner a b=>Good a/\Good b
  | .hid h=>h.length=32
theorem ak.jj.dn:∀{way:aC} {w:ak},ak.jj way w->w.Good
 | _,.empty,_=>trivial
 | _,.leaf _,h=>⟨h.1,h.2.1⟩
 | _,.inner _ _,h=>⟨h.2.1.dn,h.2.2.1.dn⟩
 | _,.hid _,h=>h
theorem ak.Good.uS:∀{w:ak},w.Good->w.root.length=32
 | .empty,_=>rfl
 | .leaf _,_=>nT _
 | .inner _ _,_=>nT _
 | .hid _,h=>h
namespace ak
def ty:ak->yn
  | .empty=>187
  | .leaf _=>193
  | .inner _ _=>200
  | .hid _=>189
def val:ak->yl
  | .empty=>.iface 187 (aL.p []).den
  | .leaf p=>.iface 193 (aL.p [.agg 32 (By (qW p)).toArray,.agg 32 (By p.1).toArray,.agg 32 (By p.2).toArray]).den
  | .inner a b=>.iface 200 (aL.p [.agg 32 (By (mz a.root b.root)).toArray,.agg 2 #[a.val,b.val]]).den
  | .hid h=>.iface 189 (aL.p [.agg 32 (By h).toArray]).den
def ai:ak->cJ
  | .empty=>[]
  | .leaf p=>[.agg 32 (By (qW p)).toArray,.agg 32 (By p.1).toArray,.agg 32 (By p.2).toArray]
  | .inner a b=>[.agg 32 (By (mz a.root b.root)).toArray,.agg 2 #[a.val,b.val]]
  | .hid h=>[.agg 32 (By h).toArray]
def Bl(w:ak):w.val = .iface w.ty (aL.p w.ai).den:=by cases w<;>rfl
def xe(w:ak):w.val.cells = #[w.val]:=by cases w<;>rfl
def val_one(w:ak):w.val.oneCell'=true:=by cases w<;>rfl
end ak
def GD{l:ae}(h:l.length=32):(bz.agg 32 (By l).toArray).aI:=(cq h).1 _ (by simp [aL.fA,aw])
def uT(a b:ak):cJ:=[.agg 2 #[a.val,b.val]]
def CG(a b:ak):ch (uT a b):=λp hp=>by
 rw [bU.1 hp];refine⟨rfl,λv ab=>?_⟩;rcases bT.1 ab with rfl|ab
 .exact a.val_one
 .rw [bU.1 ab];exact b.val_one
theorem ak.wZ{w:ak}(h:w.Good):ch w.ai:=by
 cases w with
 | empty=>intro p hp;cases hp
 | leaf p =>
  intro x hx
  simp only [ak.ai,bT,xG,or_false] at hx
  rcases hx with rfl|rfl|rfl
  .exact GD (nT _)
  .exact GD h.1
  .exact GD h.2
 | inner a b =>
  intro x hx
  rcases bT.1 hx with rfl|hx
  .exact GD (nT _)
  .exact CG a b x hx
 | hid l =>
  intro x hx
  rw [bU.1 hx];exact GD h
def Iu:Own 139:=λ_ _=>by go_simp
def IZ{k:ae}(hk:k.length=32)(n:Nat)(hn:n<256):Spec 139 [(aw 32 k).den,.int .u8 (n:Int)] [] (λ_=>True) (one (.v (.int .u8 ((b7 k n:Nat):Int)))):=by refine bA [aw 32 k,.c (.v (.int .u8 (n:Int)))] 14 func139 rfl (ab:=dZ (cq hk).1 trivial) λb=>?_;refine ag rfl (aA rfl λK hK=>ca 6 ((n/8:Nat):Int) rfl (I5 (by rw [tL (by omega)];omega) (by omega) (by omega)) (b6 (.a 2 (0+1*(n/8))) rfl (eO (n/8) rfl dp rfl rfl rfl (by omega)) (jq (.v (.int .u8 ((k[n/8]!).toNat:Int))) rfl (jV _ rfl rfl rfl (F0 (by omega)) nu rfl) ?_)));have al:=(k[n/8]!).toNat_lt;have hb:b7 k n=(k[n/8]!).toNat/2^(7-n%8)%2:=rfl;generalize (k[n/8]!).toNat=v at *;refine aj rfl (ca 11 ((7-n%8:Nat):Int) rfl (I5 (by rw [GU (by omega)];omega) (by omega) (by omega)) (b6 (.v (.int .u8 ((v/2^(7-n%8):Nat):Int))) rfl (afN (by omega) rfl rfl rfl) ?_));have h2:v/2^(7-n%8)<256:=nc (qA _ _) al;generalize v/2^(7-n%8)=z at *;refine b6 (.v (.int .u8 (bits .and .u8 (z:Int) 1))) rfl (afB rfl rfl rfl) (ca 13 ((z%2:Nat):Int) rfl (abK z h2) (aj rfl (ah (hK _ ?_))));exact aJ (dk an () rfl rfl (congrArg (λx:Nat=>cM.v (.int .u8 (x:Int))) hb) rfl aD au)
def ak.DY:ak->FuncId
  | .empty=>241
  | .leaf _=>245
  | .inner _ _=>247
  | .hid _=>243
def Vb(w:ak):Own w.DY:=by
 cases w
 .exact λ_ _=>by unfold ak.DY;go_simp
 .exact λ_ _=>by unfold ak.DY;go_simp
 .exact λ_ _=>by unfold ak.DY;go_simp
 .exact λ_ _=>by unfold ak.DY;go_simp
def SV(w:ak):tU prog w.ty "witan/witness.root" w.DY=true:=by
 cases w
 .show tU prog 187 "witan/witness.root" 241 = true;kernel_rfl
 .show tU prog 193 "witan/witness.root" 245 = true;kernel_rfl
 .show tU prog 200 "witan/witness.root" 247 = true;kernel_rfl
 .show tU prog 189 "witan/witness.root" 243 = true;kernel_rfl
theorem WX{w:ak}(h:w.Good):Spec w.DY [(aL.p w.ai).den] [] (λ_=>True) (one (.q (aw 32 w.root))):=by
 cases w with
 | empty =>
  refine bA [.p []] 4 func241 rfl (ab:=iG (ak.wZ h)) λb=>ag rfl (ag rfl ?_);exact aJ (bE () rfl aD au)
 | leaf p =>
  refine bA [.p (ak.leaf p).ai] 5 func245 rfl (ab:=iG (ak.wZ h)) λb=>ag rfl (ag rfl ?_);exact aJ (bE () rfl aD au)
 | inner a b =>
  refine bA [.p (ak.inner a b).ai] 5 func247 rfl (ab:=iG (ak.wZ h)) λb=>ag rfl (ag rfl ?_);exact aJ (bE () rfl aD au)
 | hid l =>
  refine bA [.p (ak.hid l).ai] 5 func243 rfl (ab:=iG (ak.wZ h)) λb=>ag rfl (ag rfl ?_);exact aJ (bE () rfl aD au)
section
variable{b:bO}{ops:aZ}{Q:bK}{N:Nat}{E:aG}{L:aH}{R R' own:bF}{F M F':aE}{o:Oper}{rest:aN}{k:Nat}{α:Type}{post:fm α}{f:FuncId}{x:yo}{name:String}{xs:na}{ats:mX}{svs:nH}{G:aK}{S:cn}{w0:yp}{Z:Act->Prop}{W:ak}
def OS(args:cU)(hq:di o k N)(hf:Own f)(ho:o.op = .call { callee:=.invoke x name,args:=xs,argTypes:=ats })(np:aP E x=some (.v W.val))(hm:tU prog W.ty name f=true)(hx:lg E xs.toList=some svs)
 (ha:∀G:aK,(∀x∈L,∀g,x.g=some g->G x.j=g)->svs.map (aq.den G)=args)(hs:Spec f ((aL.p W.ai).den::args) own F' post)(hF:∀w,F w->M w->F' w)
 (hn:∀x,a9 prog b ops Q N rest ⟨(k,(post.ret x).eJ)::E,L,post.own x++R',λw=>post.p x w/\F w,λw=>post.n x w/\M w⟩):a9 prog b ops Q N (o::rest) ⟨E,L,own++R',F,M⟩ :=
 asW args hq hf ho (by rw [np,W.Bl]) hm hx ha hs hF hn
def ac5{r:cM}(aa:bj b G S L R F M w0)(args:cU)(hq:di o k N)(hf:Own f)(ho:o.op = .call { callee:=.invoke x name,args:=xs,argTypes:=ats })(np:aP E x=some (.v W.val))(hm:tU prog W.ty name f=true)(hx:lg E xs.toList=some svs)
 (ha:svs.map (aq.den G)=args)(hs:Spec f ((aL.p W.ai).den::args) [] (λ_=>True) (one r))(hr:r.eJ.aI)
 (hn:gB prog ops N w0 Z G rest ((k,r.eJ)::E)):gB prog ops N w0 Z G (o::rest) E:=by
 refine FI aa r.eJ hr (λC0 Q' _ hQ=>λa ha'=>?_) hn;rw [cM.ql] at hQ;refine Na (f:=f) (args:=((aL.p W.ai).den::args).toArray) (v:=r.den) (by simp [aU,(eB hq)]) (λw _=>(hs w (λ_=>False) (λ_=>False) (λ_ h=>h) (λ_ h=>h.elim) au).mono λ_ _ ⟨_,_,h1,_,h2,_⟩=>⟨h1,h2.up λ_ _ h=>h⟩) (λw=>?_) (by rw [(eC hq)];exact hQ _ (ha'.put (dQ hq) _))
 have h0:a.eval x = .iface W.ty (aL.p W.ai).den:=by rw [<-W.Bl];exact ha'.eval (bH np)
 have h1:=afD hf hm ho h0 w;rw [ya (args:=(svs.map (aq.den G)).toArray) (ha'.Af _ _ (by rw [vh hx])),ha,show #[(aL.p W.ai).den]++args.toArray=((aL.p W.ai).den::args).toArray by simp] at h1;exact h1
end
def tD(p:dD):aL:=.p (ak.leaf p).ai
def WQ{p:dD}(hp:lW p):Spec 116 [(aw 32 p.1).den,(aw 32 p.2).den] [] fV (one (.q (tD p))):=by
 refine bA [aw 32 p.1,aw 32 p.2] 13 func116 rfl (ab:=dZ (cq hp.1).1 (cq hp.2).1) λb=>ag rfl ?_;refine nw 8 λK hK G S w0 aa=>?_;refine G2 an [(0:UInt8)] rfl rfl rfl rfl (λ_=>rfl) rfl λB=>ni aa (.s 2 0 32 32) rfl rfl (nv rfl dp rfl rfl) (ni aa (.s 3 0 32 32) rfl rfl (nv rfl dp rfl rfl) ?_);refine Dc [cj B 1 1,(aq.s 2 0 32 32).den G,(aq.s 3 0 32 32).den G] [[0],p.1,p.2] aa rfl rfl rfl rfl rfl (by decide) (by decide) (λw hw hu=>?_) λA=>?_
 .have h2:ar 1 aY (some ⟨B,0,none⟩) 1 [0] w:=hu 0 _ rfl (by kernel_rfl);exact⟨h2.dw,sW (j:=2) rfl hp.1 (by decide) G S w hw,sW (j:=3) rfl hp.2 (by decide) G S w hw,trivial⟩
 refine EB (r:=.q (aw 32 (qW p))) aa [cj A 3 3] rfl rfl PX rfl rfl (λ_=>rfl) (cq (n:=32) (nT _)).1 (λw hw hu=>?_) ?_
 .have hA:lX w (some ⟨A,0,none⟩) [[0],p.1,p.2]:=hu 3 _ rfl (by kernel_rfl)
  have dU:=Mr (some ⟨A,0,none⟩) [[0],p.1,p.2] 3 w hw.fact hA (by simp) (by simp);have e:qW p=gQ cg [[0],p.1,p.2].flatten:=by simp [qW]
  show Calls prog _ _ w λe w'=>e = .returned (.agg (By (qW p)).toArray)/\_;rw [e];exact dU
 refine dC aa rfl (jR aa (aj rfl (ah (hK _ ?_))));exact aJ (bE () rfl aD au)
def qj:=@underlying77
def rQ:=@underlying198
def WO{x y:ak}(hx:x.Good)(hy:y.Good):Spec 154 [.agg #[x.val,y.val]] [] fV (one (.q (.p (ak.inner x y).ai))):=by
 refine bA [.p (uT x y)] 18 func154 rfl (ab:=iG (CG x y)) λb=>?_;have Ay:=hx.uS;have Az:=hy.uS;have sz:∀l:ae,l.length=32->(By l).toArray.size=32:=λl h=>by rw [fx,dH,h]
 refine ag rfl (VW 6 [⟨3,47,(By dx).toArray⟩,⟨4,47,(By dx).toArray⟩] (by decide) rfl ⟨⟨rfl,rfl,rfl,rfl,rfl⟩,⟨rfl,rfl,rfl,rfl,rfl⟩,trivial⟩ (by kernel_rfl) (by kernel_rfl) (by kernel_rfl) λK hK G S w0 aa=>vH aa (.a 1 (0+1*0)) rfl (eO 0 rfl rQ rfl rfl rfl (by decide)) (AR aa (.v x.val) rfl (jV _ rfl rfl rfl rfl qj rfl) (ac5 aa [] rfl (Vb x) rfl rfl (SV x) rfl rfl (WX hx) (cq Ay).1 (vH aa (.a 1 (0+1*1)) rfl (eO 1 rfl rQ rfl rfl rfl (by decide)) (AR aa (.v y.val) rfl (jV _ rfl rfl rfl rfl qj rfl) (ac5 aa [] rfl (Vb y) rfl rfl (SV y) rfl rfl (WX hy) (cq Az).1 ?_))))));refine Ps aa [⟨3,none,47,[.agg 32 (By x.root).toArray]⟩,⟨4,none,47,[.agg 32 (By y.root).toArray]⟩] [(By dx).toArray,(By dx).toArray] [.tmp 7,.tmp 10] rfl rfl rfl (λu hu=>?_) ⟨rfl,rfl,trivial⟩ rfl ⟨⟨rfl,rfl,rfl⟩,⟨rfl,rfl,rfl⟩,rfl⟩ ⟨⟨rfl,?_,?_,qp _⟩,⟨rfl,?_,?_,qp _⟩,trivial⟩ ?_
 .rcases bT.1 hu with rfl|hu
  .exact(cq Ay).1
  .rw [bU.1 hu];exact(cq Az).1
 .exact(sz dx rfl).trans (sz _ Ay).symm
 .show _=some (By x.root).toArray.size;rw [sz _ Ay];rfl
 .exact(sz dx rfl).trans (sz _ Az).symm
 .show _=some (By y.root).toArray.size;rw [sz _ Az];rfl
 refine ah (hK _ (mR [1,2,3,4] [1,2,3,4] rfl rfl ?_));refine nw 7 λK hK G S w0 aa=>?_;refine G2 an [(1:UInt8)] rfl rfl rfl rfl (λ_=>rfl) rfl λB=>ni aa (.s 3 0 32 32) rfl rfl (nv rfl dp rfl rfl) (ni aa (.s 4 0 32 32) rfl rfl (nv rfl dp rfl rfl) ?_);refine Dc [cj B 1 1,(aq.s 3 0 32 32).den G,(aq.s 4 0 32 32).den G] [[1],x.root,y.root] aa rfl rfl rfl rfl rfl (by decide) (by decide) (λw hw hu=>?_) λA=>?_
 .have h2:ar 1 aY (some ⟨B,0,none⟩) 1 [1] w:=hu 0 _ rfl (by kernel_rfl);exact⟨h2.dw,sW (j:=3) rfl Ay (by decide) G S w hw,sW (j:=4) rfl Az (by decide) G S w hw,trivial⟩
 refine EB (r:=.q (aw 32 (mz x.root y.root))) aa [cj A 3 3] rfl rfl PX rfl rfl (λ_=>rfl) (cq (n:=32) (nT _)).1 (λw hw hu=>?_) ?_
 .have hA:lX w (some ⟨A,0,none⟩) [[1],x.root,y.root]:=hu 3 _ rfl (by kernel_rfl)
  have dU:=Mr (some ⟨A,0,none⟩) [[1],x.root,y.root] 3 w hw.fact hA (by simp) (by simp);have e:mz x.root y.root=gQ cg [[1],x.root,y.root].flatten:=by simp [mz]
  show Calls prog _ _ w λe w'=>e = .returned (.agg (By (mz x.root y.root)).toArray)/\_;rw [e];exact dU
 refine dC aa rfl (jR aa (aj rfl (ah (hK _ ?_))));exact aJ (bE () rfl aD au)
section
variable{N:Nat}{E:aG}{o:Oper}{x:yo}{W:ak}
def afL(ho:o.op = .nilCheck x)(hx:aP E x=some (.v W.val)) :
  ∀(G:aK) (a:Act) (w:yp),Fr N (bG G E) a->(execOp a.eval o).run prog w = .ok (.value ((aq.v W.val).den G)) w:=λG a w ha=>by
 have h1:a.eval x=W.val:=ha.eval (bH hx)
 unfold execOp
 rw [ho]
 dsimp only
 rw [h1,W.Bl]
 rfl
end
def af2{l:ae}(h:l.length=32):(By l).toArray.size=32:=by rw [fx,dH,h]
def aaJ{a b:ak}:(a7 (ak.inner a b).ai)[32]?=some a.val/\(a7 (ak.inner a b).ai)[33]?=some b.val:=by have h:=af2 (l:=mz a.root b.root) (nT _);show((By (mz a.root b.root)).toArray ++ #[a.val,b.val])[32]?=_/\((By (mz a.root b.root)).toArray ++ #[a.val,b.val])[33]?=_;rw [sM (by omega),sM (by omega),h];exact⟨rfl,rfl⟩
def ak.AJ:ak->FuncId
  | .empty=>240
  | .leaf _=>244
  | .inner _ _=>246
  | .hid _=>242
def Va(w:ak):Own w.AJ:=by
 cases w
 .exact λ_ _=>by unfold ak.AJ;go_simp
 .exact λ_ _=>by unfold ak.AJ;go_simp
 .exact λ_ _=>by unfold ak.AJ;go_simp
 .exact λ_ _=>by unfold ak.AJ;go_simp
def SU(w:ak):tU prog w.ty "witan/witness.lay" w.AJ=true:=by
 cases w
 .show tU prog 187 "witan/witness.lay" 240 = true;kernel_rfl
 .show tU prog 193 "witan/witness.lay" 244 = true;kernel_rfl
 .show tU prog 200 "witan/witness.lay" 246 = true;kernel_rfl
 .show tU prog 189 "witan/witness.lay" 242 = true;kernel_rfl
abbrev LK(l:ae):fm pP:={ ret:=λx=>.v (.slice x.1 l.length x.2),own:=λx=>[bL 0 5 1 aY x.1 x.2 l] }
theorem aFM:∀(w:ak),w.Good->∀(A:aO) (c:Nat) (l:ae),l.length+w.bytes.length<=1000000->Spec w.AJ [(aL.p w.ai).den,.slice A l.length c] [bL 0 5 1 aY A c l] (λ_=>True) (LK (l++w.bytes)):=by
 intro w;induction w with
 | empty =>
  intro hg A c l hl
  refine bA [.p [],.c (.v (.slice A l.length c))] 8 func240 rfl (ab:=dZ (ak.wZ hg) trivial) λb=>?_;have hl:l.length+1<=1000000:=hl;refine ag rfl (aA rfl λK hK=>lq an 0 (0:UInt8) rfl rfl rfl rfl rfl rfl rfl (mK [0] 0 eh) (by show(l.length+1)*1<=_;omega) (by omega) (bl _) λA1 c1=>aj rfl (ah (hK _ ?_)));exact aJ (bE (A1,c1) rfl aD au)
 | leaf p =>
  intro hg A c l hl
  have hp:lW p:=hg
  have e:l++(ak.leaf p).bytes=l++[1]++p.1++p.2:=by simp [ak.bytes]
  have hl:l.length+(1+64)<=1000000:=by
   have:(ak.leaf p).bytes.length=1+64:=by simp [ak.bytes,hp.1,hp.2]
   omega
  rw [e];refine bA [.p (ak.leaf p).ai,.c (.v (.slice A l.length c))] 14 func244 rfl (ab:=dZ (ak.wZ hg) trivial) λb=>ag rfl (ao λK hK=>?_);refine lv [0,3,4,6,7] 8 2 (λ_=>True) rfl aD ?_;refine cK (L0:=[]) 0 rfl (λ_ h=>by cases h) (λ_ _ _ h=>by cases h) (cK (L0:=[]) 3 rfl (λ_ h=>by cases h) (λ_ _ _ h=>by cases h) (kp (.s 2 32 32 32) 4 rfl rfl rfl (nv rfl dp rfl rfl) (cK (L0:=[]) 6 rfl (λ_ h=>by cases h) (λ_ _ _ h=>by cases h) (kp (.s 2 64 32 32) 7 rfl rfl rfl (nv rfl dp rfl rfl) ?_))));refine eN 1 rfl λK1 aS=>?_;refine jC an 0 [(1:UInt8)] rfl rfl rfl (λ_=>rfl) rfl (mK _) (bl _) λB=>iU 0 rfl (ah (aS _ aD ?_));refine eN 2 rfl λK2 aM=>?_;refine mc an 0 [(1:UInt8)] rfl rfl rfl rfl rfl rfl rfl (dX λ_ h _=>h.1) (by show(l.length+1)*1<=_;omega) (by show l.length+1<=_;omega) (bl _) λA1 c1=>ah (aM _ aD ?_);refine eN 5 rfl λK3 bu=>?_;refine H6 (A2':=λG=>some ⟨G 2,32,none⟩) (c2:=32) an 0 p.1 rfl rfl rfl rfl rfl (λ_=>by rw [hp.1];rfl) rfl rfl (Qq (ak.leaf p).ai rfl rfl hp.1 (by decide)) (by decide) (by simp [hp.1];omega) (by simp [hp.1];omega) (bl _) λA2 c2=>ah (bu _ aD (kQ [8,9] rfl (H6 (A2':=λG=>some ⟨G 2,64,none⟩) (c2:=32) an 0 p.2 rfl rfl rfl rfl rfl (λ_=>by rw [hp.2];rfl) rfl rfl (Qq (ak.leaf p).ai rfl rfl hp.2 (by decide)) (by decide) (by simp [hp.1,hp.2];omega) (by simp [hp.1,hp.2];omega) (bl _) λA3 c3=>aj rfl (ah (hK _ ?_)))));exact aJ (bE (A3,c3) rfl aD au)
 | hid h =>
  intro hg A c l hl
  have hp:h.length=32:=hg
  have e:l++(ak.hid h).bytes=l++[3]++h:=by simp [ak.bytes]
  have hl:l.length+(1+32)<=1000000:=by
   have:(ak.hid h).bytes.length=1+32:=by simp [ak.bytes,hp]
   omega
  rw [e];refine bA [.p (ak.hid h).ai,.c (.v (.slice A l.length c))] 11 func242 rfl (ab:=dZ (ak.wZ hg) trivial) λb=>ag rfl (ao λK hK=>?_);refine lv [0,3,4] 5 2 (λ_=>True) rfl aD ?_;refine cK (L0:=[]) 0 rfl (λ_ h=>by cases h) (λ_ _ _ h=>by cases h) (cK (L0:=[]) 3 rfl (λ_ h=>by cases h) (λ_ _ _ h=>by cases h) (kp (.s 2 0 32 32) 4 rfl rfl rfl (nv rfl dp rfl rfl) ?_));refine eN 1 rfl λK1 aS=>?_;refine jC an 0 [(3:UInt8)] rfl rfl rfl (λ_=>rfl) rfl (mK _) (bl _) λB=>iU 0 rfl (ah (aS _ aD ?_));refine eN 2 rfl λK2 aM=>?_;refine mc an 0 [(3:UInt8)] rfl rfl rfl rfl rfl rfl rfl (dX λ_ h _=>h.1) (by show(l.length+1)*1<=_;omega) (by show l.length+1<=_;omega) (bl _) λA1 c1=>ah (aM _ aD (kQ [5,6] rfl (H6 (A2':=λG=>some ⟨G 2,0,none⟩) (c2:=32) an 0 h rfl rfl rfl rfl rfl (λ_=>by rw [hp];rfl) rfl rfl (Qq (ak.hid h).ai rfl rfl hp (by decide)) (by decide) (by simp [hp];omega) (by simp [hp];omega) (bl _) λA3 c3=>aj rfl (ah (hK _ ?_)))));exact aJ (bE (A3,c3) rfl aD au)
 | inner x y ihx ihy =>
  intro hg A c l hl
  have e:l++(ak.inner x y).bytes=l++[2]++x.bytes++y.bytes:=by simp [ak.bytes]
  have hl:l.length+(1+x.bytes.length+y.bytes.length)<=1000000:=by
   have:(ak.inner x y).bytes.length=1+x.bytes.length+y.bytes.length:=by simp [ak.bytes];omega
   omega
  rw [e];refine bA [.p (ak.inner x y).ai,.c (.v (.slice A l.length c))] 20 func246 rfl (ab:=dZ (ak.wZ hg) trivial) λb=>?_;have hpo:=ak.wZ hg;obtain⟨SZ,EH⟩:=aaJ (a:=x) (b:=y);generalize hps:(ak.inner x y).ai=ai at *;refine ag rfl ?_;refine rS λG=>?_;have c7:∀u∈([⟨2,some (G 2),200,ai⟩]:aH),u∈iH G [⟨2,none,200,ai⟩]/\u.g.isSome=true:=λu hu=>⟨hu,by rw [bU.1 hu];rfl⟩;refine ao λK hK=>?_;refine lv [0,1,2,3,4,5,6,9,10,12,13] 14 2 (iV [⟨2,some (G 2),200,ai⟩]) rfl (iE c7) ?_;refine cK 0 rfl (λx hx=>(c7 x hx).1) (λ_ h=>h) (kp (.a 2 (0+32+1*1)) 1 rfl rfl rfl (eO 1 rfl rQ rfl rfl rfl (by decide)) (CB (.v y.val) 2 rfl rfl rfl (λx hx=>(c7 x hx).1) (λ_ h=>h) (CF _ rfl rfl rfl EH qj rfl) (cK 3 rfl (λx hx=>(c7 x hx).1) (λ_ h=>h) (kp (.a 2 (0+32+1*0)) 4 rfl rfl rfl (eO 0 rfl rQ rfl rfl rfl (by decide)) (CB (.v x.val) 5 rfl rfl rfl (λx hx=>(c7 x hx).1) (λ_ h=>h) (CF _ rfl rfl rfl SZ qj rfl) (cK 6 rfl (λx hx=>(c7 x hx).1) (λ_ h=>h) (kp (.v x.val) 9 rfl rfl rfl (afL rfl rfl) (cK 10 rfl (λx hx=>(c7 x hx).1) (λ_ h=>h) (kp (.v y.val) 12 rfl rfl rfl (afL rfl rfl) (cK 13 rfl (λx hx=>(c7 x hx).1) (λ_ h=>h) ?_))))))))));refine eN 7 rfl λK1 aS=>?_;refine jC an 0 [(2:UInt8)] rfl rfl rfl (λ_=>rfl) rfl (mK _) (bl _) λB=>iU 0 rfl (ah (aS _ (iE c7) ?_));refine eN 8 rfl λK2 aM=>?_;refine mc an 0 [(2:UInt8)] rfl rfl rfl rfl rfl rfl rfl (dX λ_ h _=>h.1) (by show(l.length+1)*1<=_;omega) (by show l.length+1<=_;omega) (bl _) λA1 c1=>ah (aM _ (iE c7) ?_);refine eN 11 rfl λK3 bu=>?_;refine dz ([bL 0 5 1 aY A1 c1 (l++[2])]++[]) rfl ?_;have arI:=ihx hg.1 A1 c1 (l++[2]) (by rw [aV,oM];omega)
  refine OS (W:=x) (own:=[bL 0 5 1 aY A1 c1 (l++[2])]) (R':=[]) (post:=LK (l++[2]++x.bytes)) (F':=λ_=>True) (f:=x.AJ) [.slice A1 (l++[2]).length c1] rfl (Va x) rfl rfl (SU x) rfl (λ_ _=>rfl) ?_ ?_ ?_
  .exact arI
  .exact λ_ _ _=>trivial
  rintro⟨A2,c2⟩
  refine ah (bu _ (iE c7) (kQ [14,15] rfl (dz ([bL 0 5 1 aY A2 c2 (l++[2]++x.bytes)]++[]) rfl ?_)));have arJ:=ihy hg.2 A2 c2 (l++[2]++x.bytes) (by rw [aV,aV,oM];omega);refine OS (W:=y) (own:=[bL 0 5 1 aY A2 c2 (l++[2]++x.bytes)]) (R':=[]) (post:=LK (l++[2]++x.bytes++y.bytes)) (F':=λ_=>True) (f:=y.AJ) [.slice A2 (l++[2]++x.bytes).length c2] rfl (Va y) rfl rfl (SU y) rfl (λ_ _=>rfl) ?_ ?_ ?_
  .exact arJ
  .exact λ_ _ _=>trivial
  rintro⟨A3,c3⟩
  refine aj rfl (ah (hK _ ?_));exact aJ (bE (A3,c3) rfl aD au)
section
variable{P:ym}{ti a b:yn}{ms:Array (String×yn)}{v u:yl}{w:yp}
def Si(d:Nat)(hi:P.underlying ti=some (.interface ms))(b8:a≠b):(cO (d+1) ti (.iface a v) (.iface b u)).run P w = .ok false w:=by rw [cO];simp only [bI,run_underlying hi,bS,if_pos b8,bM]
def anU(d:Nat){i:TypeInfo}(hi:P.underlying ti=some (.interface ms))(aqE:P.info? a=some i)(hc:i.comparable=true):(cO (d+1) ti (.iface a v) (.iface a u)).run P w=(cO d a v u).run P w:=by rw [cO];simp [run_underlying hi,typeInfo,aqE,hc]
def anR{r:Bool}(b8:(cO 10000 ti (.iface a v) (.iface b u)).run P w = .ok r w):(binOp .eql ti (.iface a v) (.iface b u)).run P w = .ok (.bool r) w:=by simp only [binOp];simp [Op.equal,Op.maxDepth,b8]
def apB{op:BinOp}{x y:yo}:(eqGuard op ti x y (.iface a v) (.iface b u)).run P w = .ok () w:=by cases op<;>simp [eqGuard]
end
def zE:=@underlying187
def Yz:prog.underlying 187 = some (.struct (prog.fieldsOf 187))/\(prog.fieldsOf 187).toList=[]:=by unfold Program.fieldsOf;rw [zE];exact⟨rfl,rfl⟩
def amL:(prog.info? 187).map (·.comparable)=some true:=by kernel_rfl
def aC6:prog.stoodInHeld 187 = false:=by kernel_rfl
def ak.Ug:ak->Bool
  | .empty=>true
  | _=>false
section
variable{N:Nat}{E:aG}{o:Oper}{x y:yo}{t':yn}{W:ak}
def aA6(ho:o.op = .binOp .eql 77 x y t')(hx:aP E x=some (.v W.val))(hy:aP E y=some (.v ak.empty.val)) :
  ∀(G:aK) (a:Act) (w:yp),Fr N (bG G E) a->(execOp a.eval o).run prog w = .ok (.value ((aq.v (.bool W.Ug)).den G)) w:=λG a w ha=>by
 have h1:a.eval x = .iface W.ty (aL.p W.ai).den:=by rw [<-W.Bl];exact ha.eval (bH hx)
 have h2:a.eval y = .iface 187 (.agg #[]):=ha.eval (bH hy);obtain⟨i,hi,hc⟩:=uD.1 amL
 have key:(cO 10000 77 (.iface W.ty (aL.p W.ai).den) (.iface 187 (.agg #[]))).run prog w = .ok W.Ug w:=by
  cases W with
  | empty =>
   show(cO (9999+1) 77 (.iface 187 (.agg #[])) (.iface 187 (.agg #[]))).run prog w = .ok true w
   rw [anU 9999 qj hi hc,run_equalIn_struct w 9998 _ _ _ Yz.1 aC6,Yz.2,Op.eqFields,bM]
  | leaf=>exact Si 9999 qj (by show(193 : Nat) ≠ 187;decide)
  | inner=>exact Si 9999 qj (by show(200 : Nat) ≠ 187;decide)
  | hid=>exact Si 9999 qj (by show(189 : Nat) ≠ 187;decide)
 unfold execOp
 simp only [ho,h1,h2,bI,apB,bS,anR key,bM]
 rfl
end
def ak.top:ak->yl
  | .empty=>.nilIface
  | w=>w.val
def ak.aD6(w:ak):w.top.oneCell'=true/\w.top.cells = #[w.top]:=by cases w<;>exact⟨rfl,rfl⟩
def gU(w:ak):aL:=.p [.one (.v w.top)]
def DS(w:ak):(gU w).aI:=λp hp=>by rw [bU.1 hp];exact⟨trivial,w.aD6⟩
def LM:Own 82:=λ_ _=>by go_simp
theorem WV(w:ak):Spec 64 [w.val] [] (λ_=>True) (one (.q (gU w))):=by
 refine bA [.c (.v w.val)] 10 func64 rfl λb=>ag rfl (ao λK hK=>aA rfl λK1 aS=>b6 (.v ak.empty.val) rfl (qk rfl zE rfl rfl) (b6 (.v (.bool w.Ug)) rfl (aA6 rfl rfl rfl) (ah (aS _ ?_))));cases w with
 | empty =>
  refine ir rfl (ag rfl ?_);exact aJ (bE () rfl aD au)
 | leaf =>
  refine dY rfl (aR (hK _ (ag rfl ?_)));exact aJ (bE () rfl aD au)
 | inner =>
  refine dY rfl (aR (hK _ (ag rfl ?_)));exact aJ (bE () rfl aD au)
 | hid =>
  refine dY rfl (aR (hK _ (ag rfl ?_)));exact aJ (bE () rfl aD au)
theorem MG(w:ak):Spec 82 [(gU w).den] [] (λ_=>True) (one (.v w.val)):=by
 refine bA [gU w] 10 func82 rfl (ab:=iG (DS w)) λb=>ag rfl (ao λK hK=>?_);cases w with
 | empty =>
  refine aA rfl λK1 aS=>b6 (.v (.bool true)) rfl (aA2 _ qj rfl rfl) (ah (aS _ (ir rfl (aA rfl λK2 aM=>b6 (.v ak.empty.val) rfl (qk rfl zE rfl rfl) (aj rfl (ah (aM _ ?_)))))));exact aJ (bE () rfl aD au)
 | leaf p =>
  refine aA rfl λK1 aS=>b6 (.v (.bool false)) rfl (VO _ qj rfl rfl) (ah (aS _ (dY rfl (aR (hK _ (ag rfl ?_))))));exact aJ (bE () rfl aD au)
 | inner x y =>
  refine aA rfl λK1 aS=>b6 (.v (.bool false)) rfl (VO _ qj rfl rfl) (ah (aS _ (dY rfl (aR (hK _ (ag rfl ?_))))));exact aJ (bE () rfl aD au)
 | hid h =>
  refine aA rfl λK1 aS=>b6 (.v (.bool false)) rfl (VO _ qj rfl rfl) (ah (aS _ (dY rfl (aR (hK _ (ag rfl ?_))))));exact aJ (bE () rfl aD au)
def ai7{w:ak}(h:w.Good):Spec 36 [(gU w).den] [] (λ_=>True) (one (.q (aw 32 w.root))):=by
 refine bA [gU w] 6 func36 rfl (ab:=iG (DS w)) λb=>ag rfl (aA rfl λK hK=>bY [(gU w).den] (hf:=LM) rfl (MG w) aD λ_=>?_);have hr:=WX h;refine dz ([]++[]) rfl ?_;refine OS (W:=w) (own:=[]) (R':=[]) (post:=one (.q (aw 32 w.root))) (F':=λ_=>True) (f:=w.DY) [] rfl (Vb w) rfl rfl (SV w) rfl (λ_ _=>rfl) ?_ ?_ ?_
 .exact hr
 .exact λ_ _ _=>trivial
 intro _;refine aj rfl (ah (hK _ ?_));exact aJ (bE () rfl aD au)
def aEN{w:ak}(h:w.Good)(hl:w.bytes.length<=1000000):Spec 60 [(gU w).den] [] (λ_=>True) (LK w.bytes):=by
 refine bA [gU w] 6 func60 rfl (ab:=iG (DS w)) λb=>ag rfl (aA rfl λK hK=>bY [(gU w).den] (hf:=LM) rfl (MG w) aD λ_=>?_);have hr:=aFM w h none 0 [] (by simpa using hl);refine Le 0 5 1 aY (dz ([bL 0 5 1 aY none 0 []]++[]) rfl ?_);refine OS (W:=w) (own:=[bL 0 5 1 aY none 0 []]) (R':=[]) (post:=LK w.bytes) (F':=λ_=>True) (f:=w.AJ) [.slice none 0 0] rfl (Va w) rfl rfl (SU w) rfl (λ_ _=>rfl) ?_ ?_ ?_
 .exact hr
 .exact λ_ _ _=>trivial
 rintro⟨A,c⟩;refine aj rfl (ah (hK _ ?_));exact aJ (bE (A,c) rfl aD au)
def Be{α:Type}{P:ym}{T:eG}{N:Nat}{E:aG}{o:Oper}{x:yo}{t:yn}{k' c j off g a:Nat}{fe:α->aL}{l:List α}{y:α}{q:aL}{L:aH}{R:bF}{F M:aE}(hT:fh P T)(ho:o.op = .load t x)(hx:aP E x=some (.v (.pointer (some ⟨g,a+k'*j+off,none⟩))))(hi:l[j]?=some y)(hl:tE T (fe y).fA t off=some q)(bx:ch (fe y).fA)(h:∀G S w,View G S L R F M w->ar k' fe (some ⟨g,a,none⟩) c l w) :
  ∀(G:aK) (S:cn) (ac:Act) (w:yp),Fr N (bG G E) ac->View G S L R F M w->(execOp ac.eval o).run P w = .ok (.value ((aq.q q).den G)) w:=λG S ac w ha ab=>by
 have e1:=ha.eval (bH hx);obtain⟨b',o',e,_,hr⟩:=(h G S w ab).2.2.2.2 (nc (bl _) (eY.1 hi).1)
 injection e with e
 injection e with e2 e3
 subst e2 e3;have h13:=(Ib hT bx hl).2 (w:=w) (g:=g) (base:=a+k'*j) (by rw [<-aL.JC bx];exact hr j y hi)
 unfold execOp
 simp only [ho,e1,aq.den,aL.den,eK.den,h13,bI,bM,bS]
def D5:Nat->yn
  | 0=>187
  | 1=>193
  | 2=>200
  | _=>189
def I8:Nat->cJ
  | 0=>[]
  | 1=>[.agg 32 (By dx).toArray,.agg 32 (By dx).toArray,.agg 32 (By dx).toArray]
  | 2=>[.agg 32 (By dx).toArray,.agg 2 #[.nilIface,.nilIface]]
  | _=>[.agg 32 (By dx).toArray]
theorem aHM(k:Nat):ch (I8 k):=by
 match k with
 | 0=>exact LH (by kernel_rfl)
 | 1=>exact LH (by kernel_rfl)
 | 2=>exact LH (by kernel_rfl)
 | _+3=>exact LH (by show UZ [.agg 32 (By dx).toArray]=true;kernel_rfl)
def ak.Jt(W:ak)(k:Nat):cJ:=match b9 W.kind k with
  | true=>W.ai
  | false=>I8 k
def ak.akU{W:ak}(h:W.Good)(k:Nat):ch (W.Jt k):=by
 unfold ak.Jt;split
 .exact ak.wZ h
 .exact aHM k
def ahG(W:ak):W.ty=D5 W.kind:=by cases W<;>rfl
theorem aHO:∀k,k<4->(prog.info? (D5 k)).map (·.zero)=some (some (aL.p (I8 k)).den)
 | 0,_=>by show(prog.info? 187).map (·.zero)=some (some (aL.p []).den);kernel_rfl
 | 1,_=>by show(prog.info? 193).map (·.zero)=some (some (aL.p (I8 1)).den);kernel_rfl
 | 2,_=>by show(prog.info? 200).map (·.zero)=some (some (aL.p (I8 2)).den);kernel_rfl
 | 3,_=>by show(prog.info? 189).map (·.zero)=some (some (aL.p (I8 3)).den);kernel_rfl
 | k+4,h=>absurd h (by omega)
def II:=@underlying193
def LZ:=@underlying200
theorem aDT:∀k,k<4->∃d,prog.underlying (D5 k)=some d/\HG d=false
 | 0,_=>⟨_,zE,rfl⟩
 | 1,_=>⟨_,II,rfl⟩
 | 2,_=>⟨_,LZ,rfl⟩
 | 3,_=>⟨_,underlying189,rfl⟩
 | k+4,h=>absurd h (by omega)
def aDH:∀i j,i<4->j<4->D5 i=D5 j->i=j:=by
 have h:∀i:Fin 4,∀j:Fin 4,D5 i.1=D5 j.1->i.1=j.1:=by decide +kernel
 exact λi j hi hj=>h ⟨i,hi⟩ ⟨j,hj⟩
def KY(W:ak):W.kind<4:=by cases W<;>simp [ak.kind]
section
variable{b:bO}{ops:aZ}{Q:bK}{N:Nat}{E:aG}{L:aH}{R:bF}{F M:aE}{o:Oper}{rest:aN}{j:Nat}{x:yo}{ti:yn}
def sH(k:Nat){W:ak}(hW:W.Good)(h4:k<4)(hg:o.guard=none)(hd:o.dst=some j)(hj:aW j N=true)(ho:o.op = .typeAssert x ti (D5 k) true)(hx:aP E x=some (.v W.val))
 (hn:a9 prog b ops Q N rest ⟨(j,.t [.p (W.Jt k),.c (.v (.bool (b9 W.kind k)))])::E,L,R,F,M⟩):a9 prog b ops Q N (o::rest) ⟨E,L,R,F,M⟩:=by
 obtain⟨d,hu,hi⟩:=aDT k h4;refine b6 (.t [.p (W.Jt k),.c (.v (.bool (b9 W.kind k)))]) (ab:=λy hy=>?_) (lu hg hd hj) ?_ hn;rotate_left
 .rcases bT.1 hy with rfl|hy
  .exact ak.akU hW k
  .rw [bU.1 hy];exact trivial
 .unfold ak.Jt
  by_cases e:W.kind=k
  .have e2:b9 W.kind k=true:=by rw [e];exact Nat.beq_refl k
   rw [e2];exact azY ho hu hi (by rw [hx,W.Bl,ahG,e]) rfl
  .have e2:b9 W.kind k=false:=by
    cases h:b9 W.kind k with
    | true=>exact absurd (Nat.eq_of_beq_eq_true h) e
    | false=>rfl
   rw [e2];exact azX ho hu hi (by rw [hx,W.Bl]) (λh=>e (aDH _ _ (KY W) h4 (by rw [<-ahG,h]))) (aHO k h4)
end
def wrap_u8(d:Nat):IntKind.u8.wrap (((d%256:Nat):Int)+1)=(((d+1)%256:Nat):Int):=by unfold rB;simp [oB,mO]
def IU(u:ae×Bool×Bool):cM:=.t [aw 32 u.1,.c (.v (.bool u.2.1)),.c (.v (.int .i64 (if u.2.2 then 100 else 0)))]
theorem aFD{k:ae}(hk:k.length=32)(w:ak)(hr:w.jj []):Spec 114 [w.val,(aw 32 k).den] [] (λ_=>True) (one (IU (ak.tell k (ak.find k 0 w)))):=by
 refine bA [.c (.v w.val),aw 32 k] 37 func114 rfl (ab:=dZ trivial (cq hk).1) λb=>?_;generalize uE:ak.tell k (ak.find k 0 w)=res;refine ag rfl (ag rfl (a8 ?_));let F:ak×aC->Env:=λ⟨W,way⟩=>⟨[(0,.v W.val),(3,.a 3 0),(4,.a 4 0),(7,.v (.int .u8 ((way.length%256:Nat):Int)))],[⟨4,none,47,[.agg 32 (By dx).toArray]⟩,⟨3,none,47,[.agg 32 (By k).toArray]⟩],[],λ_=>True,λ_=>True⟩;refine cI (e':=F (w,[])) ⟨dB rfl, c8 rfl rfl, .refl _,aD, au⟩ (cY (λy=>256-y.2.length) F (λy=>y.1.jj y.2/\ak.tell k (ak.find k y.2.length y.1)=res) ?_ (w,[]) ⟨hr,uE⟩);rintro⟨W,way⟩ ⟨hW,uE⟩;dsimp only at hW uE;refine ao λK hK=>a8 (ao λK1 aS=>ag rfl (a8 (aA rfl λK2 aM=>sH 2 hW.dn (by decide) rfl rfl rfl rfl rfl (aj rfl (ah (aM _ ?_))))));cases W with
 | inner x y =>
  obtain⟨al,hx,hy,_⟩:=hW;refine ir rfl (ag rfl (ao λK3 bu=>ef (aj rfl ?_)));obtain⟨SZ,EH⟩:=aaJ (a:=x) (b:=y);have e256:way.length%256=way.length:=gm al;refine ca 18 (way.length:Int) rfl (by rw [e256]) (bY [(aw 32 k).den,.int .u8 (way.length:Int)] (hf:=Iu) rfl (IZ hk way.length al) aD λ_=>aj rfl ?_);have jz:=sj k way.length
  by_cases hb:b7 k way.length=0
  .refine ca 19 0 rfl (by rw [hb];rfl) ?_;refine b6 (.a 8 (0+32+1*0)) rfl (eO 0 rfl rQ rfl rfl rfl (by decide)) (jq (.v x.val) rfl (jV _ rfl rfl rfl SZ qj rfl) (aj rfl (ah (bu _ (cG (Ul rfl (a6 (cF (hK _ (cE rfl ?_))))))))));exact cH (x,way++[0]) ⟨hx,by rw [<-uE,aV,oM];show _=ak.tell k (if b7 k way.length=0 then _ else _);rw [if_pos hb]⟩ (by rw [aV,oM];show 256-(way.length+1)<256-way.length;omega) ⟨⟨rfl,rfl,rfl,congrArg some (congrArg aq.v (congrArg (bQ .u8) (by rw [aV,oM];exact wrap_u8 way.length))),trivial⟩,c8 rfl rfl, .refl _,aD, au⟩
  .refine ca 19 1 rfl (by rw [show b7 k way.length=1 by omega];rfl) ?_;refine b6 (.a 8 (0+32+1*1)) rfl (eO 1 rfl rQ rfl rfl rfl (by decide)) (jq (.v y.val) rfl (jV _ rfl rfl rfl EH qj rfl) (aj rfl (ah (bu _ (cG (Ul rfl (a6 (cF (hK _ (cE rfl ?_))))))))));exact cH (y,way++[1]) ⟨hy,by rw [<-uE,aV,oM];show _=ak.tell k (if b7 k way.length=0 then _ else _);rw [if_neg hb]⟩ (by rw [aV,oM];show 256-(way.length+1)<256-way.length;omega) ⟨⟨rfl,rfl,rfl,congrArg some (congrArg aq.v (congrArg (bQ .u8) (by rw [aV,oM];exact wrap_u8 way.length))),trivial⟩,c8 rfl rfl, .refl _,aD, au⟩
 | empty =>
  refine dY rfl (aA rfl λK4 bW=>sH (W:=.empty) 1 hW.dn (by decide) rfl rfl rfl rfl rfl (aj rfl (ah (bW _ (dY rfl (aA rfl λK5 bN=>sH (W:=.empty) 3 hW.dn (by decide) rfl rfl rfl rfl rfl (aj rfl (ah (bN _ (dY rfl (aR (aS _ (ag rfl ?_)))))))))))));exact aJ (dk an () rfl rfl (by rw [<-uE];rfl) rfl aD au)
 | leaf p =>
  have hp:lW p:=hW.dn;refine dY rfl (aA rfl λK4 bW=>sH (W:=.leaf p) 1 hW.dn (by decide) rfl rfl rfl rfl rfl (aj rfl (ah (bW _ (ir rfl (ag rfl (aA rfl λK6 cr=>b6 (.b (decide (p.1=k))) rfl (F6 rfl rfl rfl dp (by kernel_rfl) hp.1 hk) (ah (cr _ ?_)))))))));refine bn (p.1=k) rfl (λhe=>?_) (λhe=>?_)
  .refine ag rfl ?_;exact aJ (dk an () rfl rfl (by rw [<-uE];show IU (if p.1=k then _ else _)=_;rw [if_pos he];rfl) rfl aD au)
  .refine aR (aS _ ?_);refine ag rfl ?_;exact aJ (dk an () rfl rfl (by rw [<-uE];show IU (if p.1=k then _ else _)=_;rw [if_neg he];rfl) rfl aD au)
 | hid h =>
  refine dY rfl (aA rfl λK4 bW=>sH (W:=.hid h) 1 hW.dn (by decide) rfl rfl rfl rfl rfl (aj rfl (ah (bW _ (dY rfl (aA rfl λK5 bN=>sH (W:=.hid h) 3 hW.dn (by decide) rfl rfl rfl rfl rfl (aj rfl (ah (bN _ (ir rfl (ag rfl (ag rfl ?_))))))))))));exact aJ (dk an () rfl rfl (by rw [<-uE];rfl) rfl aD au)
theorem ak.QV{k:ae}:∀{d:Nat} {w:ak},w.Good->(ak.tell k (ak.find k d w)).1.length=32
 | _,.empty,_=>rfl
 | _,.leaf p,h=>by
  show(if p.1=k then(p.2,true,false) else(dx,false,false)).1.length=32;split
  .exact h.2
  .rfl
 | _,.hid _,_=>rfl
 | d,.inner a b,h=>by
  show(ak.tell k (if b7 k d=0 then ak.find k (d+1) a else ak.find k (d+1) b)).1.length=32;split
  .exact ak.QV h.1
  .exact ak.QV h.2
def aCZ{u:ae×Bool×Bool}(h:u.1.length=32):(IU u).eJ.aI:=λx hx=>by
 simp only [bT,xG,or_false] at hx;rcases hx with rfl|rfl|rfl
 .exact(cq h).1
 .exact trivial
 .exact trivial
def aES{k:ae}(hk:k.length=32)(w:ak)(hr:w.jj []):Spec 84 [(gU w).den,(aw 32 k).den] [] (λ_=>True) (one (IU (ak.tell k (ak.find k 0 w)))):=by
 refine bA [gU w,aw 32 k] 14 func84 rfl (ab:=dZ (DS w) (cq hk).1) λb=>?_;have Ko:=aFD hk w hr;have hl:=ak.QV (k:=k) (d:=0) hr.dn;generalize ak.tell k (ak.find k 0 w)=res at *;refine ag rfl (rT 7 λK1 aS G S w0 aa=>fa an aa rfl (rG (F':=λ_=>True) aa [(gU w).den] rfl LM rfl rfl (λ_=>rfl) (MG w) trivial (λ_ _ _ _=>trivial) (fa an aa rfl ?_)));refine rG (F':=λ_=>True) (r:=IU res) aa [w.val,(aw 32 k).den] rfl (λ_ _=>by go_simp) rfl rfl (λ_=>rfl) Ko ?_ (λ_ _ _ _=>trivial) ?_
 .exact aCZ hl
 refine fa an aa rfl (p1 aa (aj rfl (ah (aS _ ?_))));exact aJ (bE () rfl aD au)
def FL(tW:Bool)(w:ak):cM:=match tW with
  | true=>.t [.c (.v .nilIface),.c (.v (.int .i64 100))]
  | false=>.t [.c (.v w.val),.c (.v (.int .i64 0))]
def ak.tW(k:ae)(d:Nat)(w:ak):Bool:=(ak.tell k (ak.find k d w)).2.2
def zA(p:dD)(d:Nat)(x y:ak):cM:=if b7 p.1 d=0 then FL (ak.tW p.1 (d+1) x) (.inner (ak.put p (d+1) x) y) else FL (ak.tW p.1 (d+1) y) (.inner x (ak.put p (d+1) y))
def yc(p:dD)(d:Nat)(w:ak):cM:=FL (ak.tW p.1 d w) (ak.put p d w)
def acE(u:Bool)(w:ak):(FL u w).eJ.aI:=by cases u<;>exact λx hx=>by simp only [bT,xG,or_false] at hx;rcases hx with rfl|rfl<;>exact trivial
def ay2(p:dD)(d:Nat)(x y:ak):zA p d x y=yc p d (.inner x y):=by unfold yc zA ak.tW;show _=FL (ak.tell p.1 (if b7 p.1 d=0 then ak.find p.1 (d+1) x else ak.find p.1 (d+1) y)).2.2 (if b7 p.1 d=0 then .inner (ak.put p (d+1) x) y else .inner x (ak.put p (d+1) y));split<;>rfl
def My{q:dD}{k:ae}{d:Nat}:ak.tW k d (.leaf q)=false:=by show(if q.1=k then(q.2,true,false) else(dx,false,false)).2.2=false;split<;>rfl
def LU{q p:dD}{d n:Nat}(hn:n+d=256)(b8:q.1≠p.1):ak.put p d (.leaf q)=ak.two n d q p:=by show(if q.1=p.1 then _ else ak.two (256-d) d q p)=_;rw [if_neg b8,show 256-d=n by omega]
def ay3{q p:dD}{d n:Nat}(hn:n+1+d=256)(b8:q.1≠p.1)(hq:b7 q.1 d=0):zA p d (.leaf q) .empty=yc p d (.leaf q):=by
 have hb:=sj p.1 d;have h1:=LU (d:=d) (n:=n+1) (by omega) b8;have h2:=LU (d:=d+1) (n:=n) (by omega) b8;unfold yc zA;rw [My,My,h1,h2,Wq];by_cases e:b7 p.1 d=0
 .rw [if_pos e,if_pos (by omega),if_pos hq]
 .rw [if_neg e,if_neg (by omega),if_pos hq];rfl
def ay4{q p:dD}{d n:Nat}(hn:n+1+d=256)(b8:q.1≠p.1)(hq:b7 q.1 d≠0):zA p d .empty (.leaf q)=yc p d (.leaf q):=by
 have hb:=sj p.1 d;have jz:=sj q.1 d;have h1:=LU (d:=d) (n:=n+1) (by omega) b8;have h2:=LU (d:=d+1) (n:=n) (by omega) b8;unfold yc zA;rw [My,My,h1,h2,Wq];by_cases e:b7 p.1 d=0
 .rw [if_pos e,if_neg (by omega),if_neg hq];rfl
 .rw [if_neg e,if_pos (by omega),if_neg hq]
def alY(t1 t2:yn)(v1 v2:yl):prog.built 198 [(0,.iface t1 v1),(1,.iface t2 v2)]=some #[.iface t1 v1,.iface t2 v2]:=by kernel_rfl
def afO{N:Nat}{E:aG}{o:Oper}{x y:yo}{X Y:ak}(ho:o.op = .build 198 #[(0,x),(1,y)])(hx:aP E x=some (.v X.val))(hy:aP E y=some (.v Y.val)) :
  ∀(G:aK) (a:Act) (w:yp),Fr N (bG G E) a->(execOp a.eval o).run prog w = .ok (.value ((aq.p (uT X Y)).den G)) w:=λG a w ha=>by
 have h1:a.eval x = .iface X.ty (aL.p X.ai).den:=by rw [<-X.Bl];exact ha.eval (bH hx)
 have h2:a.eval y = .iface Y.ty (aL.p Y.ai).den:=by rw [<-Y.Bl];exact ha.eval (bH hy)
 unfold execOp
 have h:prog.built 198 (Array.map (λx:Nat×yo=>(x.1,a.eval x.2)) #[(0,x),(1,y)]).toList=some #[.iface X.ty (aL.p X.ai).den,.iface Y.ty (aL.p Y.ai).den]:=by rw [Array.toList_map];show prog.built 198 [(0,a.eval x),(1,a.eval y)]=_;rw [h1,h2];exact alY _ _ _ _
 simp only [ho,bI,run_build w 198 _ _ h,bS,bM];rw [<-X.Bl,<-Y.Bl]
 rfl
def XH{a b a' b':ak}(ha:a.kind<=a'.kind)(hb:b.kind<=b'.kind)(h:ak.bad a b=false):ak.bad a' b'=false:=by unfold ak.bad at *;generalize a.kind=x at *;generalize b.kind=y at *;generalize a'.kind=x' at *;generalize b'.kind=y' at *;simp only [Bool.or_eq_false_iff,vY,beq_eq_false_iff_ne] at *;omega
def aDF(n d:Nat)(q p:dD):(ak.two (n+1) d q p).kind=2:=by
 rw [Wq];split
 .split<;>rfl
 .split<;>rfl
theorem ak.jj.put{p:dD}(hp:lW p):∀{n:Nat} {way:aC} {w:ak},n+way.length=256->ak.jj way w->iO way p.1->ak.jj way (ak.put p way.length w)/\w.kind<=(ak.put p way.length w).kind
 | _,way,.empty,_,_,hk=>⟨⟨hp.1,hp.2,hk⟩,bl _⟩
 | n,way,.leaf q,hn,hr,hk=>by
  obtain⟨h1,h2,h3⟩:=hr;by_cases e:q.1=p.1
  .have:ak.put p way.length (.leaf q) = .leaf p:=by
    show(if q.1=p.1 then _ else _)=_;rw [if_pos e]
   rw [this];exact⟨⟨hp.1,hp.2,hk⟩,aQ _⟩
  .rw [LU hn e]
   obtain⟨m,rfl⟩:∃m,n=m+1:=⟨n-1,by
    by_cases e0:n=0
    .subst e0;have:=iO.share h3 hk;rw [show way.length=256 by omega] at this;exact absurd (this.all h1 hp.1) e
    .omega⟩
   refine⟨ak.pj.right (ks:=[]) (l:=ed [q] p) (ak.Q1 (m+1) hn h1 hp.1 e (iO.share h3 hk)) λy hy=>?_,by rw [aDF];exact DU _⟩;have:y=q\/y=p:=by rcases ak.adY e with e2|e2<;>rw [e2] at hy<;>simp at hy<;>rcases hy with h|h<;>simp [h]
   rcases this with rfl|rfl
   .exact⟨h1,h2,h3⟩
   .exact⟨hp.1,hp.2,hk⟩
 | n,way,.inner a b,hn,hr,hk=>by
  obtain⟨h1,h2,h3,h4⟩:=hr;obtain⟨m,rfl⟩:∃m,n=m+1:=⟨n-1,by omega⟩;have elen:∀x:Nat,(way++[x]).length=way.length+1:=λx=>by rw [aV,oM]
  have jz:=sj p.1 way.length;show ak.jj way (if b7 p.1 way.length=0 then _ else _)/\2<=ak.kind (if b7 p.1 way.length=0 then _ else _);by_cases hb:b7 p.1 way.length=0
  .rw [if_pos hb];have:=ak.jj.put hp (n:=m) (way:=way++[0]) (by rw [elen];omega) h2 (iO.more.2 ⟨hk,hb⟩);rw [elen] at this;exact⟨⟨h1,this.1,h3,XH this.2 (aQ _) h4⟩,aQ _⟩
  .rw [if_neg hb];have:=ak.jj.put hp (n:=m) (way:=way++[1]) (by rw [elen];omega) h3 (iO.more.2 ⟨hk,by omega⟩);rw [elen] at this;exact⟨⟨h1,h2,this.1,XH (aQ _) this.2 h4⟩,aQ _⟩
 | _,way,.hid h,_,hr,_=>⟨hr,aQ _⟩
def Iy:Own 115:=λ_ _=>by go_simp
theorem aFX{p:dD}(hp:lW p):∀(n:Nat) (w:ak) (way:aC),n+way.length=256->w.jj way->iO way p.1->Spec 115 [w.val,(tD p).den,.int .u8 ((way.length%256:Nat):Int)] [] fV (one (yc p way.length w)):=by
 intro n;induction n using qP with
 | ind n ih =>
 intro w way hn hr hk;obtain⟨D,hD⟩:∃D,way.length%256=D:=⟨_,rfl⟩;rw [hD];refine bA [.c (.v w.val),tD p,.c (.v (.int .u8 (D:Int)))] 75 func115 rfl (ab:=uP trivial (dZ (ak.wZ (w:=.leaf p) hp) trivial)) λb=>?_;have elen:∀x:Nat,(way++[x]).length=way.length+1:=λx=>by rw [aV,oM]
 refine ag rfl (aA rfl λK1 aS=>b6 (.v ak.empty.val) rfl (qk rfl zE rfl rfl) (aj rfl (b6 (.v ak.empty.val) rfl (qk rfl zE rfl rfl) (b6 (.p (uT .empty .empty)) (ab:=CG _ _) rfl (afO rfl rfl rfl) (aj rfl (ah (aS _ (mR [0,2,4,8] [4,8] rfl rfl (ao λK hK=>?_)))))))));have ll:∀x y:ak,x.jj (way++[0])->y.jj (way++[1])->zA p way.length x y=yc p way.length w->D=way.length->∀m,n=m+1->∀en,gj en ⟨[(2,.v (.int .u8 (D:Int))),(4,.a 4 0),(8,.a 8 0)],[⟨8,none,198,uT x y⟩,⟨4,none,193,(ak.leaf p).ai⟩],[],fV,λ_=>True⟩->cl b K 75 en:=by
  intro x y hx hy heq JY n hnn en hw;subst JY hnn;refine ft hw (hK _ ?_);have jz:=sj p.1 way.length;have al:way.length<256:=by omega
  obtain⟨e8,vu⟩:∃e,(way.length+1)%256=e:=⟨_,rfl⟩;have Dm:IntKind.u8.wrap ((way.length:Int)+1)=(e8:Int):=by
   have:=wrap_u8 way.length
   rwa [gm al,vu] at this
  refine aA rfl λK3 bu=>bY [(aw 32 p.1).den,.int .u8 (way.length:Int)] (hf:=Iu) rfl (IZ hp.1 way.length al) aD λ_=>?_;by_cases hb:b7 p.1 way.length=0
  .refine ca 55 0 rfl (by rw [hb];rfl) ?_
   refine aj rfl (ah (bu _ (mR [2,4,8,13] [4,8] rfl rfl ?_)));have ihx:=ih n (k9 n) x (way++[0]) (by rw [elen];omega) hx (iO.more.2 ⟨hk,hb⟩);rw [elen,vu] at ihx;unfold yc at ihx;cases hu:ak.tW p.1 (way.length+1) x with
   | true =>
    rw [hu] at ihx;replace ihx:Spec 115 [x.val,(tD p).den,.int .u8 (e8:Int)] [] fV (one (.t [.c (.v .nilIface),.c (.v (.int .i64 100))])):=ihx;refine rT 12 λK4 bW G S w0 aa=>fa an aa rfl (oZ (.a 8 (0+1*0)) rfl (eO 0 rfl rQ rfl rfl rfl (by decide)) (xH aa (.v x.val) rfl (jV _ rfl rfl rfl rfl qj rfl) (fa an aa rfl (Ak 62 (e8:Int) rfl Dm ?_))))
    refine rG (F':=fV) aa [x.val,(tD p).den,.int .u8 (e8:Int)] rfl Iy rfl rfl (λ_=>rfl) ihx (λu hu=>by
     rcases bT.1 hu with rfl|hu
     .exact trivial
     .rw [bU.1 hu];exact trivial) (λ_ _ _ ab=>ab.fact.2) ?_
    refine fa an aa rfl (p1 aa (aj rfl (ah (bW _ (mR [8,13,14,15] [8] rfl rfl (ao λK5 bN=>ag rfl ?_))))));refine bn ((100:Int)≠0) rfl (λ_=>?_) (λh=>absurd (by decide) h);refine ag rfl ?_;exact aJ (dk an () rfl rfl (by rw [<-heq];unfold zA;rw [if_pos hb,hu];rfl) rfl aD au)
   | false =>
    rw [hu] at ihx;replace ihx:Spec 115 [x.val,(tD p).den,.int .u8 (e8:Int)] [] fV (one (.t [.c (.v (ak.put p (way.length+1) x).val),.c (.v (.int .i64 0))])):=ihx;refine rT 12 λK4 bW G S w0 aa=>fa an aa rfl (oZ (.a 8 (0+1*0)) rfl (eO 0 rfl rQ rfl rfl rfl (by decide)) (xH aa (.v x.val) rfl (jV _ rfl rfl rfl rfl qj rfl) (fa an aa rfl (Ak 62 (e8:Int) rfl Dm ?_))))
    refine rG (F':=fV) aa [x.val,(tD p).den,.int .u8 (e8:Int)] rfl Iy rfl rfl (λ_=>rfl) ihx (λu hu=>by
     rcases bT.1 hu with rfl|hu
     .exact trivial
     .rw [bU.1 hu];exact trivial) (λ_ _ _ ab=>ab.fact.2) ?_
    refine fa an aa rfl (p1 aa (aj rfl (ah (bW _ (mR [8,13,14,15] [8] rfl rfl (ao λK5 bN=>ag rfl (bn ((0:Int)≠0) rfl (λh=>absurd rfl h) (λ_=>aR (bN _ (aA rfl λK6 cr=>b6 (.a 8 (0+1*0)) rfl (eO 0 rfl rQ rfl rfl rfl (by decide)) (tC (uT (ak.put p (way.length+1) x) y) rfl rfl rfl rfl rfl rfl rfl (ak.xe _) (ak.val_one _) (show _<2 by decide) (CG _ _) rfl (ah (cr _ (mR [8] [8] rfl rfl ?_))))))))))))))
    have T6:(ak.put p (way.length+1) x).Good:=by have:=ak.jj.put hp (n:=n) (way:=way++[0]) (by rw [elen];omega) hx (iO.more.2 ⟨hk,hb⟩);rw [elen] at this;exact this.1.dn
    refine aA rfl λK7 df=>bY [(aL.p (uT (ak.put p (way.length+1) x) y)).den] rfl (WO T6 hy.dn) (λ_ h _=>h.2) λ_=>b6 (.v (ak.inner (ak.put p (way.length+1) x) y).val) rfl (qk (q:=.p (ak.inner (ak.put p (way.length+1) x) y).ai) rfl LZ rfl rfl) (aj rfl (ah (df _ ?_)));exact aJ (dk an () rfl rfl (by rw [<-heq];unfold zA;rw [if_pos hb,hu];rfl) rfl aD au)
  .refine ca 55 1 rfl (by rw [show b7 p.1 way.length=1 by omega];rfl) ?_
   refine aj rfl (ah (bu _ (mR [2,4,8,13] [4,8] rfl rfl ?_)));have ihx:=ih n (k9 n) y (way++[1]) (by rw [elen];omega) hy (iO.more.2 ⟨hk,by omega⟩);rw [elen,vu] at ihx;unfold yc at ihx;cases hu:ak.tW p.1 (way.length+1) y with
   | true =>
    rw [hu] at ihx;replace ihx:Spec 115 [y.val,(tD p).den,.int .u8 (e8:Int)] [] fV (one (.t [.c (.v .nilIface),.c (.v (.int .i64 100))])):=ihx;refine rT 12 λK4 bW G S w0 aa=>fa an aa rfl (oZ (.a 8 (0+1*1)) rfl (eO 1 rfl rQ rfl rfl rfl (by decide)) (xH aa (.v y.val) rfl (jV _ rfl rfl rfl rfl qj rfl) (fa an aa rfl (Ak 62 (e8:Int) rfl Dm ?_))))
    refine rG (F':=fV) aa [y.val,(tD p).den,.int .u8 (e8:Int)] rfl Iy rfl rfl (λ_=>rfl) ihx (λu hu=>by
     rcases bT.1 hu with rfl|hu
     .exact trivial
     .rw [bU.1 hu];exact trivial) (λ_ _ _ ab=>ab.fact.2) ?_
    refine fa an aa rfl (p1 aa (aj rfl (ah (bW _ (mR [8,13,14,15] [8] rfl rfl (ao λK5 bN=>ag rfl ?_))))));refine bn ((100:Int)≠0) rfl (λ_=>?_) (λh=>absurd (by decide) h);refine ag rfl ?_;exact aJ (dk an () rfl rfl (by rw [<-heq];unfold zA;rw [if_neg hb,hu];rfl) rfl aD au)
   | false =>
    rw [hu] at ihx;replace ihx:Spec 115 [y.val,(tD p).den,.int .u8 (e8:Int)] [] fV (one (.t [.c (.v (ak.put p (way.length+1) y).val),.c (.v (.int .i64 0))])):=ihx;refine rT 12 λK4 bW G S w0 aa=>fa an aa rfl (oZ (.a 8 (0+1*1)) rfl (eO 1 rfl rQ rfl rfl rfl (by decide)) (xH aa (.v y.val) rfl (jV _ rfl rfl rfl rfl qj rfl) (fa an aa rfl (Ak 62 (e8:Int) rfl Dm ?_))))
    refine rG (F':=fV) aa [y.val,(tD p).den,.int .u8 (e8:Int)] rfl Iy rfl rfl (λ_=>rfl) ihx (λu hu=>by
     rcases bT.1 hu with rfl|hu
     .exact trivial
     .rw [bU.1 hu];exact trivial) (λ_ _ _ ab=>ab.fact.2) ?_
    refine fa an aa rfl (p1 aa (aj rfl (ah (bW _ (mR [8,13,14,15] [8] rfl rfl (ao λK5 bN=>ag rfl (bn ((0:Int)≠0) rfl (λh=>absurd rfl h) (λ_=>aR (bN _ (aA rfl λK6 cr=>b6 (.a 8 (0+1*1)) rfl (eO 1 rfl rQ rfl rfl rfl (by decide)) (tC (uT x (ak.put p (way.length+1) y)) rfl rfl rfl rfl rfl rfl rfl (ak.xe _) (ak.val_one _) (show _<2 by decide) (CG _ _) rfl (ah (cr _ (mR [8] [8] rfl rfl ?_))))))))))))))
    have T6:(ak.put p (way.length+1) y).Good:=by have:=ak.jj.put hp (n:=n) (way:=way++[1]) (by rw [elen];omega) hy (iO.more.2 ⟨hk,by omega⟩);rw [elen] at this;exact this.1.dn
    refine aA rfl λK7 df=>bY [(aL.p (uT x (ak.put p (way.length+1) y))).den] rfl (WO hx.dn T6) (λ_ h _=>h.2) λ_=>b6 (.v (ak.inner x (ak.put p (way.length+1) y)).val) rfl (qk (q:=.p (ak.inner x (ak.put p (way.length+1) y)).ai) rfl LZ rfl rfl) (aj rfl (ah (df _ ?_)));exact aJ (dk an () rfl rfl (by rw [<-heq];unfold zA;rw [if_neg hb,hu];rfl) rfl aD au)
 refine ag rfl (a8 (aA rfl λK2 aM=>sH 0 hr.dn (by decide) rfl rfl rfl rfl rfl (aj rfl (ah (aM _ ?_)))));cases w with
 | empty =>
  refine ir rfl (ag rfl (aA rfl λK3 bu=>b6 (.v (ak.leaf p).val) rfl (qk (q:=tD p) rfl II rfl rfl) (aj rfl (ah (bu _ ?_)))));exact aJ (bE () rfl aD au)
 | hid h =>
  refine dY rfl (aA rfl λK3 bu=>sH (W:=.hid h) 3 hr.dn (by decide) rfl rfl rfl rfl rfl (aj rfl (ah (bu _ (ir rfl (ag rfl (ag rfl ?_)))))));exact aJ (bE () rfl aD au)
 | leaf q =>
  have hq:lW q:=hr.dn;refine dY rfl (aA rfl λK3 bu=>sH (W:=.leaf q) 3 hr.dn (by decide) rfl rfl rfl rfl rfl (aj rfl (ah (bu _ (dY rfl (aA rfl λK4 bW=>sH (W:=.leaf q) 1 hr.dn (by decide) rfl rfl rfl rfl rfl (aj rfl (ah (bW _ (ir rfl (ag rfl (ao λK5 bN=>aA rfl λK6 cr=>b6 (.b (decide (q.1=p.1))) rfl (F6 rfl rfl rfl dp (by kernel_rfl) hq.1 hp.1) (ah (cr _ ?_))))))))))))));refine bn (q.1=p.1) rfl (λhe=>?_) (λhe=>?_)
  .refine aA rfl λK7 df=>?_;refine b6 (.v (ak.leaf p).val) rfl (qk (q:=tD p) rfl II rfl rfl) (aj rfl (ah (df _ ?_)));exact aJ (dk an () rfl rfl (by show yc p way.length (.leaf q)=_;unfold yc;rw [My];show FL false (if q.1=p.1 then _ else _)=_;rw [if_pos he];rfl) rfl aD au)
  refine aR (bN _ ?_)
  obtain⟨m,rfl⟩:∃m,n=m+1:=⟨n-1,by
   by_cases e0:n=0
   .subst e0;have:=iO.share hr.2.2 hk;rw [show way.length=256 by omega] at this;exact absurd (this.all hq.1 hp.1) he
   .omega⟩
  have JY:D=way.length:=by omega
  have al:way.length<256:=by omega
  have aIJ:=sj q.1 way.length;refine QD 6 λG S w0 aa=>fa an aa rfl (Ak 42 (way.length:Int) rfl (by rw [JY]) (rG (F':=λ_=>True) aa [(aw 32 q.1).den,.int .u8 (way.length:Int)] rfl Iu rfl rfl (λ_=>rfl) (IZ hq.1 way.length al) trivial (λ_ _ _ _=>trivial) (fa an aa rfl (oZ (.v (ak.leaf q).val) rfl (qk (q:=.p (ak.leaf q).ai) rfl II rfl rfl) (p1 aa ?_)))))
  by_cases Di:b7 q.1 way.length=0
  .refine ca 43 0 rfl (by rw [Di];rfl) ?_;refine b6 (.a 8 (0+1*0)) rfl (eO 0 rfl rQ rfl rfl rfl (by decide)) (tC (uT (.leaf q) .empty) rfl rfl rfl rfl rfl rfl rfl (ak.xe (.leaf q)) (ak.val_one (.leaf q)) (show _<2 by decide) (CG _ _) rfl ?_);exact ah (ll (.leaf q) .empty ⟨hq.1,hq.2,iO.more.2 ⟨hr.2.2,Di⟩⟩ trivial (ay3 (n:=m) (by omega) he Di) JY m rfl _ (fC rfl rfl rfl λ_ h _=>h))
  .refine ca 43 1 rfl (by rw [show b7 q.1 way.length=1 by omega];rfl) ?_;refine b6 (.a 8 (0+1*1)) rfl (eO 1 rfl rQ rfl rfl rfl (by decide)) (tC (uT .empty (.leaf q)) rfl rfl rfl rfl rfl rfl rfl (ak.xe (.leaf q)) (ak.val_one (.leaf q)) (show _<2 by decide) (CG _ _) rfl ?_);exact ah (ll .empty (.leaf q) trivial ⟨hq.1,hq.2,iO.more.2 ⟨hr.2.2,by omega⟩⟩ (ay4 (n:=m) (by omega) he Di) JY m rfl _ (fC rfl rfl rfl λ_ h _=>h))
 | inner x y =>
  have uz:=hr.dn;obtain⟨al,hx,hy,_⟩:=hr;refine dY rfl (aA rfl λK3 bu=>sH (W:=.inner x y) 3 uz (by decide) rfl rfl rfl rfl rfl (aj rfl (ah (bu _ (dY rfl (aA rfl λK4 bW=>sH (W:=.inner x y) 1 uz (by decide) rfl rfl rfl rfl rfl (aj rfl (ah (bW _ (dY rfl (aA rfl λK5 bN=>sH (W:=.inner x y) 2 uz (by decide) rfl rfl rfl rfl rfl (aj rfl (ah (bN _ (ir rfl (ag rfl (cE rfl ?_)))))))))))))))));obtain⟨m,rfl⟩:∃m,n=m+1:=⟨n-1,by omega⟩;exact ll x y hx hy (ay2 p way.length x y) (by omega) m rfl _ (fC rfl rfl rfl λ_ h _=>h)
def axJ(tW:Bool)(w:ak):cM:=match tW with
  | true=>.t [gU .empty,.c (.v (.int .i64 100))]
  | false=>.t [gU w,.c (.v (.int .i64 0))]
theorem aF0{p:dD}(hp:lW p)(w:ak)(hr:w.jj []):Spec 85 [(gU w).den,(aw 32 p.1).den,(aw 32 p.2).den] [] fV (one (axJ (ak.tW p.1 0 w) (ak.put p 0 w))):=by
 refine bA [gU w,aw 32 p.1,aw 32 p.2] 25 func85 rfl (ab:=uP (DS w) (dZ (cq hp.1).1 (cq hp.2).1)) λb=>?_;have ix:=aFX hp 256 w [] rfl hr (iO.nil _);replace ix:Spec 115 [w.val,(tD p).den,.int .u8 0] [] fV (one (FL (ak.tW p.1 0 w) (ak.put p 0 w))):=ix;generalize ak.tW p.1 0 w=u at *;generalize ak.put p 0 w=w' at *;refine ag rfl ?_;cases u with
 | true =>
  refine rT 11 λK1 aS G S w0 aa=>fa an aa rfl (rG (F':=λ_=>True) aa [(gU w).den] rfl LM rfl rfl (λ_=>rfl) (MG w) trivial (λ_ _ _ _=>trivial) (fa an aa rfl (rG (F':=fV) aa [(aw 32 p.1).den,(aw 32 p.2).den] rfl (λ_ _=>by go_simp) rfl rfl (λ_=>rfl) (WQ hp) (ak.wZ (w:=.leaf p) hp) (λ_ _ _ ab=>ab.fact) (rG (F':=fV) aa [w.val,(tD p).den,.int .u8 0] rfl Iy rfl rfl (λ_=>rfl) ix (acE _ _) (λ_ _ _ ab=>ab.fact) (fa an aa rfl (p1 aa (aj rfl (ah (aS _ (ao λK5 bN=>ag rfl ?_))))))))));refine bn ((100:Int)≠0) rfl (λ_=>?_) (λh=>absurd (by decide) h);refine ag rfl ?_;exact aJ (bE () rfl aD au)
 | false =>
  refine rT 11 λK1 aS G S w0 aa=>fa an aa rfl (rG (F':=λ_=>True) aa [(gU w).den] rfl LM rfl rfl (λ_=>rfl) (MG w) trivial (λ_ _ _ _=>trivial) (fa an aa rfl (rG (F':=fV) aa [(aw 32 p.1).den,(aw 32 p.2).den] rfl (λ_ _=>by go_simp) rfl rfl (λ_=>rfl) (WQ hp) (ak.wZ (w:=.leaf p) hp) (λ_ _ _ ab=>ab.fact) (rG (F':=fV) aa [w.val,(tD p).den,.int .u8 0] rfl Iy rfl rfl (λ_=>rfl) ix (acE _ _) (λ_ _ _ ab=>ab.fact) (fa an aa rfl (p1 aa (aj rfl (ah (aS _ (ao λK5 bN=>ag rfl (bn ((0:Int)≠0) rfl (λh=>absurd rfl h) (λ_=>aR (bN _ (aA rfl λK6 cr=>bY [w'.val] rfl (WV w') aD λ_=>aj rfl (ah (cr _ ?_))))))))))))))));exact aJ (bE () rfl aD au)
structure cP where
  A:aO
  c:Nat
  l:ae
  e:Nat
namespace cP
def ai(s:cP):cJ:=[.one (.v (.slice s.A s.l.length s.c)),.one (.v (.int .i64 (s.e:Int)))]
def rd(s:cP)(w:yp):Prop:=ar 1 aY s.A s.c s.l w
instance{s:cP}:dc s.rd:=⟨λ_ _ h hb=>ar.later h hb⟩
def fail(s:cP)(x:Nat):cP:=⟨s.A,s.c,s.l,if s.e=0 then x else s.e⟩
def cut(s:cP)(n:Nat):cP:=⟨pT s.A s.c n,s.c-n,s.l.drop n,s.e⟩
def aeM{s:cP}{n:Nat}{w:yp}(h:s.rd w)(hn:n<=s.l.length):(s.cut n).rd w:=ar.part h hn
def BK{s:cP}{x:Nat}(h:s.e≠0):s.fail x=s:=by unfold fail;rw [if_neg h]
def Ai{s:cP}{x:Nat}(h:s.e=0):s.fail x=⟨s.A,s.c,s.l,x⟩:=by unfold fail;rw [if_pos h]
end cP
abbrev fY(g:Nat)(s:cP):fS:=rq g 210 s.ai
abbrev gN(g:Nat):yl:=.pointer (some ⟨g,0,none⟩)
def Iv:Own 112:=λ_ _=>by go_simp
def I1(g:Nat)(s:cP)(x:Nat):Spec 112 [gN g,.int .i64 (x:Int)] [fY g s] (λ_=>True) { ret:=λ_:Unit=>.t [],own:=λ_=>[fY g (s.fail x)] }:=by
 refine bA [.c (.v (gN g)),.c (.v (.int .i64 (x:Int)))] 13 func112 rfl λb=>aA rfl λK hK=>gE rfl (sT 0 rfl) (aj rfl (ah (hK _ ?_)));refine bn ((s.e:Int)=0) rfl (λh0=>?_) (λh0=>?_)
 .refine ef ?_;refine aj rfl (FD an 0 rfl rfl rfl rfl rfl rfl rfl ?_);exact ah (dk an () rfl rfl rfl (by rw [cP.Ai (by omega)];rfl) aD au)
 .exact aR (dk an () rfl rfl rfl (by rw [cP.BK (by omega)]) aD au)
def cP.can(s:cP)(n:Nat):Prop:=s.e=0/\n<=s.l.length
def aj1(g:Nat)(s:cP)(n:Nat)(h:s.can n):Spec 194 [gN g,.int .i64 (n:Int)] [fY g s] s.rd { ret:=λ_:Unit=>.v (.slice s.A n s.c),own:=λ_=>[fY g (s.cut n)] }:=by obtain⟨A,c,l,e⟩:=s;obtain⟨he,hn⟩:=h;dsimp only at he hn;subst he;refine bA [.c (.v (gN g)),.c (.v (.int .i64 (n:Int)))] 36 func194 rfl λb=>?_;refine lQ (l.length<=c/\(A=none->c=0)) (λw hw _=>⟨hw.1,hw.2.2.1⟩) λ⟨N9,hA⟩=>?_;refine ag rfl (ao λK hK=>aA rfl λK1 aS=>gE rfl (sT 0 rfl) (aj rfl (ah (aS _ (bn ((l.length:Int)<(n:Int)) rfl (λh0=>absurd h0 (by omega)) (λ_=>aR (hK _ (ao λK2 aM=>aA rfl λK3 bu=>gE rfl (sT 0 rfl) (aj rfl (ah (bu _ (bn (((0:Nat):Int)≠0) rfl (λh0=>absurd rfl h0) (λ_=>aR (aM _ (aA rfl λK4 bW=>gE rfl (sT 0 rfl) (aj rfl (b6 (.v (.slice A n c)) rfl (Me (sz:=1) (by kernel_rfl) (by omega) hA rfl mP rfl rfl) (aj rfl (ah (bW _ (aA rfl λK5 bN=>gE rfl (sT 0 rfl) (aj rfl (b6 (.v (.slice (pT A c n) (l.length-n) (c-n))) rfl (Mf hn N9 hA rfl rfl rfl) (aj rfl (FD an 0 rfl rfl rfl rfl rfl rfl rfl (ah (bN _ (ag rfl ?_))))))))))))))))))))))))))));exact aJ (dk an () rfl rfl rfl (by show [rq g _ [.one (.v (.slice (pT A c n) (l.drop n).length (c-n))),_]]=_;rw [k7];rfl) aD au)
def aj0(g:Nat)(s:cP)(n:Nat)(h:¬s.can n):Spec 194 [gN g,.int .i64 (n:Int)] [fY g s] (λ_=>True) { ret:=λ_:Unit=>.v (.slice none 0 0),own:=λ_=>[fY g (s.fail 10)] }:=by
 refine bA [.c (.v (gN g)),.c (.v (.int .i64 (n:Int)))] 36 func194 rfl λb=>ag rfl (ao λK hK=>aA rfl λK1 aS=>gE rfl (sT 0 rfl) (aj rfl (ah (aS _ ?_))));have b8:(s.fail 10).e≠0:=by
  show(if s.e=0 then 10 else s.e)≠0;split
  .decide
  .assumption
 have ll:∀en,gj en ⟨[(0,.v (gN g)),(4,.v (.slice none 0 0))],[],[fY g (s.fail 10)],λ_=>True,λ_=>True⟩->cl b K 36 en:=by intro en hw;refine ft hw (hK _ (ao λK2 aM=>aA rfl λK3 bu=>gE rfl (sT 0 rfl) (aj rfl (ah (bu _ ?_)))));refine bn (((s.fail 10).e:Int)≠0) rfl (λh0=>?_) (λh0=>absurd (by omega) h0);refine ag rfl ?_;exact aJ (bE () rfl aD au)
 refine bn ((s.l.length:Int)<(n:Int)) rfl (λh0=>?_) (λh0=>?_)
 .refine ef ?_;refine aj rfl (dz ([fY g s]++[]) rfl (er [gN g,.int .i64 10] (hf:=Iv) rfl (I1 g s 10) aD λ_=>?_));exact ah (ll _ ⟨dB rfl, trivial, .refl _,aD, au⟩)
 .have he:s.e≠0:=λe=>h ⟨e,by omega⟩;exact aR (ll _ ⟨⟨rfl,rfl,trivial⟩,trivial,by rw [cP.BK he],aD, au⟩)
theorem cP.am9{s:cP}(h:s.can 1):∃x r,s.l=x::r:=by
 obtain⟨_,h⟩:=h;cases hl:s.l with
 | nil=>rw [hl] at h;exact absurd h (by decide)
 | cons x r=>exact⟨x,r,rfl⟩
def Qk:=@underlying302
def aFL(g:Nat)(s:cP){x:UInt8}{r:ae}(h:s.can 1)(hx:s.l=x::r):Spec 149 [gN g] [fY g s] s.rd { ret:=λ_:Unit=>.v (.int .u8 (x.toNat:Int)),own:=λ_=>[fY g (s.cut 1)] }:=by
 refine bA [.c (.v (gN g))] 10 func149 rfl λb=>ag rfl (ag rfl (ao λK hK=>?_));refine lv [0,1] 3 1 (λ_=>True) rfl aD ?_;refine kp (.s 3 0 1 1) 0 rfl rfl rfl (nv rfl Qk rfl rfl) (cK (L0:=[]) 1 rfl (λ_ h=>by cases h) (λ_ _ _ h=>by cases h) ?_);refine eN 2 rfl λK1 aS=>?_;refine dz ([fY g s]++[]) rfl (er [gN g,.int .i64 1] rfl (aj1 g s 1 h) (λ_ h _=>h) λ_=>ah (aS _ aD (kQ [3] rfl ?_)));refine H7 (A:=s.A) (c:=s.c) (z:=[0]) (l:=[x]) rfl rfl rfl rfl rfl rfl (aQ 1) (dX λw h _=>?_) ?_
 .have h2:s.rd w:=h.2;have:=h2.take 1;rw [hx] at this;exact this
 refine ah (hK _ (aA rfl λK2 aM=>b6 (.a 3 (0+1*0)) rfl (eO 0 rfl Qk rfl rfl rfl (by decide)) (jq (.v (.int .u8 (x.toNat:Int))) rfl (jV _ rfl rfl rfl rfl nu rfl) (aj rfl (ah (aM _ ?_))))));exact aJ (bE () rfl aD au)
def aFK(g:Nat)(s:cP)(h:¬s.can 1):Spec 149 [gN g] [fY g s] (λ_=>True) { ret:=λ_:Unit=>.v (.int .u8 0),own:=λ_=>[fY g (s.fail 10)] }:=by refine bA [.c (.v (gN g))] 10 func149 rfl λb=>?_;refine ag rfl (ag rfl (ao λK hK=>?_));refine lv [0,1] 3 1 (λ_=>True) rfl aD ?_;refine kp (.s 3 0 1 1) 0 rfl rfl rfl (nv rfl Qk rfl rfl) (cK (L0:=[]) 1 rfl (λ_ h=>by cases h) (λ_ _ _ h=>by cases h) ?_);refine eN 2 rfl λK1 aS=>?_;refine dz ([fY g s]++[]) rfl (er [gN g,.int .i64 1] rfl (aj0 g s 1 h) aD λ_=>ah (aS _ aD (kQ [3] rfl (H7 (A:=none) (c:=0) (z:=[0]) (l:=[]) rfl rfl rfl rfl rfl rfl (by decide) (dX λw _ _=>ar.nil _ _ _) (ah (hK _ (aA rfl λK2 aM=>b6 (.a 3 (0+1*0)) rfl (eO 0 rfl Qk rfl rfl rfl (by decide)) (jq (.v (.int .u8 0)) rfl (jV _ rfl rfl rfl rfl nu rfl) (aj rfl (ah (aM _ ?_)))))))))));exact aJ (bE () rfl aD au)
def aFF(g:Nat)(s:cP)(h:s.can 32):Spec 152 [gN g] [fY g s] s.rd { ret:=λ_:Unit=>.q (aw 32 (s.l.take 32)),own:=λ_=>[fY g (s.cut 32)] }:=by
 refine bA [.c (.v (gN g))] 9 func152 rfl λb=>?_;have hl:(s.l.take 32).length=32:=by rw [du];have:=h.2;omega
 refine ag rfl (ag rfl (ao λK hK=>?_));refine lv [0,1] 3 1 (λ_=>True) rfl aD ?_;refine kp (.s 3 0 32 32) 0 rfl rfl rfl (nv rfl dp rfl rfl) (cK (L0:=[]) 1 rfl (λ_ h=>by cases h) (λ_ _ _ h=>by cases h) ?_);refine eN 2 rfl λK1 aS=>?_;refine dz ([fY g s]++[]) rfl (er [gN g,.int .i64 32] rfl (aj1 g s 32 h) (λ_ h _=>h) λ_=>ah (aS _ aD (kQ [3] rfl ?_)));refine H7 (A:=s.A) (c:=s.c) (z:=dx) (l:=s.l.take 32) rfl rfl rfl (by rw [hl];rfl) rfl rfl (by rw [hl];exact aQ _) (dX λw h _=>?_) ?_
 .have h2:s.rd w:=h.2;exact h2.take 32
 rw [hl,show dx.drop 32=[] from rfl,fj];refine ah (hK _ (ag rfl ?_));exact aJ (bE () rfl aD au)
def aFE(g:Nat)(s:cP)(h:¬s.can 32):Spec 152 [gN g] [fY g s] (λ_=>True) { ret:=λ_:Unit=>.q (aw 32 dx),own:=λ_=>[fY g (s.fail 10)] }:=by refine bA [.c (.v (gN g))] 9 func152 rfl λb=>?_;refine ag rfl (ag rfl (ao λK hK=>?_));refine lv [0,1] 3 1 (λ_=>True) rfl aD ?_;refine kp (.s 3 0 32 32) 0 rfl rfl rfl (nv rfl dp rfl rfl) (cK (L0:=[]) 1 rfl (λ_ h=>by cases h) (λ_ _ _ h=>by cases h) ?_);refine eN 2 rfl λK1 aS=>?_;refine dz ([fY g s]++[]) rfl (er [gN g,.int .i64 32] rfl (aj0 g s 32 h) aD λ_=>ah (aS _ aD (kQ [3] rfl (H7 (A:=none) (c:=0) (z:=dx) (l:=[]) rfl rfl rfl rfl rfl rfl (by decide) (dX λw _ _=>ar.nil _ _ _) (ah (hK _ (ag rfl ?_)))))));exact aJ (bE () rfl aD au)
def ov(s d:Nat)(l:dm):dm:=l.filter λx=>b7 x.1 d==s
def sX(s d:Nat)(l:aX):aX:=l.filter λx=>b7 x d==s
def ag3(d:Nat)(l:dm):ov 1 d l=dd d l:=List.filter_congr λx _=>by
 have:=sj x.1 d;rcases Nat.lt_or_ge (b7 x.1 d) 1 with h|h
 .simp [show b7 x.1 d=0 by omega]
 .simp [show b7 x.1 d=1 by omega]
def aB3(d:Nat)(l:aX):sX 1 d l=ak.x9 d l:=List.filter_congr λx _=>by
 have:=sj x d;rcases Nat.lt_or_ge (b7 x d) 1 with h|h
 .simp [show b7 x d=0 by omega]
 .simp [show b7 x d=1 by omega]
theorem ak.Em:∀(n:Nat) {d:Nat} {l:dm} {ks:aX},(∀p∈l,lW p)->(ak.cut n d l ks).bytes.length<=(70+2*n)*l.length+1
 | n,d,[],_,_=>by cases n<;>exact Nat.le_add_left _ _
 | n,d,p::l,[],_=>by
  have e:(ak.cut n d (p::l) []).bytes.length=33:=by cases n<;>(show(iw _ _).length+1=33;rw [Qu])
  rw [e,fL,Nat.mul_succ];omega
 | n,d,[p],k::ks,h=>by
  have hp:=h p eh;have e:(ak.cut n d [p] (k::ks)).bytes.length=65:=by cases n<;>(show(1::(p.1++p.2)).length=65;rw [fL,aV,hp.1,hp.2])
  rw [e];show 65<=(70+2*n)*1+1;omega
 | 0,d,p::q::l,k::ks,_=>by show 1<=_;omega
 | n+1,d,p::q::l,k::ks,h=>by
  have h1:=Em n (d:=d+1) (l:=dh d (p::q::l)) (ks:=ak.zl d (k::ks)) λx hx=>h x (Ci.1 hx).1;have h2:=Em n (d:=d+1) (l:=dd d (p::q::l)) (ks:=ak.x9 d (k::ks)) λx hx=>h x (BN.1 hx).1;have h3:=ak.J9 d (p::q::l);show(2::((ak.cut n (d+1) (dh d (p::q::l)) (ak.zl d (k::ks))).bytes++(ak.cut n (d+1) (dd d (p::q::l)) (ak.x9 d (k::ks))).bytes)).length<=_;rw [fL,aV,<-h3];have h4:2<=(dh d (p::q::l)).length+(dd d (p::q::l)).length:=by rw [h3];simp
  generalize (dh d (p::q::l)).length=a at *;generalize (dd d (p::q::l)).length=b at *;have e:(70+2*(n+1))*(a+b)=(70+2*n)*a+(70+2*n)*b+2*(a+b):=by rw [show 70+2*(n+1)=(70+2*n)+2 by omega,Nat.add_mul,Nat.mul_add]
  rw [e];omega
theorem amP{n d:Nat}{l:dm}{ks:aX}(h:2<=l.length)(hk:ks≠[]):ak.cut (n+1) d l ks = .inner (ak.cut n (d+1) (ov 0 d l) (sX 0 d ks)) (ak.cut n (d+1) (ov 1 d l) (sX 1 d ks)):=by
 rw [ag3,aB3]
 match l,ks,h,hk with
 | p::q::l,k::ks,_,_=>rfl
def aeN{g o c i:Nat}{l:dm}{p:dD}{w:yp}(h:ar 64 kf (some ⟨g,o,none⟩) c l w)(hi:l[i]?=some p)(hp:lW p):ar 1 aY (some ⟨g,o+64*i+0,none⟩) 32 p.1 w/\ar 1 aY (some ⟨g,o+64*i+32,none⟩) 32 p.2 w:=by
 obtain⟨_,_,_,_,h5⟩:=h;obtain⟨b',o',e,hb,hr⟩:=h5 (nc (bl _) (eY.1 hi).1);injection e with e;injection e with e1 e2;subst e1 e2;have hr:=hr i p hi;rw [Ym] at hr;have qc:(By p.1).length=32:=by rw [dH];exact hp.1
 have key:∀(m:ae) (a:Nat),w.rangeAt g a (By m)->m.length=32->ar 1 aY (some ⟨g,a,none⟩) 32 m w:=λm a hm hl=>by
  refine⟨vF hl,by decide,λh=>(by cases h),mK m,λ_=>⟨g,a,rfl,hb,λi x hi j v hj=>?_⟩⟩;cases j with
  | zero =>
   have e:v = .int .u8 (x.toNat:Int):=(jm ((show(aY x).cp[0]?=some (.int .u8 (x.toNat:Int)) from rfl).symm.trans hj)).symm;obtain⟨h2,h3⟩:=eY.1 hi;have h4:=By_at? h2;rw [getElem!_pos m i h2,h3] at h4;have h5:=hm i (.int .u8 (x.toNat:Int)) (by simpa using h4);rw [e,qI,jP];exact h5
  | succ j =>
   have:(aY x).cp[j+1]?=none:=rfl;rw [this] at hj
   cases hj
 refine⟨key _ _ (L7 (A:=[]) (B:=By p.1) (Z:=By p.2) hr rfl) hp.1,?_⟩;have:=L7 (A:=By p.1) (B:=By p.2) (Z:=[]) hr (by simp);rw [qc] at this;exact key _ _ this hp.2
def aeK{n d:Nat}{l:dm}{ks:aX}{A:aO}{c:Nat}{A2:aO}{c2:Nat}(hd:d<=256)(hl:l.length<=1000)(fI:ks.length<=1000)(hs:fK l)(gR:lF d l)(hn:n+d=256)
 (ih:0<n->∀(l:dm) (ks:aX) (A:aO) (c:Nat) (A2:aO) (c2:Nat),l.length<=1000->ks.length<=1000->fK l->lF (d+1) l->Spec 29 [.slice A l.length c,.slice A2 ks.length c2,.int .i64 ((d+1:Nat):Int)] [] (λw=>ar 64 kf A c l w/\ar 32 (aw 32) A2 c2 ks w) (LB (ak.cut (n-1) (d+1) l ks).bytes)) :
  Spec 29 [.slice A l.length c,.slice A2 ks.length c2,.int .i64 (d:Int)] [] (λw=>ar 64 kf A c l w/\ar 32 (aw 32) A2 c2 ks w) (LB (ak.cut n d l ks).bytes):=by
 obtain⟨res,uE⟩:∃r,(ak.cut n d l ks).bytes=r:=⟨_,rfl⟩;rw [uE];refine bA [.c (.v (.slice A l.length c)),.c (.v (.slice A2 ks.length c2)),.c (.v (.int .i64 (d:Int)))] 91 func29 rfl λb=>?_
 refine lQ ((∀x∈l,lW x)/\∀k∈ks,k.length=32) (λ_ h _=>⟨λx hx=>Yn (h.1.2.2.2.1 x hx).1,λk hk=>by
  have:=((h.2.2.2.2.1 k hk).1 (.agg 32 (By k).toArray) (by simp [aw,aL.fA])).1
  rwa [fx,dH] at this⟩) λ⟨bx,BX⟩=>?_
 have hk:oh l:=λx hx=>(bx x hx).1;refine ag rfl (ao λK hK=>ag rfl ?_);refine bn ((l.length:Int)=0) rfl (λh0=>?_) (λh0=>?_)
 .obtain rfl:l=[]:=lB (by omega)
  obtain rfl:res=[0]:=by rw [<-uE];cases n<;>rfl
  refine aA rfl λK5 bN=>jC an b.B.heap.size [(0:UInt8)] rfl rfl rfl (λ_=>rfl) rfl (mK _) (aQ _) λA1=>aj rfl (ah (bN _ (IP 0 rfl (aQ _) ?_)));exact aJ (bE (A1,1) rfl aD (λ_ h=>h.1))
 refine aR (hK _ (ao λK1 aS=>ag rfl ?_));refine bn ((ks.length:Int)=0) rfl (λh1=>?_) (λh1=>?_)
 .obtain rfl:ks=[]:=lB (by omega)
  obtain⟨rt,qe⟩:∃x,iw (256-d) l=x:=⟨_,rfl⟩;have Ot:rt.length=32:=by rw [<-qe];exact Qu _ _
  obtain rfl:res=[3]++rt:=by
   rw [<-uE,<-qe];cases l with
   | nil=>exact absurd rfl h0
   | cons p l=>cases n<;>rfl
  have Hv:=azG (256-d) l A c (by omega) (by omega) hs (by rw [show 256-(256-d)=d by omega];exact gR);rw [qe,show 256-(256-d)=d by omega] at Hv;refine aA rfl λK5 bN=>bY [.slice A l.length c,.int .i64 (d:Int)] rfl Hv (λ_ h _=>h.1) λ_=>aj rfl (ah (bN _ (aA rfl λK6 cr=>jC an b.B.heap.size [(3:UInt8)] rfl rfl rfl (λ_=>rfl) rfl (mK _) (aQ _) λA1=>aj rfl (b6 (.s 7 0 32 32) rfl (nv rfl dp rfl rfl) (H6 (u:=.s 7 0 32 32) an 0 rt rfl rfl rfl rfl rfl (λG=>by rw [Ot];rfl) rfl rfl (Qq _ rfl rfl Ot (by decide)) (by decide) (by simp [Ot]) (by simp [Ot]) (aQ _) λA3 c3=>aj rfl (ah (cr _ (IP 0 rfl (aQ _) ?_))))))));exact aJ (bE (A3,c3) rfl aD (λ_ h=>h.1))
 refine aR (aS _ ?_);have ZY:ks≠[]:=λe=>h1 (by rw [e];rfl);refine ao λK2 aM=>ag rfl ?_;refine bn ((l.length:Int)=1) rfl (λh2=>?_) (λh2=>?_)
 .obtain⟨p,rfl⟩:∃p,l=[p]:=vL.1 (by omega)
  have hp:lW p:=bx p eh;obtain rfl:res=[1]++p.1++p.2:=by
   rw [<-uE];cases ks with
   | nil=>exact absurd rfl ZY
   | cons k ks=>cases n<;>simp [ak.cut,ak.bytes]
  refine lQ (∃g o,A=some ⟨g,o,none⟩) (λ_ h _=>by obtain⟨g,o,e,_⟩:=h.1.2.2.2.2 (by simp);exact⟨g,o,e⟩) λ⟨g,o,hA⟩=>?_;subst hA;refine aA rfl λK5 bN=>jC an b.B.heap.size [(1:UInt8)] rfl rfl rfl (λ_=>rfl) rfl (mK _) (aQ _) λA1=>aj rfl (b6 (.v (.pointer (some ⟨g,o+64*0,none⟩))) rfl (lO 0 rfl Qi rfl rfl rfl lY) (aj rfl (b6 (.v (.slice (some ⟨g,o+64*0+0,none⟩) 32 32)) rfl (zF rfl dp rfl rfl) (H6 (A2':=λ_=>some ⟨g,o+64*0+0,none⟩) (u:=.v (.slice (some ⟨g,o+64*0+0,none⟩) 32 32)) an 0 p.1 rfl rfl rfl rfl rfl (λG=>by rw [hp.1];rfl) rfl rfl (λG S w ab=>(aeN (i:=0) ab.fact.1 rfl hp).1) (by decide) (by simp [hp.1]) (by simp [hp.1]) (aQ _) λA3 c3=>aj rfl (ah (bN _ (aA rfl λK6 cr=>b6 (.v (.pointer (some ⟨g,o+64*0,none⟩))) rfl (lO 0 rfl Qi rfl rfl rfl lY) (aj rfl (b6 (.v (.slice (some ⟨g,o+64*0+32,none⟩) 32 32)) rfl (zF rfl dp rfl rfl) (H6 (A2':=λ_=>some ⟨g,o+64*0+32,none⟩) (u:=.v (.slice (some ⟨g,o+64*0+32,none⟩) 32 32)) an 0 p.2 rfl rfl rfl rfl rfl (λG=>by rw [hp.2];rfl) rfl rfl (λG S w ab=>(aeN (i:=0) ab.fact.1 rfl hp).2) (by decide) (by simp [hp.1,hp.2]) (by simp [hp.1,hp.2]) (aQ _) λA4 c4=>aj rfl (ah (cr _ (IP 0 rfl (aQ _) ?_)))))))))))));exact aJ (bE (A4,c4) rfl aD (λ_ h=>h.1))
 refine aR (aM _ ?_)
 have iJ:2<=l.length:=by omega
 have jS:d<256:=by
  by_cases e:d=256
  .subst e;have:=gR.one hs hk;omega
  .omega
 obtain⟨m,rfl⟩:∃m,n=m+1:=⟨n-1,by omega⟩;have ih:=ih (Nat.succ_pos _);rw [Nat.add_sub_cancel] at ih;have c7:∀s,(ov s d l).length<=1000:=λs=>fo (cT _ _) hl;have arL:∀s,(sX s d ks).length<=1000:=λs=>fo (cT _ _) fI;have xU:∀s,fK (ov s d l):=λs=>hs.filter _
 have arG:∀s,s<2->lF (d+1) (ov s d l):=λs h=>by
  have:s=0\/s=1:=by omega
  rcases this with rfl|rfl
  .exact gR.left
  .rw [ag3];exact gR.right
 have Oh:∀s,∀p∈ov s d l,lW p:=λs p hp=>bx p (BO.1 hp).1
 let cb:Nat->ae:=λs=>(ak.cut m (d+1) (ov s d l) (sX s d ks)).bytes
 have EH:∀s,(cb s).length<=600000:=λs=>by refine fo (ak.Em m (Oh s)) ?_;have h1:=c7 s;have h2:(70+2*m)*(ov s d l).length<=582*1000:=Nat.mul_le_mul (by omega) h1;omega
 let out:Nat->ae:=λs=>[2]++(if 1<=s then cb 0 else [])++(if 2<=s then cb 1 else [])
 have y8:∀s,s<2->out s++cb s=out (s+1):=λs h=>by
  have:s=0\/s=1:=by omega
  rcases this with rfl|rfl<;>simp [out]
 have aqX:∀s,(out s).length<=1200001:=λs=>by
  have h1:=EH 0;have h2:=EH 1;show([2]++(if 1<=s then cb 0 else [])++(if 2<=s then cb 1 else [])).length<=_;rw [aV,aV,oM];have h3:(if 1<=s then cb 0 else []).length<=600000:=by split;exact h1;exact bl _
  have h4:(if 2<=s then cb 1 else []).length<=600000:=by split;exact h2;exact bl _
  omega
 obtain rfl:res=out 2:=by rw [<-uE,amP iJ ZY];simp [out,cb,ak.bytes]
 have ih2:∀s,s<2->∀A c A2 c2,Spec 29 [.slice A (ov s d l).length c,.slice A2 (sX s d ks).length c2,.int .i64 ((d+1:Nat):Int)] [] (λw=>ar 64 kf A c (ov s d l) w/\ar 32 (aw 32) A2 c2 (sX s d ks) w) (LB (cb s)):=λs h A c A2 c2=>ih _ _ A c A2 c2 (c7 s) (arL s) (xU s) (arG s h);clear ih;refine aA rfl λK5 bN=>jC an b.B.heap.size [(2:UInt8)] rfl rfl rfl (λ_=>rfl) rfl (mK _) (aQ _) λA1=>aj rfl (ah (bN _ (ao λK6 cr=>ag rfl (a8 ?_))))
 let F:Nat×aO×Nat->Env:=λ⟨s,B,e⟩=>⟨[(10,.aT s),(9,.v (.slice B (out s).length e)),(0,.v (.slice A l.length c)),(1,.v (.slice A2 ks.length c2)),(2,.aT d)],[],[bL b.B.heap.size 5 1 aY B e (out s)],λw=>ar 64 kf A c l w/\ar 32 (aw 32) A2 c2 ks w,λ_=>True⟩
 refine cI (e':=F (0,A1,1)) (fC rfl rfl rfl λ_ h _=>h) (cY (λy=>2-y.1) F (λy=>y.1<=2) ?_ (0,A1,1) (bl _))
 rintro⟨s,B,e⟩ uH
 dsimp only at uH
 refine ao λK7 df=>ag rfl ?_;refine bn ((s:Int)<2) rfl (λal=>?_) (λcW=>?_)
 .have al:s<2:=by omega
  have ho1:=aqX s;refine aR (df _ (ao λK8 gw=>a8 (ag rfl (ag rfl (pF b.B.heap.size 120 64 kf (ao λK9 l5=>ag rfl (a8 ?_)))))));let F2:Nat×aO×Nat->Env:=λ⟨j,X,x⟩=>⟨[(52,.aT j),(51,.aT l.length),(50,.v (.slice A l.length c)),(11,.v (.slice X (ov s d (l.take j)).length x)),(12,.v (.slice none 0 0)),(10,.aT s),(9,.v (.slice B (out s).length e)),(0,.v (.slice A l.length c)),(1,.v (.slice A2 ks.length c2)),(2,.aT d)],[],[bL b.B.heap.size 120 64 kf X x (ov s d (l.take j)),bL b.B.heap.size 5 1 aY B e (out s)],λw=>ar 64 kf A c l w/\ar 32 (aw 32) A2 c2 ks w,λ_=>True⟩;refine cI (e':=F2 (0,none,0)) (fC rfl rfl rfl λ_ h _=>h) (cY (λy=>l.length-y.1) F2 (λy=>y.1<=l.length) ?_ (0,none,0) (bl _));rintro⟨j,X,x⟩ hj;dsimp only at hj;refine ag rfl (ao λK10 nV=>?_);refine bn ((j:Int)<(l.length:Int)) rfl (λuB=>?_) (λuB=>?_)
  .have uB:j<l.length:=by omega
   obtain⟨p,Hr⟩:∃y,l[j]?=some y:=⟨_,da uB⟩;have hp:=bx p (eg Hr);have hT:=QU (λx:dD=>b7 x.1 d==s) Hr;have lT:(ov s d (l.take j)).length<=1000:=fo (cT _ _) (by rw [du];omega);refine aR (nV _ (ao λK11 p8=>a8 (aA rfl λK12 sl=>jh an rfl rfl rfl j rfl Hr rfl rfl (dX λ_ h _=>h.1) (aj rfl (ah (sl _ (aA rfl λK13 wJ=>bY [.agg (By p.1).toArray,.int .i64 (d:Int)] rfl (Vz hp.1 d jS) aD λ_=>aj rfl (ah (wJ _ ?_)))))))));refine bn (((b7 p.1 d:Nat):Int)=(s:Int)) rfl (λhb=>?_) (λhb=>?_)
   .have hb:b7 p.1 d=s:=by omega
    have ps:ov s d (l.take (j+1))=ov s d (l.take j)++[p]:=by simpa [hb,ov] using hT
    refine ef (aj rfl (lq an 0 p rfl rfl rfl rfl rfl rfl rfl (JH hp) (by show(_+1)*64<=_;omega) (by omega) (aQ _) λX2 x2=>?_));rw [<-ps];refine aj rfl (ah (p8 _ (cE rfl ?_)));exact cH (j+1,X2,x2) uB (by show l.length-(j+1)<l.length-j;omega) ⟨⟨pC (by omega) (by omega),rfl,rfl,rfl,rfl,rfl,rfl,rfl,rfl,rfl,trivial⟩,trivial,.refl _,λ_ h _=>h.2, au⟩
   .have hb:b7 p.1 d≠s:=by omega
    have ps:ov s d (l.take (j+1))=ov s d (l.take j):=by simpa [hb,ov] using hT
    refine aR (p8 _ ?_);rw [<-ps];refine cE rfl ?_;exact cH (j+1,X,x) uB (by show l.length-(j+1)<l.length-j;omega) ⟨⟨pC (by omega) (by omega),rfl,rfl,rfl,rfl,rfl,rfl,rfl,rfl,rfl,trivial⟩,trivial,.refl _,λ_ h _=>h.2, au⟩
  obtain rfl:j=l.length:=by omega
  refine cG (a6 (a6 (cF (l5 _ ?_))));rw [kW];refine mQ 0 rfl (pF b.B.heap.size 47 32 (aw 32) (ao λK14 xJ=>ag rfl (a8 ?_)));let F4:Nat×aO×Nat->Env:=λ⟨j,Y,y⟩=>⟨[(69,.aT j),(68,.aT ks.length),(67,.v (.slice A2 ks.length c2)),(12,.v (.slice Y (sX s d (ks.take j)).length y)),(11,.v (.slice X (ov s d l).length x)),(10,.aT s),(9,.v (.slice B (out s).length e)),(0,.v (.slice A l.length c)),(1,.v (.slice A2 ks.length c2)),(2,.aT d)],[],[bL b.B.heap.size 47 32 (aw 32) Y y (sX s d (ks.take j)),bL b.B.heap.size 5 1 aY B e (out s)],λw=>ar 64 kf X x (ov s d l) w/\ar 64 kf A c l w/\ar 32 (aw 32) A2 c2 ks w,λ_=>True⟩;refine cI (e':=F4 (0,none,0)) (fC rfl rfl rfl λ_ h _=>h) (cY (λy=>ks.length-y.1) F4 (λy=>y.1<=ks.length) ?_ (0,none,0) (bl _));rintro⟨j,Y,y⟩ EO;dsimp only at EO;refine ag rfl (ao λK15 yR=>?_);refine bn ((j:Int)<(ks.length:Int)) rfl (λiT=>?_) (λiT=>?_)
  .have iT:j<ks.length:=by omega
   obtain⟨k,rH⟩:∃y,ks[j]?=some y:=⟨_,da iT⟩;have yW:=BX k (eg rH);have hT:=QU (λx:ae=>b7 x d==s) rH;have lT:(sX s d (ks.take j)).length<=1000:=fo (cT _ _) (by rw [du];omega);refine aR (yR _ (ao λK16 GX=>a8 (aA rfl λK17 apC=>jh an rfl rfl rfl j rfl rH rfl rfl (dX λ_ h _=>h.2.2) (aj rfl (ah (apC _ (aA rfl λK18 apD=>bY [.agg (By k).toArray,.int .i64 (d:Int)] rfl (Vz yW d jS) aD λ_=>aj rfl (ah (apD _ ?_)))))))));refine bn (((b7 k d:Nat):Int)=(s:Int)) rfl (λhb=>?_) (λhb=>?_)
   .have hb:b7 k d=s:=by omega
    have ps:sX s d (ks.take (j+1))=sX s d (ks.take j)++[k]:=by simpa [hb,sX] using hT
    refine ef (aj rfl (lq an 0 k rfl rfl rfl rfl rfl rfl rfl (cq yW) (by show(_+1)*32<=_;omega) (by omega) (aQ _) λY2 y2=>?_));rw [<-ps];refine aj rfl (ah (GX _ (cE rfl ?_)));exact cH (j+1,Y2,y2) iT (by show ks.length-(j+1)<ks.length-j;omega) ⟨⟨pC (by omega) (by omega),rfl,rfl,rfl,rfl,rfl,rfl,rfl,rfl,rfl,trivial⟩,trivial,.refl _,λ_ h _=>h.2, au⟩
   .have hb:b7 k d≠s:=by omega
    have ps:sX s d (ks.take (j+1))=sX s d (ks.take j):=by simpa [hb,sX] using hT
    refine aR (GX _ ?_);rw [<-ps];refine cE rfl ?_;exact cH (j+1,Y,y) iT (by show ks.length-(j+1)<ks.length-j;omega) ⟨⟨pC (by omega) (by omega),rfl,rfl,rfl,rfl,rfl,rfl,rfl,rfl,rfl,trivial⟩,trivial,.refl _,λ_ h _=>h.2, au⟩
  obtain rfl:j=ks.length:=by omega
  refine cG (a6 (a6 (cF (xJ _ ?_))));rw [kW];refine mQ 0 rfl (ef (aj rfl (ca 87 ((d+1:Nat):Int) rfl (jv (by omega) (by omega) (by omega)) (bY [.slice X (ov s d l).length x,.slice Y (sX s d ks).length y,.int .i64 ((d+1:Nat):Int)] rfl (ih2 s al X x Y y) (λ_ h _=>⟨h.2.1,h.1⟩) λ⟨Z,z⟩=>?_))));have dN:=EH s;obtain⟨cs,ZC⟩:∃q,cb s=q:=⟨_,rfl⟩;have EV:=y8 s al;rw [ZC] at dN EV;simp only [ZC];refine mc an 0 cs rfl rfl rfl rfl rfl rfl rfl (dX λ_ _ h=>h.1) (by show((out s).length+cs.length)*1<=_;omega) (by show(out s).length+cs.length<=_;omega) (aQ _) λB2 e2=>?_;rw [EV];refine aj rfl (ah (gw _ (cE rfl ?_)));exact cH (s+1,B2,e2) al (by show 2-(s+1)<2-s;omega) ⟨⟨pC (by omega) (by omega),rfl,rfl,rfl,rfl,trivial⟩,trivial,.refl _,λ_ h _=>h.2.2.2, au⟩
 obtain rfl:s=2:=by omega
 refine cG (a6 (a6 (cF (cr _ (ag rfl (IP 0 rfl (aQ _) ?_))))));exact aJ (bE (B,e) rfl aD (λ_ h=>h.1))
theorem ayL:∀(n:Nat) (d:Nat) (l:dm) (ks:aX) (A:aO) (c:Nat) (A2:aO) (c2:Nat),n+d=256->l.length<=1000->ks.length<=1000->fK l->lF d l ->
  Spec 29 [.slice A l.length c,.slice A2 ks.length c2,.int .i64 (d:Int)] [] (λw=>ar 64 kf A c l w/\ar 32 (aw 32) A2 c2 ks w) (LB (ak.cut n d l ks).bytes):=by
 intro n
 induction n with
 | zero=>exact λd l ks A c A2 c2 hn hl fI hs gR=>aeK (by omega) hl fI hs gR hn λh=>absurd h (Nat.lt_irrefl _)
 | succ n ih=>exact λd l ks A c A2 c2 hn hl fI hs gR=>aeK (by omega) hl fI hs gR hn λ_ l ks A c A2 c2=>ih (d+1) l ks A c A2 c2 (by omega)
def ajZ(l:ae)(i:Nat)(y:UInt8):By (l.set i y)=(By l).set i (.int .u8 (y.toNat:Int)):=List.map_set
end Go.Proofs.Q
