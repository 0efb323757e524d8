import Derived.Test.YtdinohbahfdphaaGreatDoorMe
import Derived.Test.YtdinohbahfdphaaGreatDoorMd
import Derived.Test.YtdinohbahfdphaaGreatDoorMc
open Go renaming Value->yl
open Go renaming Program->ym
open Go renaming TypeId->yn
open Go renaming Operand->yo
open Go renaming World->yp
set_option linter.defProp false
open Go.Proofs.Tryz
set_option maxRecDepth 100000
set_option maxHeartbeats 2000000
open Array renaming length_toList->bG,toList_append->dE,getElem?_append_right->rT,getElem?_append_left->rZ
open Bool renaming and_eq_false_iff->u5
open Go.Instr renaming typeAssert->mS
open Go.Op renaming equalIn->cC
open Go.Region renaming wanted->aQ
open Go.Result renaming andThen_ok->aC
open Go.Sem renaming run_bind->aG,run_pure->aI
open Go.Value renaming int->cG,iface->qQ
open Int renaming tmod_eq_emod_of_nonneg->sV
open List renaming length_append->aA,mem_singleton->aD,mem_cons->aH,getElem?_eq_getElem->aJ,mem_cons_of_mem->aK,mem_cons_self->aM,getElem?_eq_some_iff->aP,mem_of_getElem?->aR,append_assoc->aT,length_take->aV,size_toArray->aW,length_map->aX,mem_map->aZ,length_cons->a6,map_cons->bA,append_nil->bC,eq_nil_of_length_eq_zero->bE,length_singleton->bI,take_of_length_le->bJ,getElem?_append_right->bN,length_set->bV,map_append->bX,take_append_drop->b6,nil_append->cR,drop_of_length_le->cT,length_drop->cU,getElem?_append_left->cW,map_map->dB,range->dV,set_append_right->eX,take_append_of_le_length->fI,map_congr_left->fN,not_mem_nil->gB,drop_append_of_le_length->gO,getElem_mem->iF,map_nil->iK,filter->jL,filter_append->l4,length_nil->mF,getElem_append_right->mG,getElem_append_left->mO,append_eq_nil_iff->nL,mem_filter->nQ,map_eq_nil_iff->o9,range_succ->pI,length_attach->pO,cons_append->qH,attach_map_subtype_val->rW,drop_drop->sQ,mem_or_eq_of_mem_set->sT
open Nat renaming le_refl->aF,zero_le->aL,blt->aU,zero_add->aY,mod_eq_of_lt->a7,le_trans->bM,beq->bW,lt_of_lt_of_le->b9,min_eq_left->cA,add_zero->cD,mul_comm->cX,lt_of_le_of_lt->dC,sub_self->fL,add_sub_cancel_left->fM,not_lt_zero->gH,lt_succ_self->jS,le_of_eq->kA,mul_add->mD,le_succ->qS,le_add_right->rF,strongRecOn->rU
open Option renaming map_eq_some_iff->n6
open Option.some renaming inj->bQ
open UInt8 renaming ofNat->bP,toNat_ofNat'->gK
namespace Go.Proofs.Q
open Go.RowKit Go.IntWalk Nums
def isI:TypeDesc->Bool
  | .interface _=>true
  | _=>false
section
variable{P:ym}{a t ti:yn}{d:TypeDesc}{v z:yl}{w:yp}
def assert_yes(hu:P.underlying a=some d)(hd:isI d=false):(mS (.iface a v) ti a true).run P w = .ok (.tuple #[v,.bool true]) w:=by simp only [mS,aG,run_underlying hu,aC];cases d<;>first|(simp;done)|cases hd
def assert_no(hu:P.underlying a=some d)(hd:isI d=false)(ht:t≠a)(hz:(P.info? a).map (·.zero)=some (some z)):(mS (.iface t v) ti a true).run P w = .ok (.tuple #[z,.bool false]) w:=by obtain⟨j,hj,hz'⟩:=n6.1 hz;simp only [mS,aG,run_underlying hu,aC];cases d<;>first|(simp [ht,zeroValue,typeInfo,hj,hz'];done)|cases hd
def ownM(P:ym)(t:yn)(name:String)(f:FuncId):Bool:=match P.info? t,P.underlying t with
  | some i,some d=>(match i.methods.find? (·.name==name) with
    | some m=>m.path.isEmpty&&(m.func==some (f,false)) && !(match d with | .pointer _=>true|_=>false)
    | none=>false)
  | _,_=>false
end
section
variable{N:Nat}{E:SE}{o:Oper}{x y:yo}{t ti a t':yn}{d:TypeDesc}{q z:SQ}{v:yl}
def run_mkI(ho:o.op = .makeInterface t x)(hu:prog.underlying t=some d)(hd:isI d=false)(hx:evS E x=some (.q q)) :
  ∀(G:zk) (a:Act) (w:yp),Fr N (denE G E) a->(execOp a.eval o).run prog w = .ok (.value ((SV.v (.iface t q.den)).den G)) w:=λG a w ha=>by
 have h1:a.eval x=q.den:=ha.eval (evS_ok hx)
 unfold execOp
 simp only [ho,h1,Instr.makeInterface,aG,run_underlying hu,aC]
 cases d<;>first|rfl|cases hd
def run_asYes(ho:o.op = .typeAssert x ti a true)(hu:prog.underlying a=some d)(hd:isI d=false)(hx:evS E x=some (.v (.iface a v)))(hv:v=q.den) :
  ∀(G:zk) (ac:Act) (w:yp),Fr N (denE G E) ac->(execOp ac.eval o).run prog w = .ok (.value ((SV.t [q,.c (.v (.bool true))]).den G)) w:=λG ac w ha=>by
 have h1:ac.eval x = .iface a v:=ha.eval (evS_ok hx);subst hv
 unfold execOp
 simp only [ho,h1,assert_yes hu hd,aG,aC,aI]
 rfl
def run_asNo(ho:o.op = .typeAssert x ti a true)(hu:prog.underlying a=some d)(hd:isI d=false)(hx:evS E x=some (.v (.iface t v)))(ht:t≠a)(hz:(prog.info? a).map (·.zero)=some (some z.den)) :
  ∀(G:zk) (ac:Act) (w:yp),Fr N (denE G E) ac->(execOp ac.eval o).run prog w = .ok (.value ((SV.t [z,.c (.v (.bool false))]).den G)) w:=λG ac w ha=>by
 have h1:ac.eval x = .iface t v:=ha.eval (evS_ok hx)
 unfold execOp
 simp only [ho,h1,assert_no hu hd ht hz,aG,aC,aI]
 rfl
def run_eqNilI(ms:Array (String×yn))(hu:prog.underlying ti=some (.interface ms))(ho:o.op = .binOp .eql ti x (.const .nilIface) t')(hx:evS E x=some (.v (.iface t v))) :
  ∀(G:zk) (ac:Act) (w:yp),Fr N (denE G E) ac->(execOp ac.eval o).run prog w = .ok (.value ((SV.v (.bool false)).den G)) w:=λG ac w ha=>by
 have h1:ac.eval x = .iface t v:=ha.eval (evS_ok hx)
 unfold execOp
 simp only [ho,h1]
 go_simp
 rfl
def run_eqNilN(ms:Array (String×yn))(hu:prog.underlying ti=some (.interface ms))(ho:o.op = .binOp .eql ti x (.const .nilIface) t')(hx:evS E x=some (.v .nilIface)) :
  ∀(G:zk) (ac:Act) (w:yp),Fr N (denE G E) ac->(execOp ac.eval o).run prog w = .ok (.value ((SV.v (.bool true)).den G)) w:=λG ac w ha=>by
 have h1:ac.eval x = .nilIface:=ha.eval (evS_ok hx)
 unfold execOp
 simp only [ho,h1]
 go_simp
 rfl
end
theorem run_method{P:ym}{t:yn}{v:yl}{name:String}{f:FuncId}{fuel:Nat}{w:yp}(h:ownM P t name f=true):(method (fuel+1) t v name).run P w = .ok (f,v) w:=by
 unfold ownM at h;cases hi:P.info? t with
 | none=>rw [hi] at h;cases h
 | some i =>
  cases hu:P.underlying t with
  | none=>rw [hi,hu] at h;cases h
  | some d =>
   rw [hi,hu] at h
   dsimp only at h
   cases hm:i.methods.find? (·.name==name) with
   | none=>rw [hm] at h;cases h
   | some m =>
    rw [hm] at h;simp only [Bool.and_eq_true,beq_iff_eq,Bool.not_eq_true',Array.isEmpty_iff] at h;obtain⟨⟨h1,h2⟩,h3⟩:=h
    have hti:∀w,(typeInfo t).run P w = .ok i w:=λw=>by simp [typeInfo,hi]
    have hrc:∀w wr,(receiverAt t (.val v) false wr).run P w = .ok v w:=λw wr=>by unfold receiverAt;simp only [run_underlying hu,aG,aC];cases d<;>first|rfl|cases h3
    unfold method
    simp only [aG,hti,aC,hm];rw [h1];simp only [follow,aI,aC,h2,aG,hrc]
def run_callI{a:Act}{o:Oper}{f:FuncId}{x:yo}{name:String}{xs:zg}{ats:zf}{t:yn}{v:yl}(hf:Own f)(hm:ownM prog t name f=true)(ho:o.op = .call { callee:=.invoke x name,args:=xs,argTypes:=ats })(hx:a.eval x = .iface t v)(w:yp) :
  (execOp a.eval o).run prog w = .ok (.enter f (#[v]++xs.map a.eval)) w:=by
 obtain⟨dst,op,ty,pos,af,gd⟩:=o;simp only at ho;subst ho;have h:=hf (#[v]++xs.map a.eval) w;have h2:∀fuel w,(method (fuel+1) t v name).run prog w = .ok (f,v) w:=λfuel w=>run_method hm
 have e0:(#[qQ t v]++xs.map a.eval)[0]?=some (.iface t v):=by rw [rZ (show 0<1 from Nat.zero_lt_one)];rfl
 have e1:(#[qQ t v]++xs.map a.eval).extract 1 (#[qQ t v]++xs.map a.eval).size=xs.map a.eval:=by apply Array.toList_inj.1;rw [Array.toList_extract,dE,<-bG,dE];show List.take (([qQ t v]++(Array.map a.eval xs).toList).length-1) (Array.map a.eval xs).toList=_;exact bJ (by rw [aA,bI];omega)
 have h3:=λw=>h2 (prog.types.size+99) w
 unfold execOp
 simp only [resolve,hx,aG,aI,aC]
 unfold invoke
 dsimp only
 rw [e0]
 dsimp only
 rw [e1]
 unfold callMethod
 dsimp only
 generalize prog=P at *;simp only [aG,run_program,aC];rw [show P.types.size+Made.depth=P.types.size+99+1 from rfl,h3];exact h
section
variable{b:Base}{ops:zp}{Q:zx}{N:Nat}{E:SE}{L:ze}{R R' own:zd}{F M F':zv}{o:Oper}{rest:zo}{k:Nat}{α:Type}{post:Post α}{f:FuncId}{x:yo}{name:String}{xs:zg}{ats:zf}{svs:yu}{t:yn}{v:yl}
def l_callI(args:zq)(hg:o.guard=none)(hd:o.dst=some k)(hk:aU k N=true)(hf:Own f)(ho:o.op = .call { callee:=.invoke x name,args:=xs,argTypes:=ats })(hx0:evS E x=some (.v (.iface t v)))(hm:ownM prog t name f=true)(hx:evSs E xs.toList=some svs)
 (ha:∀G:zk,(∀x∈L,∀g,x.g=some g->G x.j=g)->svs.map (SV.den G)=args)(hs:Spec f (v::args) own F' post)(hF:∀w,F w->M w->F' w)
 (hn:∀x,lS prog b ops Q N rest ⟨(k,(post.ret x).sv)::E,L,post.own x++R',λw=>post.p x w/\F w,λw=>post.n x w/\M w⟩):lS prog b ops Q N (o::rest) ⟨E,L,own++R',F,M⟩:=λa w ⟨G,S,h1,h2,h3⟩=>by
 have hr:=run_callI hf hm ho (show a.eval x = .iface t v from h1.eval (evS_ok hx0)) w;rw [map_eval (args:=(svs.map (SV.den G)).toArray) (h1.evals _ _ (by rw [evSs_ok hx])),ha G λx hx=>(h3.var x hx).2.2,show #[v]++args.toArray=(v::args).toArray by simp] at hr
 unfold wpList
 rw [if_pos (by simp [aQ,hg])];refine .inl ?_
 unfold Oper.wp
 rw [hr];simp only [Oper.upon,hd];refine(h3.callA hs hF).mono ?_
 rintro e w' ⟨x,S',rfl,hok,h4⟩
 have h5:=h1.put hk (post.ret x).den;rw [<-RV.sv_den _ G] at h5;have h6:=hn x _ w' ⟨G,S',h5,h2.cons hok,h4⟩;rw [RV.sv_den] at h6;exact h6
end
end Go.Proofs.Q
namespace Go.Proofs.Q
open Nums
inductive PW where
  | empty
  | leaf (p:PairT)
  | inner (a b:PW)
  | hid (h:zu)
namespace PW
def root:PW->zu
  | empty=>eC
  | leaf p=>jX p
  | inner a b=>gN a.root b.root
  | hid h=>h
def bytes:PW->zu
  | empty=>[0]
  | leaf p=>1::(p.1++p.2)
  | inner a b=>2::(a.bytes++b.bytes)
  | hid h=>3::h
def kind:PW->Nat
  | empty=>0
  | leaf _=>1
  | inner _ _=>2
  | hid _=>3
def find(k:zu):Nat->PW->PW
  | d,inner a b=>if cL k d=0 then find k (d+1) a else find k (d+1) b
  | _,w=>w
def tell(k:zu):PW->zu×Bool×Bool
  | leaf p=>if p.1=k then(p.2,true,false) else(eC,false,false)
  | hid _=>(eC,false,true)
  | _=>(eC,false,false)
def two:Nat->Nat->PairT->PairT->PW
  | 0,_,_,_=>empty
  | n+1,d,q,p=>if cL q.1 d=cL p.1 d then(if cL q.1 d=0 then inner (two n (d+1) q p) empty else inner empty (two n (d+1) q p)) else if cL q.1 d=0 then inner (leaf q) (leaf p) else inner (leaf p) (leaf q)
def put(p:PairT):Nat->PW->PW
  | _,empty=>leaf p
  | d,leaf q=>if q.1=p.1 then leaf p else two (256-d) d q p
  | d,inner a b=>if cL p.1 d=0 then inner (put p (d+1) a) b else inner a (put p (d+1) b)
  | _,hid h=>hid h
def bad(a b:PW):Bool:=(a.kind==0&&b.kind==0)||(a.kind==0&&b.kind==1)||(a.kind==1&&b.kind==0)
end PW
def Leads(way:zj)(k:zu):Prop:=∀i,i<way.length->cL k i=way[i]!
instance(way:zj)(k:zu):Decidable (Leads way k):=Nat.decidableBallLT way.length λi _=>cL k i=way[i]!
def Leads.nil(k:zu):Leads [] k:=λ_ h=>absurd h (gH _)
def Leads.more{way:zj}{k:zu}{b:Nat}:Leads (way++[b]) k↔Leads way k/\cL k way.length=b:=by
 constructor
 .intro h
  refine⟨λi hi=>?_,?_⟩
  .have:=h i (by rw [aA];exact b9 hi (rF _ _));rw [this,getElem!_pos (way++[b]) _ (by rw [aA];exact b9 hi (rF _ _)),mO hi,getElem!_pos way i hi]
  .have:=h way.length (by rw [aA];exact jS _);rw [this,getElem!_pos (way++[b]) _ (by rw [aA];exact jS _),mG (aF _)];simp
 .rintro⟨h1,h2⟩ i hi
  rw [aA,bI] at hi;by_cases e:i=way.length
  .subst e;rw [h2,getElem!_pos (way++[b]) _ (by rw [aA];exact jS _),mG (aF _)];simp
  .have hi:i<way.length:=by omega
   rw [h1 i hi,getElem!_pos way i hi,getElem!_pos (way++[b]) _ (by rw [aA];exact b9 hi (rF _ _)),mO hi]
def Leads.share{way:zj}{k m:zu}(h1:Leads way k)(h2:Leads way m):mA way.length k m:=λn hn=>(h1 n hn).trans (h2 n hn).symm
namespace PW
def Right:zj->PW->Prop
  | _,empty=>True
  | way,leaf p=>p.1.length=32/\p.2.length=32/\Leads way p.1
  | way,inner a b=>way.length<256/\Right (way++[0]) a/\Right (way++[1]) b/\bad a b=false
  | _,hid h=>h.length=32
def read:Nat->zj->zu->Except Nat (PW×zu)
  | _,_,[]=>.error 10
  | n,way,x::b =>
    if x=0 then .ok (empty,b)
    else if x=1 then(if b.length<64 then .error 10 else if Leads way (b.take 32) then .ok (leaf (b.take 32,(b.drop 32).take 32),b.drop 64) else .error 13)
    else if x=2 then(match n with
      | 0=>.error 13
      | n+1=>match read n (way++[0]) b with
        | .error e=>.error e
        | .ok (l,b1)=>match read n (way++[1]) b1 with
          | .error e=>.error e
          | .ok (r,b2)=>if bad l r then .error 13 else .ok (inner l r,b2))
    else if x=3 then(if b.length<32 then .error 10 else .ok (hid (b.take 32),b.drop 32))
    else .error 13
def parse(b:zu):Except Nat PW:=match read 256 [] b with
  | .error e=>.error e
  | .ok (w,[])=>.ok w
  | .ok _=>.error 11
theorem read_ok:∀{n:Nat} {way:zj} {b:zu} {w:PW} {rest:zu},n+way.length=256->read n way b = .ok (w,rest)->Right way w/\b=w.bytes++rest
 | _,_,[],_,_,_,h=>by unfold read at h;cases h
 | n,way,x::b,w,rest,hn,h=>by
  unfold read at h;by_cases h0:x=0
  .rw [if_pos h0] at h;injection h with h;injection h with h1 h2;subst h1 h2 h0;exact⟨trivial,rfl⟩
  rw [if_neg h0] at h;by_cases h1:x=1
  .rw [if_pos h1] at h
   by_cases hl:b.length<64
   .rw [if_pos hl] at h;cases h
   rw [if_neg hl] at h;by_cases hw:Leads way (b.take 32)
   .rw [if_pos hw] at h;injection h with h;injection h with e1 e2;subst e1 e2 h1;refine⟨⟨by rw [aV];omega,by rw [aV,cU];omega,hw⟩,?_⟩;show _=1::(b.take 32++(b.drop 32).take 32)++b.drop 64;rw [qH,aT,show b.drop 64=(b.drop 32).drop 32 by rw [sQ],b6,b6]
   .rw [if_neg hw] at h;cases h
  rw [if_neg h1] at h;by_cases h2:x=2
  .rw [if_pos h2] at h
   cases n with
   | zero=>cases h
   | succ n =>
    dsimp only at h
    cases hr:read n (way++[0]) b with
    | error e=>rw [hr] at h;cases h
    | ok u =>
     obtain⟨l,b1⟩:=u;rw [hr] at h
     dsimp only at h
     cases hr2:read n (way++[1]) b1 with
     | error e=>rw [hr2] at h;cases h
     | ok u =>
      obtain⟨r,b2⟩:=u;rw [hr2] at h
      dsimp only at h
      obtain⟨k1,k2⟩:=read_ok (by rw [aA,bI];omega) hr;obtain⟨k3,k4⟩:=read_ok (by rw [aA,bI];omega) hr2
      by_cases hb:bad l r=true
      .rw [if_pos hb] at h;cases h
      .rw [if_neg hb] at h;injection h with h;injection h with e1 e2;subst e1 e2 h2;refine⟨⟨by omega,k1,k3,by simpa using hb⟩,?_⟩;rw [k2,k4];show _=2::(l.bytes++r.bytes)++b2;simp
  rw [if_neg h2] at h;by_cases h3:x=3
  .rw [if_pos h3] at h
   by_cases hl:b.length<32
   .rw [if_pos hl] at h;cases h
   rw [if_neg hl] at h;injection h with h;injection h with e1 e2;subst e1 e2 h3;refine⟨by show(b.take 32).length=32;rw [aV];omega,?_⟩;show _=3::b.take 32++b.drop 32;rw [qH,b6]
  .rw [if_neg h3] at h;cases h
theorem read_right:∀{n:Nat} {way:zj} {w:PW} {rest:zu},n+way.length=256->Right way w->read n way (w.bytes++rest) = .ok (w,rest)
 | n,way,empty,rest,_,_=>by show read n way (0::rest)=_;unfold read;rfl
 | n,way,leaf p,rest,_,⟨h1,h2,h3⟩=>by
  show read n way (1::(p.1++p.2++rest))=_;have e1:(p.1++p.2++rest).take 32=p.1:=by rw [aT,fI (by omega),bJ (by omega)]
  have e2:(p.1++p.2++rest).drop 32=p.2++rest:=by rw [aT,gO (by omega),cT (by omega),cR]
  have e3:(p.1++p.2++rest).drop 64=rest:=by rw [show(64:Nat)=32+32 from rfl,<-sQ,e2,gO (by omega),cT (by omega),cR]
  have e4:(p.2++rest).take 32=p.2:=by rw [fI (by omega),bJ (by omega)]
  unfold read;rw [if_neg (by decide),if_pos rfl,if_neg (by rw [aA,aA];omega),e1,e2,e3,e4,if_pos h3]
 | n,way,inner a b,rest,hn,⟨h1,h2,h3,h4⟩=>by show read n way (2::(a.bytes++b.bytes++rest))=_;obtain⟨m,rfl⟩:∃m,n=m+1:=⟨n-1,by omega⟩;unfold read;rw [if_neg (by decide),if_neg (by decide),if_pos rfl];dsimp only;rw [aT,read_right (by rw [aA,bI];omega) h2];dsimp only;rw [read_right (by rw [aA,bI];omega) h3];dsimp only;rw [if_neg (by rw [h4];decide)]
 | n,way,hid h,rest,_,h1=>by have h1:h.length=32:=h1;show read n way (3::(h++rest))=_;unfold read;rw [if_neg (by decide),if_neg (by decide),if_neg (by decide),if_pos rfl,if_neg (by rw [aA];omega),fI (by omega),bJ (by omega),gO (by omega),cT (by omega),cR]
theorem parse_ok{b:zu}{w:PW}(h:parse b = .ok w):Right [] w/\b=w.bytes:=by
 unfold parse at h;cases hr:read 256 [] b with
 | error e=>rw [hr] at h;cases h
 | ok u =>
  obtain⟨x,rest⟩:=u;rw [hr] at h
  cases rest with
  | nil =>
   injection h with h
   subst h;have:=read_ok rfl hr
   rwa [bC] at this
  | cons=>cases h
def parse_bytes{w:PW}(h:Right [] w):parse w.bytes = .ok w:=by have:=read_right (rest:=[]) rfl h;rw [bC] at this;unfold parse;rw [this]
theorem root_len{way:zj}:∀{w:PW},Right way w->w.root.length=32
 | empty,_=>rfl
 | leaf _,_=>digest256_len _
 | inner _ _,_=>digest256_len _
 | hid _,h=>h
abbrev keyL(d:Nat)(ks:zy):zy:=ks.filter λk=>cL k d==0
abbrev keyR(d:Nat)(ks:zy):zy:=ks.filter λk=>cL k d != 0
def Of:Nat->za->zy->PW->Prop
  | _,l,_,empty=>l=[]
  | _,l,_,leaf p=>l=[p]
  | d,l,ks,inner a b=>d<256/\2<=l.length/\Of (d+1) (cJ d l) (keyL d ks) a/\Of (d+1) (bU d l) (keyR d ks) b
  | d,l,ks,hid h=>ks=[]/\l≠[]/\h=fS (256-d) l
theorem halves(d:Nat)(l:za):(cJ d l).length+(bU d l).length=l.length:=by
 unfold cJ bU;induction l with
 | nil=>rfl
 | cons x l ih =>
  by_cases h:cL x.1 d=0
  .simp [h] at ih ⊢;omega
  .simp [h] at ih ⊢;omega
theorem Of.root:∀{d:Nat} {l:za} {ks:zy} {w:PW},Of d l ks w->w.root=fS (256-d) l
 | _,l,_,empty,h=>by have h:l=[]:=h;subst h;exact(o5 _).symm
 | _,l,_,leaf p,h=>by have h:l=[p]:=h;subst h;exact(nC _ p).symm
 | d,l,_,inner a b,⟨h1,h2,h3,h4⟩=>by
  have e:256-d=(255-d)+1:=by omega
  rw [e,nR h2];show gN a.root b.root=_;rw [h3.root,h4.root,show 255-(255-d)=d by omega,show 256-(d+1)=255-d by omega]
 | _,_,_,hid _,h=>h.2.2
theorem Of.right:∀{way:zj} {l:za} {ks:zy} {w:PW},Of way.length l ks w->(∀p∈l,p.1.length=32/\p.2.length=32/\Leads way p.1)->Right way w
 | _,_,_,empty,_,_=>trivial
 | _,l,_,leaf p,h,hl=>hl p (by have h:l=[p]:=h;rw [h];exact aM)
 | way,l,_,inner a b,⟨h1,h2,h3,h4⟩,hl=>by
  have e:∀x:Nat,(way++[x]).length=way.length+1:=λx=>by rw [aA,bI]
  refine⟨h1,Of.right (by rw [e];exact h3) λp hp=>?_,Of.right (by rw [e];exact h4) λp hp=>?_,?_⟩
  .obtain⟨k1,k2⟩:=fZ.1 hp;obtain⟨l1,l2,l3⟩:=hl p k1;exact⟨l1,l2,Leads.more.2 ⟨l3,k2⟩⟩
  .obtain⟨k1,k2⟩:=fG.1 hp;obtain⟨l1,l2,l3⟩:=hl p k1;have:=gE p.1 way.length;exact⟨l1,l2,Leads.more.2 ⟨l3,by omega⟩⟩
  .have hs:=halves way.length l
   have hE:∀{d:Nat} {m:za} {k:zy} {w:PW},Of d m k w->(w.kind=0->m.length=0)/\(w.kind=1->m.length=1):=λ{d m k w} h=>by
    cases w with
    | empty=>have h:m=[]:=h;subst h;exact⟨λ_=>rfl,λh=>(by cases h)⟩
    | leaf p=>have h:m=[p]:=h;subst h;exact⟨λh=>(by cases h),λ_=>rfl⟩
    | inner=>exact⟨λh=>(by cases h),λh=>(by cases h)⟩
    | hid=>exact⟨λh=>(by cases h),λh=>(by cases h)⟩
   have ha:=hE h3;have hb:=hE h4;unfold bad;generalize a.kind=x at *;generalize b.kind=y at *;simp only [Bool.or_eq_false_iff,u5,beq_eq_false_iff_ne];omega
 | way,l,_,hid h,⟨_,h2,h3⟩,hl=>by
  show h.length=32;rw [h3];cases l with
  | nil=>exact absurd rfl h2
  | cons p l =>
   cases l with
   | nil=>rw [nC];exact digest256_len _
   | cons q l =>
    generalize 256-way.length=r
    cases r with
    | zero=>rfl
    | succ r=>exact digest256_len _
theorem Of.tells:∀{d:Nat} {l:za} {ks:zy} {w:PW} {k:zu},Of d l ks w->k∈ks->SortT l->tell k (find k d w)=(match nV l k with
  | some v=>(v,true,false)
  | none=>(eC,false,false))
 | _,l,_,empty,k,h,_,_=>by have h:l=[]:=h;subst h;rfl
 | _,l,_,leaf p,k,h,_,_=>by
  have h:l=[p]:=h;subst h;show(if p.1=k then _ else _)=_;by_cases e:p.1=k
  .rw [if_pos e];subst e;simp [nV]
  .rw [if_neg e];simp [nV,e]
 | d,l,ks,inner a b,k,⟨h1,h2,h3,h4⟩,hk,hs=>by
  show tell k (if cL k d=0 then find k (d+1) a else find k (d+1) b)=_;by_cases e:cL k d=0
  .rw [if_pos e,h3.tells (nQ.2 ⟨hk,by simpa using e⟩) (hs.filter _)]
   have:nV (cJ d l) k=nV l k:=by
    cases hg:nV l k with
    | some v=>exact(nF (hs.filter _)).2 (fZ.2 ⟨(nF hs).1 hg,e⟩)
    | none=>exact nG.2 λq hq=>nG.1 hg q (fZ.1 hq).1
   rw [this]
  .rw [if_neg e,h4.tells (nQ.2 ⟨hk,by simpa using e⟩) (hs.filter _)]
   have:nV (bU d l) k=nV l k:=by
    cases hg:nV l k with
    | some v=>exact(nF (hs.filter _)).2 (fG.2 ⟨(nF hs).1 hg,e⟩)
    | none=>exact nG.2 λq hq=>nG.1 hg q (fG.1 hq).1
   rw [this]
 | _,_,ks,hid _,k,h,hk,_=>by rw [h.1] at hk;cases hk
def leftT_one'{d:Nat}{p:PairT}(h:cL p.1 d=0):cJ d [p]=[p]/\bU d [p]=[]:=by simp [cJ,bU,h]
def rightT_one'{d:Nat}{p:PairT}(h:cL p.1 d≠0):cJ d [p]=[]/\bU d [p]=[p]:=by simp [cJ,bU,h]
def putT_pair{q p:PairT}(h:q.1≠p.1):dQ [q] p=[q,p]\/dQ [q] p=[p,q]:=by
 unfold dQ;split
 .exact .inl rfl
 .exact .inr rfl
theorem two_of:∀(n:Nat) {d:Nat} {q p:PairT} {ks:zy},n+d=256->q.1.length=32->p.1.length=32->q.1≠p.1->mA d q.1 p.1->Of d (dQ [q] p) ks (two n d q p)
 | 0,d,q,p,_,hn,hq,hp,hne,hs=>by
  obtain rfl:d=256:=by omega
  exact absurd (hs.all hq hp) hne
 | n+1,d,q,p,ks,hn,hq,hp,hne,hs=>by
  have h1:=gE q.1 d;have h2:=gE p.1 d;have hsort:SortT [q]:=List.pairwise_singleton _ _;have hkeys:gX [q]:=λx hx=>by rw [aD.1 hx];exact hq
  have hl2:2<=(dQ [q] p).length:=by rcases putT_pair hne with e|e<;>rw [e]<;>exact aF _
  have hL:=kO (d:=d) hsort hkeys hp;have hR:=jN (d:=d) hsort hkeys hp;have hs2:cL q.1 d=cL p.1 d->mA (d+1) q.1 p.1:=λe i hi=>by
   by_cases e2:i=d
   .rw [e2];exact e
   .exact hs i (by omega)
  unfold two;by_cases e:cL q.1 d=cL p.1 d
  .rw [if_pos e]
   by_cases e0:cL q.1 d=0
   .rw [if_pos e0];obtain⟨x1,x2⟩:=leftT_one' e0;rw [if_pos (by omega),x1] at hL;rw [if_pos (by omega),x2] at hR;exact⟨by omega,hl2,by rw [hL];exact two_of n (by omega) hq hp hne (hs2 e),hR⟩
   .rw [if_neg e0];obtain⟨x1,x2⟩:=rightT_one' e0;rw [if_neg (by omega),x1] at hL;rw [if_neg (by omega),x2] at hR;exact⟨by omega,hl2,hL,by rw [hR];exact two_of n (by omega) hq hp hne (hs2 e)⟩
  .rw [if_neg e]
   by_cases e0:cL q.1 d=0
   .rw [if_pos e0];obtain⟨x1,x2⟩:=leftT_one' e0;rw [if_neg (by omega),x1] at hL;rw [if_neg (by omega),x2] at hR;exact⟨by omega,hl2,hL,hR⟩
   .rw [if_neg e0];obtain⟨x1,x2⟩:=rightT_one' e0;rw [if_pos (by omega),x1] at hL;rw [if_pos (by omega),x2] at hR;exact⟨by omega,hl2,hL,hR⟩
theorem putT_more:∀(l:za) (p:PairT),l.length<=(dQ l p).length
 | [],_=>aL _
 | q::l,p=>by
  unfold dQ;split
  .exact Nat.succ_le_succ (putT_more l p)
  .split
   .exact aF _
   .exact qS _
theorem Of.puts:∀{d:Nat} {l:za} {ks:zy} {w:PW} {p:PairT},Of d l ks w->p.1∈ks->SortT l->gX l->p.1.length=32->d<=256->dY d (p::l)->Of d (dQ l p) ks (put p d w)
 | _,l,_,empty,p,h,_,_,_,_,_,_=>by have h:l=[]:=h;subst h;rfl
 | d,l,ks,leaf q,p,h,_,_,hk,hp,hd,hsh=>by
  have h:l=[q]:=h;subst h;show Of d (dQ [q] p) ks (if q.1=p.1 then leaf p else two (256-d) d q p);by_cases e:q.1=p.1
  .rw [if_pos e];show dQ [q] p=[p];unfold dQ;rw [if_neg (by rw [e,cY];decide),if_pos e]
  .rw [if_neg e];exact two_of _ (by omega) (hk q aM) hp e (hsh q (aK _ aM) p aM)
 | d,l,ks,inner a b,p,⟨h1,h2,h3,h4⟩,hkk,hs,hk,hp,hd,hsh=>by
  show Of d (dQ l p) ks (if cL p.1 d=0 then inner (put p (d+1) a) b else inner a (put p (d+1) b));have hL:=kO (d:=d) hs hk hp;have hR:=jN (d:=d) hs hk hp;have hl2:=bM h2 (putT_more l p);by_cases e:cL p.1 d=0
  .rw [if_pos e] at hL hR ⊢
   have hsh2:dY (d+1) (p::cJ d l):=by
    have:=hsh.left
    rwa [show cJ d (p::l)=p::cJ d l by simp [cJ,e]] at this
   exact⟨h1,hl2,by rw [hL];exact h3.puts (nQ.2 ⟨hkk,by simpa using e⟩) (hs.filter _) (hk.filter _) hp (by omega) hsh2,by rw [hR];exact h4⟩
  .rw [if_neg e] at hL hR ⊢
   have hsh2:dY (d+1) (p::bU d l):=by
    have:=hsh.right
    rwa [show bU d (p::l)=p::bU d l by simp [bU,e]] at this
   exact⟨h1,hl2,by rw [hL];exact h3,by rw [hR];exact h4.puts (nQ.2 ⟨hkk,by simpa using e⟩) (hs.filter _) (hk.filter _) hp (by omega) hsh2⟩
 | _,_,ks,hid _,p,h,hkk,_,_,_,_,_=>by rw [h.1] at hkk;cases hkk
def cut:Nat->Nat->za->zy->PW
  | _,_,[],_=>empty
  | _,d,p::l,[]=>hid (fS (256-d) (p::l))
  | _,_,[p],_::_=>leaf p
  | 0,_,_::_::_,_::_=>empty
  | n+1,d,p::q::l,k::ks=>inner (cut n (d+1) (cJ d (p::q::l)) (keyL d (k::ks))) (cut n (d+1) (bU d (p::q::l)) (keyR d (k::ks)))
theorem cut_of:∀(n:Nat) {d:Nat} {l:za} (ks:zy),n+d=256->SortT l->gX l->dY d l->Of d l ks (cut n d l ks)
 | n,d,[],_,_,_,_,_=>by cases n<;>rfl
 | n,d,p::l,[],_,_,_,_=>by cases n<;>exact⟨rfl,by simp,rfl⟩
 | n,d,[p],k::ks,_,_,_,_=>by cases n<;>rfl
 | 0,d,p::q::l,k::ks,hn,hs,hk,hsh=>by
  obtain rfl:d=256:=by omega
  have:=hsh.one hs hk;simp at this
 | n+1,d,p::q::l,k::ks,hn,hs,hk,hsh=>⟨by omega,by simp,cut_of n _ (by omega) (hs.filter _) (hk.filter _) hsh.left,cut_of n _ (by omega) (hs.filter _) (hk.filter _) hsh.right⟩
end PW
end Go.Proofs.Q
namespace Go.Proofs.Q
open Go.RowKit Go.IntWalk Nums
section
variable{α:Type}{fe:α->SQ}{l:List α}{P:ym}{T:yw}{b:Base}{ops:zp}{Q:zx}{N:Nat}{E:SE}{L:ze}{R:zd}{F M:zv}{o:Oper}{rest:zo}{k:Nat}{t e:yn}{x y z:yo}{A:zt}{lo c sz bs g:Nat}
def l_appZ{A2':zk->zt}{n c2:Nat}{u:SV}(hT:OkT P T)(i:Nat)(m:List α)(hg:o.guard=none)(hd:o.dst=some k)(hk:aU k N=true)(ho:o.op = .call { callee:=.builtin .append,args:=#[x,y],argTypes:=#[t,t] })(hs:slS T t=some (e,sz,bs))(hx:evS E x=some (.v (.slice A n c)))(hy:evS E y=some u)(hu:∀G,u.den G = .slice (A2' G) m.length c2)
 (hi:R[i]?=some (OwnS lo e sz fe A c l))(hn:n=l.length)(hrd:∀G S w,View G S L R F M w->Rd sz fe (A2' G) c2 m w)(h0:0<sz)(hb:(l.length+m.length)*bs<=140737488355328)(hm:l.length+m.length<=9223372036854775807-64)(hlo:lo<=b.B.heap.size)
 (hc:∀A' c',lS P b ops Q N rest ⟨(k,.v (.slice A' (l++m).length c'))::E,L,R.set i (OwnS lo e sz fe A' c' (l++m)),F,M⟩):lS P b ops Q N (o::rest) ⟨E,L,R,F,M⟩:=λa w ⟨G,S,f1,f2,f3⟩=>by
 have hR:=hrd G S w f3.view;obtain⟨S1,h5,hput⟩:=f3.put hi;have e1:=f1.eval (evS_ok hx);have e2:=f1.eval (evS_ok hy);rw [hu G] at e2;generalize A2' G=A2 at *;subst hn
 have key:∃A' c' w' S',(Builtin.append_ #[t,t] o.type #[.slice A l.length c,.slice A2 m.length c2]).run P w = .ok (.slice A' (l++m).length c') w'/\Chg S1 w w'/\(OwnS lo e sz fe A' c' (l++m)).holds w' S'/\∀k,S' k->k<w.heap.size->S1 k:=by
  cases hA2:A2 with
  | none =>
   have hc2:=hR.2.2.1 hA2;have hml:m=[]:=bE (by have:=hR.1;omega);subst hml;subst hc2;obtain⟨ht,ie,zz,hie,hz,hsz,hbs,hzs,_⟩:=slS_ok hT hs;have hr:=run_append_owned_none (P:=P) w lo t o.type e ie sz ht hie _ l.length (flatF fe l) h5.2.1;refine⟨A,c,w,S1,by rw [bC];exact hr,Chg.refl _ _,by rw [bC];exact h5,λ_ h _=>h⟩
  | some ad =>
   refine OwnS.grow hT (d:=c2) (ad:=ad) o.type hs h0 h5 hR.2.2.2.1 (λj v hj=>?_) hb hm (bM hlo f3.chg.size);have hlen:=flatF_len hR.2.2.2.1;have hjl:=(aP.1 hj).1
   have hml:0<m.length:=by
    rcases Nat.eq_zero_or_pos m.length with h|h
    .rw [hlen,h,Nat.zero_mul] at hjl;omega
    .exact h
   obtain⟨bb,oo,e,_,hcell⟩:=hR.2.2.2.2 hml;rw [hA2] at e
   injection e with e
   subst e
   have hq:j/sz<m.length:=by rw [hlen] at hjl;exact Nat.div_lt_of_lt_mul (by rwa [cX] at hjl)
   obtain⟨B,Z,h9,h10,_⟩:=flatF_split hR.2.2.2.1 (aJ hq);have hmod:=Nat.div_add_mod j sz;have hlt:=Nat.mod_lt j h0;have hcl:=(hR.2.2.2.1 _ (iF hq)).2
   have hv:(fe m[j/sz]).cl[j%sz]?=some v:=by
    rw [h9,bN (by omega),h10,cW (by omega)] at hj
    rwa [show j-sz*(j/sz)=j%sz by omega] at hj
   have:=hcell (j/sz) _ (aJ hq) (j%sz) v hv;rw [Addr.add_mid]
   rwa [Nat.add_assoc,hmod] at this
 obtain⟨A',c',w',S',hr,hch,ho',hS'⟩:=key;obtain⟨S'',h6⟩:=hput _ _ _ hch ho' hS'
 refine wpl_go (v:=.slice A' (l++m).length c') (w':=w') (oneS hg) (by unfold execOp;simp only [ho,resolve,invoke,builtin,aG,aI,aC,List.map_toArray,bA,iK,e1,e2,SV.den,SQ.den,SC.den,hr]) ?_
 rw [hd];exact hc A' c' _ _ ⟨G,S'',f1.put hk _,f2.cons trivial,h6⟩
end
theorem rd_part{j off n:Nat}{l:zu}{L:ze}{R:zd}{F M:zv}(ps:zb)(hj:lookL L j=some ps)(hat:atP ps off=some (.agg n (By l).toArray))(hl:l.length=n)(hm:n<=9223372036854775807):∀G S w,View G S L R F M w->Rd 1 eB (some ⟨G j,off,none⟩) n l w:=λG S w hv=>by
 obtain⟨z,hz,rfl,hps⟩:=lookL_mem hj;have hb:=(hv.var z hz).1;have hok:=(hv.var z hz).2.1;rw [hps] at hb hok;obtain⟨_,A,Z,e,hA⟩:=atP_ok hok hat;have hr:=range_of hb e;rw [hA] at hr;refine⟨kA hl,hm,λh=>(by cases h),okF_B l,λ_=>⟨G z.j,off,rfl,hb.lt,λi x hi j v hj=>?_⟩⟩;cases j with
 | zero =>
  have e:v = .int .u8 (x.toNat:Int):=(bQ ((show(eB x).cl[0]?=some (.int .u8 (x.toNat:Int)) from rfl).symm.trans hj)).symm;obtain⟨h2,h3⟩:=aP.1 hi;have h4:=By_at? h2;rw [getElem!_pos l i h2,h3] at h4;have h5:=hr i (.int .u8 (x.toNat:Int)) (by simpa [Pt.cells] using h4);rw [e,Nat.one_mul,cD];exact h5
 | succ j =>
  have:(eB x).cl[j+1]?=none:=rfl;rw [this] at hj
  cases hj
def two_succ(n d:Nat)(q p:PairT):PW.two (n+1) d q p=if cL q.1 d=cL p.1 d then(if cL q.1 d=0 then .inner (PW.two n (d+1) q p) .empty else .inner .empty (PW.two n (d+1) q p)) else if cL q.1 d=0 then .inner (.leaf q) (.leaf p) else .inner (.leaf p) (.leaf q):=rfl
structure ND where
  k:Nat
  key:zu
  val:zu
  l:Int
  r:Int
def nwPs(x:ND):zb:=[.one (.v (.int .i64 (x.k:Int))),.agg 32 (By x.key).toArray,.agg 32 (By x.val).toArray,.one (.v (.int .i64 x.l)),.one (.v (.int .i64 x.r))]
def eND(x:ND):SQ:=.p (nwPs x)
def PartF(g:Nat)(B:zt)(c:Nat)(ns:List ND)(w:yp):Prop:=ObjF g 172 [.one (.v (.slice B ns.length c))] w/\Rd 67 eND B c ns w
instance{g:Nat}{B:zt}{c:Nat}{ns:List ND}:Pst (PartF g B c ns):=inferInstanceAs (Pst λw=>ObjF g 172 [.one (.v (.slice B ns.length c))] w/\Rd 67 eND B c ns w)
def At(ns:List ND):PW->zm
  | .empty,n=>ns[n]?=some ⟨0,eC,eC, -1, -1⟩
  | .leaf p,n=>ns[n]?=some ⟨1,p.1,p.2, -1, -1⟩
  | .inner a b,n=>∃i j:Nat,ns[n]?=some ⟨2,eC,eC,i,j⟩/\At ns a i/\At ns b j
  | .hid h,n=>ns[n]?=some ⟨3,eC,h, -1, -1⟩
def PW.Good:PW->Prop
  | .empty=>True
  | .leaf p=>OkT2 p
  | .inner a b=>Good a/\Good b
  | .hid h=>h.length=32
theorem PW.Right.good:∀{way:zj} {w:PW},PW.Right way w->w.Good
 | _,.empty,_=>trivial
 | _,.leaf _,h=>⟨h.1,h.2.1⟩
 | _,.inner _ _,h=>⟨h.2.1.good,h.2.2.1.good⟩
 | _,.hid _,h=>h
theorem PW.Good.root_len:∀{w:PW},w.Good->w.root.length=32
 | .empty,_=>rfl
 | .leaf _,_=>digest256_len _
 | .inner _ _,_=>digest256_len _
 | .hid _,h=>h
namespace PW
def ty:PW->yn
  | .empty=>199
  | .leaf _=>205
  | .inner _ _=>212
  | .hid _=>201
def val:PW->yl
  | .empty=>.iface 199 (SQ.p []).den
  | .leaf p=>.iface 205 (SQ.p [.agg 32 (By (jX p)).toArray,.agg 32 (By p.1).toArray,.agg 32 (By p.2).toArray]).den
  | .inner a b=>.iface 212 (SQ.p [.agg 32 (By (gN a.root b.root)).toArray,.agg 2 #[a.val,b.val]]).den
  | .hid h=>.iface 201 (SQ.p [.agg 32 (By h).toArray]).den
def ps:PW->zb
  | .empty=>[]
  | .leaf p=>[.agg 32 (By (jX p)).toArray,.agg 32 (By p.1).toArray,.agg 32 (By p.2).toArray]
  | .inner a b=>[.agg 32 (By (gN a.root b.root)).toArray,.agg 2 #[a.val,b.val]]
  | .hid h=>[.agg 32 (By h).toArray]
def val_eq(w:PW):w.val = .iface w.ty (SQ.p w.ps).den:=by cases w<;>rfl
def val_cells(w:PW):w.val.cells = #[w.val]:=by cases w<;>rfl
def val_one(w:PW):w.val.oneCell'=true:=by cases w<;>rfl
end PW
def agg_ok{l:zu}(h:l.length=32):(Pt.agg 32 (By l).toArray).Ok:=(eY_ok h).1 _ (by simp [SQ.parts1,eY])
def sdW(a b:PW):zb:=[.agg 2 #[a.val,b.val]]
def sdW_ok(a b:PW):OkP (sdW a b):=λp hp=>by
 rw [aD.1 hp];refine⟨rfl,λv hv=>?_⟩;rcases aH.1 hv with rfl|hv
 .exact a.val_one
 .rw [aD.1 hv];exact b.val_one
theorem PW.ps_ok{w:PW}(h:w.Good):OkP w.ps:=by
 cases w with
 | empty=>intro p hp;cases hp
 | leaf p =>
  intro x hx
  simp only [PW.ps,aH,gB,or_false] at hx
  rcases hx with rfl|rfl|rfl
  .exact agg_ok (digest256_len _)
  .exact agg_ok h.1
  .exact agg_ok h.2
 | inner a b =>
  intro x hx
  rcases aH.1 hx with rfl|hx
  .exact agg_ok (digest256_len _)
  .exact sdW_ok a b x hx
 | hid l =>
  intro x hx
  rw [aD.1 hx];exact agg_ok h
def own_wbit:Own 148:=λ_ _=>by go_simp
def wbit_S{k:zu}(hk:k.length=32)(n:Nat)(hn:n<256):Spec 148 [(eY 32 k).den,.int .u8 (n:Int)] [] (λ_=>True) (one (.v (.int .u8 ((cL k n:Nat):Int)))):=by refine zQ [eY 32 k,.c (.v (.int .u8 (n:Int)))] 14 func148 rfl (by rw [ntmps148];rfl) (two_ok (eY_ok hk).1 trivial) λb=>?_;refine zA rfl (zC rfl λK hK=>?_);refine l_num 6 ((n/8:Nat):Int) rfl (wrapB (by rw [Int.tdiv_eq_ediv_of_nonneg (by omega)];omega) (by omega) (by omega)) ?_;refine l_op (.a 2 (0+1*(n/8))) trivial rfl rfl rfl (runO_ixA (n/8) rfl underlying47 rfl rfl rfl (by omega)) ?_;refine l_opV (.v (.int .u8 ((k[n/8]!).toNat:Int))) trivial rfl rfl rfl (runO_ldA _ rfl rfl rfl (row_at (by omega)) underlying5 rfl) ?_;have hlt:=(k[n/8]!).toNat_lt;have hb:cL k n=(k[n/8]!).toNat/2^(7-n%8)%2:=rfl;generalize (k[n/8]!).toNat=v at *;refine zB rfl ?_;refine l_num 11 ((7-n%8:Nat):Int) rfl (wrapB (by rw [sV (by omega)];omega) (by omega) (by omega)) ?_;refine l_op (.v (.int .u8 ((v/2^(7-n%8):Nat):Int))) trivial rfl rfl rfl (run_shr8 (by omega) rfl rfl rfl) ?_;have h2:v/2^(7-n%8)<256:=dC (Nat.div_le_self _ _) hlt;generalize v/2^(7-n%8)=z at *;refine l_op (.v (.int .u8 (bits .and .u8 (z:Int) 1))) trivial rfl rfl rfl (run_and8 rfl rfl rfl) (l_num 13 ((z%2:Nat):Int) rfl (low1T z h2) (zB rfl (zJ (hK _ ?_))));exact zP (zR zY () rfl (by decide) rfl (congrArg (λx:Nat=>RV.v (.int .u8 (x:Int))) hb) rfl (λ_ _ _=>trivial) zU)
def PW.rootF:PW->FuncId
  | .empty=>267
  | .leaf _=>271
  | .inner _ _=>273
  | .hid _=>269
def own_wroot(w:PW):Own w.rootF:=by
 cases w
 .exact λ_ _=>by unfold PW.rootF;go_simp
 .exact λ_ _=>by unfold PW.rootF;go_simp
 .exact λ_ _=>by unfold PW.rootF;go_simp
 .exact λ_ _=>by unfold PW.rootF;go_simp
def has_root(w:PW):ownM prog w.ty "witan/witness.root" w.rootF=true:=by
 cases w
 .show ownM prog 199 "witan/witness.root" 267 = true;kernel_rfl
 .show ownM prog 205 "witan/witness.root" 271 = true;kernel_rfl
 .show ownM prog 212 "witan/witness.root" 273 = true;kernel_rfl
 .show ownM prog 201 "witan/witness.root" 269 = true;kernel_rfl
theorem wroot_S{w:PW}(h:w.Good):Spec w.rootF [(SQ.p w.ps).den] [] (λ_=>True) (one (.q (eY 32 w.root))):=by
 cases w with
 | empty =>
  refine zQ [.p []] 4 func267 rfl (by rw [ntmps267];rfl) (one_ok (PW.ps_ok h)) λb=>?_;refine zA rfl (zA rfl ?_);exact zP (zG () rfl (λ_ _ _=>trivial) zU)
 | leaf p =>
  refine zQ [.p (PW.leaf p).ps] 5 func271 rfl (by rw [ntmps271];rfl) (one_ok (PW.ps_ok h)) λb=>?_;refine zA rfl (zA rfl ?_);exact zP (zG () rfl (λ_ _ _=>trivial) zU)
 | inner a b =>
  refine zQ [.p (PW.inner a b).ps] 5 func273 rfl (by rw [ntmps273];rfl) (one_ok (PW.ps_ok h)) λb=>?_;refine zA rfl (zA rfl ?_);exact zP (zG () rfl (λ_ _ _=>trivial) zU)
 | hid l =>
  refine zQ [.p (PW.hid l).ps] 5 func269 rfl (by rw [ntmps269];rfl) (one_ok (PW.ps_ok h)) λb=>?_;refine zA rfl (zA rfl ?_);exact zP (zG () rfl (λ_ _ _=>trivial) zU)
end Go.Proofs.Q
namespace Go.Proofs.Q
open Go.RowKit Go.IntWalk Nums
section
variable{b:Base}{ops:zp}{Q:zx}{N:Nat}{E:SE}{L:ze}{R R' own:zd}{F M F':zv}{o:Oper}{rest:zo}{k:Nat}{α:Type}{post:Post α}{f:FuncId}{x:yo}{name:String}{xs:zg}{ats:zf}{svs:yu}{G:zk}{S:zm}{w0:yp}{Z:Act->Prop}{W:PW}
def l_callW(args:zq)(hg:o.guard=none)(hd:o.dst=some k)(hk:aU k N=true)(hf:Own f)(ho:o.op = .call { callee:=.invoke x name,args:=xs,argTypes:=ats })(hx0:evS E x=some (.v W.val))(hm:ownM prog W.ty name f=true)(hx:evSs E xs.toList=some svs)
 (ha:∀G:zk,(∀x∈L,∀g,x.g=some g->G x.j=g)->svs.map (SV.den G)=args)(hs:Spec f ((SQ.p W.ps).den::args) own F' post)(hF:∀w,F w->M w->F' w)
 (hn:∀x,lS prog b ops Q N rest ⟨(k,(post.ret x).sv)::E,L,post.own x++R',λw=>post.p x w/\F w,λw=>post.n x w/\M w⟩):lS prog b ops Q N (o::rest) ⟨E,L,own++R',F,M⟩ :=
 l_callI args hg hd hk hf ho (by rw [hx0,W.val_eq]) hm hx ha hs hF hn
def n_callW{r:RV}(hst:StW b G S L R F M w0)(args:zq)(hg:o.guard=none)(hd:o.dst=some k)(hk:aU k N=true)(hf:Own f)(ho:o.op = .call { callee:=.invoke x name,args:=xs,argTypes:=ats })(hx0:evS E x=some (.v W.val))(hm:ownM prog W.ty name f=true)(hx:evSs E xs.toList=some svs)
 (ha:svs.map (SV.den G)=args)(hs:Spec f ((SQ.p W.ps).den::args) [] (λ_=>True) (one r))(hr:r.sv.Ok)
 (hn:nS prog ops N w0 Z G rest ((k,r.sv)::E)):nS prog ops N w0 Z G (o::rest) E:=by
 refine n_f hst r.sv hr (λC0 Q' _ hQ=>λa ha'=>?_) hn;rw [RV.sv_den] at hQ;refine b_call1 (f:=f) (args:=((SQ.p W.ps).den::args).toArray) (v:=r.den) (by simp [aQ,hg]) (λw _=>(hs w (λ_=>False) (λ_=>False) (λ_ h=>h) (λ_ h=>h.elim) zU).mono λ_ _ ⟨_,_,h1,_,h2,_⟩=>⟨h1,h2.up λ_ _ h=>h⟩) (λw=>?_) (by rw [hd];exact hQ _ (ha'.put hk _))
 have h0:a.eval x = .iface W.ty (SQ.p W.ps).den:=by rw [<-W.val_eq];exact ha'.eval (evS_ok hx0)
 have h1:=run_callI hf hm ho h0 w;rw [map_eval (args:=(svs.map (SV.den G)).toArray) (ha'.evals _ _ (by rw [evSs_ok hx])),ha,show #[(SQ.p W.ps).den]++args.toArray=((SQ.p W.ps).den::args).toArray by simp] at h1;exact h1
end
def lfQ(p:PairT):SQ:=.p (PW.leaf p).ps
def wleafOf_S{p:PairT}(hp:OkT2 p):Spec 122 [(eY 32 p.1).den,(eY 32 p.2).den] [] Tsh (one (.q (lfQ p))):=by
 refine zQ [eY 32 p.1,eY 32 p.2] 13 func122 rfl (by rw [ntmps122];rfl) (two_ok (eY_ok hp.1).1 (eY_ok hp.2).1) λb=>?_;refine zA rfl ?_;refine s_regH 8 (by decide) (by kernel_rfl) (by kernel_rfl) λK hK G S w0 hst=>?_;refine h_lit zY [(0:UInt8)] rfl rfl rfl rfl rfl rfl (λ_=>rfl) rfl (by decide) (by decide) λB=>?_;refine h_op hst (.s 2 0 32 32) trivial rfl rfl rfl rfl (runO_all rfl underlying47 rfl rfl) (h_op hst (.s 3 0 32 32) trivial rfl rfl rfl rfl (runO_all rfl underlying47 rfl rfl) ?_);refine h_parts [.slice (some ⟨B,0,none⟩) 1 1,(SV.s 2 0 32 32).den G,(SV.s 3 0 32 32).den G] [[0],p.1,p.2] hst rfl rfl rfl rfl rfl rfl rfl (by decide) (by decide) (λw hw hu=>?_) λA=>?_
 .have h2:Rd 1 eB (some ⟨B,0,none⟩) 1 [0] w:=hu 0 _ rfl (by kernel_rfl);exact⟨h2.sb,sb_var (j:=2) rfl hp.1 (by decide) G S w hw,sb_var (j:=3) rfl hp.2 (by decide) G S w hw,trivial⟩
 refine h_call (r:=.q (eY 32 (jX p))) hst [.slice (some ⟨A,0,none⟩) 3 3] rfl rfl rfl rfl own_tsum rfl rfl (λ_=>rfl) (eY_ok (n:=32) (digest256_len _)).1 (λw hw hu=>?_) ?_
 .have hA:PT w (some ⟨A,0,none⟩) [[0],p.1,p.2]:=hu 3 _ rfl (by kernel_rfl)
  have hr2:=sum256_f (some ⟨A,0,none⟩) [[0],p.1,p.2] 3 w hw.fact hA (by simp) (by simp);have e:jX p=dJ dK [[0],p.1,p.2].flatten:=by simp [jX]
  show Calls prog _ _ w λe w'=>e = .returned (.agg (By (jX p)).toArray)/\_;rw [e];exact hr2
 refine zV hst rfl (h_end hst (zB rfl (zJ (hK _ ?_))));exact zP (zG () rfl (λ_ _ _=>trivial) zU)
def winnerOf_S{x y:PW}(hx:x.Good)(hy:y.Good):Spec 163 [.agg #[x.val,y.val]] [] Tsh (one (.q (.p (PW.inner x y).ps))):=by
 refine zQ [.p (sdW x y)] 18 func163 rfl (by rw [ntmps163];rfl) (one_ok (sdW_ok x y)) λb=>?_;have hx32:=hx.root_len;have hy32:=hy.root_len;have sz:∀l:zu,l.length=32->(By l).toArray.size=32:=λl h=>by rw [aW,By_len,h]
 refine zA rfl ?_;refine s_new 6 [⟨3,47,(By eC).toArray⟩,⟨4,47,(By eC).toArray⟩] (by decide) rfl ⟨⟨rfl,rfl,rfl,rfl,rfl⟩,⟨rfl,rfl,rfl,rfl,rfl⟩,trivial⟩ (by kernel_rfl) (by kernel_rfl) (by kernel_rfl) λK hK G S w0 hst=>?_;refine n_op hst (.a 1 (0+1*0)) trivial rfl rfl rfl (runO_ixA 0 rfl underlying210 rfl rfl rfl (by decide)) ?_;refine n_opV hst (.v x.val) trivial rfl rfl rfl (runO_ldA _ rfl rfl rfl rfl underlying85 rfl) (n_callW hst [] rfl rfl rfl (own_wroot x) rfl rfl (has_root x) rfl rfl (wroot_S hx) (eY_ok hx32).1 ?_);refine n_op hst (.a 1 (0+1*1)) trivial rfl rfl rfl (runO_ixA 1 rfl underlying210 rfl rfl rfl (by decide)) ?_;refine n_opV hst (.v y.val) trivial rfl rfl rfl (runO_ldA _ rfl rfl rfl rfl underlying85 rfl) (n_callW hst [] rfl rfl rfl (own_wroot y) rfl rfl (has_root y) rfl rfl (wroot_S hy) (eY_ok hy32).1 ?_);refine n_new hst [⟨3,none,47,[.agg 32 (By x.root).toArray]⟩,⟨4,none,47,[.agg 32 (By y.root).toArray]⟩] [(By eC).toArray,(By eC).toArray] [.tmp 7,.tmp 10] rfl rfl rfl (λu hu=>?_) ⟨rfl,rfl,trivial⟩ rfl ⟨⟨rfl,rfl,rfl⟩,⟨rfl,rfl,rfl⟩,rfl⟩ ⟨⟨rfl,?_,?_,By_one _⟩,⟨rfl,?_,?_,By_one _⟩,trivial⟩ ?_
 .rcases aH.1 hu with rfl|hu
  .exact(eY_ok hx32).1
  .rw [aD.1 hu];exact(eY_ok hy32).1
 .exact(sz eC rfl).trans (sz _ hx32).symm
 .show _=some (By x.root).toArray.size;rw [sz _ hx32];rfl
 .exact(sz eC rfl).trans (sz _ hy32).symm
 .show _=some (By y.root).toArray.size;rw [sz _ hy32];rfl
 refine zJ (hK _ (s_keep [1,2,3,4] [1,2,3,4] rfl rfl ?_));refine s_regH 7 (by decide) (by kernel_rfl) (by kernel_rfl) λK hK G S w0 hst=>?_;refine h_lit zY [(1:UInt8)] rfl rfl rfl rfl rfl rfl (λ_=>rfl) rfl (by decide) (by decide) λB=>?_;refine h_op hst (.s 3 0 32 32) trivial rfl rfl rfl rfl (runO_all rfl underlying47 rfl rfl) (h_op hst (.s 4 0 32 32) trivial rfl rfl rfl rfl (runO_all rfl underlying47 rfl rfl) ?_);refine h_parts [.slice (some ⟨B,0,none⟩) 1 1,(SV.s 3 0 32 32).den G,(SV.s 4 0 32 32).den G] [[1],x.root,y.root] hst rfl rfl rfl rfl rfl rfl rfl (by decide) (by decide) (λw hw hu=>?_) λA=>?_
 .have h2:Rd 1 eB (some ⟨B,0,none⟩) 1 [1] w:=hu 0 _ rfl (by kernel_rfl);exact⟨h2.sb,sb_var (j:=3) rfl hx32 (by decide) G S w hw,sb_var (j:=4) rfl hy32 (by decide) G S w hw,trivial⟩
 refine h_call (r:=.q (eY 32 (gN x.root y.root))) hst [.slice (some ⟨A,0,none⟩) 3 3] rfl rfl rfl rfl own_tsum rfl rfl (λ_=>rfl) (eY_ok (n:=32) (digest256_len _)).1 (λw hw hu=>?_) ?_
 .have hA:PT w (some ⟨A,0,none⟩) [[1],x.root,y.root]:=hu 3 _ rfl (by kernel_rfl)
  have hr2:=sum256_f (some ⟨A,0,none⟩) [[1],x.root,y.root] 3 w hw.fact hA (by simp) (by simp);have e:gN x.root y.root=dJ dK [[1],x.root,y.root].flatten:=by simp [gN]
  show Calls prog _ _ w λe w'=>e = .returned (.agg (By (gN x.root y.root)).toArray)/\_;rw [e];exact hr2
 refine zV hst rfl (h_end hst (zB rfl (zJ (hK _ ?_))));exact zP (zG () rfl (λ_ _ _=>trivial) zU)
section
variable{N:Nat}{E:SE}{o:Oper}{x:yo}{W:PW}
def run_nilI(ho:o.op = .nilCheck x)(hx:evS E x=some (.v W.val)) :
  ∀(G:zk) (a:Act) (w:yp),Fr N (denE G E) a->(execOp a.eval o).run prog w = .ok (.value ((SV.v W.val).den G)) w:=λG a w ha=>by
 have h1:a.eval x=W.val:=ha.eval (evS_ok hx)
 unfold execOp
 rw [ho]
 dsimp only
 rw [h1,W.val_eq]
 rfl
end
def row32{l:zu}(h:l.length=32):(By l).toArray.size=32:=by rw [aW,By_len,h]
def inner_cell{a b:PW}:(catP (PW.inner a b).ps)[32]?=some a.val/\(catP (PW.inner a b).ps)[33]?=some b.val:=by have h:=row32 (l:=gN a.root b.root) (digest256_len _);show((By (gN a.root b.root)).toArray ++ #[a.val,b.val])[32]?=_/\((By (gN a.root b.root)).toArray ++ #[a.val,b.val])[33]?=_;rw [rT (by omega),rT (by omega),h];exact⟨rfl,rfl⟩
def PW.layF:PW->FuncId
  | .empty=>266
  | .leaf _=>270
  | .inner _ _=>272
  | .hid _=>268
def own_wlay(w:PW):Own w.layF:=by
 cases w
 .exact λ_ _=>by unfold PW.layF;go_simp
 .exact λ_ _=>by unfold PW.layF;go_simp
 .exact λ_ _=>by unfold PW.layF;go_simp
 .exact λ_ _=>by unfold PW.layF;go_simp
def has_lay(w:PW):ownM prog w.ty "witan/witness.lay" w.layF=true:=by
 cases w
 .show ownM prog 199 "witan/witness.lay" 266 = true;kernel_rfl
 .show ownM prog 205 "witan/witness.lay" 270 = true;kernel_rfl
 .show ownM prog 212 "witan/witness.lay" 272 = true;kernel_rfl
 .show ownM prog 201 "witan/witness.lay" 268 = true;kernel_rfl
abbrev outO(l:zu):Post PX:={ ret:=λx=>.v (.slice x.1 l.length x.2),own:=λx=>[OwnS 0 5 1 eB x.1 x.2 l] }
theorem wlay_S:∀(w:PW),w.Good->∀(A:zt) (c:Nat) (l:zu),l.length+w.bytes.length<=1000000->Spec w.layF [(SQ.p w.ps).den,.slice A l.length c] [OwnS 0 5 1 eB A c l] (λ_=>True) (outO (l++w.bytes)):=by
 intro w;induction w with
 | empty =>
  intro hg A c l hl
  refine zQ [.p [],.c (.v (.slice A l.length c))] 8 func266 rfl (by rw [ntmps266];rfl) (two_ok (PW.ps_ok hg) trivial) λb=>?_;have hl:l.length+1<=1000000:=hl;refine zA rfl (zC rfl λK hK=>?_);refine l_push zY 0 (0:UInt8) rfl rfl rfl rfl rfl rfl rfl (okF_B [0] 0 aM) (by decide) (by decide) (by show(l.length+1)*1<=_;omega) (by omega) (aL _) λA1 c1=>?_;refine zB rfl (zJ (hK _ ?_));exact zP (zG (A1,c1) rfl (λ_ _ _=>trivial) zU)
 | leaf p =>
  intro hg A c l hl
  have hp:OkT2 p:=hg
  have e:l++(PW.leaf p).bytes=l++[1]++p.1++p.2:=by simp [PW.bytes]
  have hl:l.length+(1+64)<=1000000:=by
   have:(PW.leaf p).bytes.length=1+64:=by simp [PW.bytes,hp.1,hp.2]
   omega
  rw [e];refine zQ [.p (PW.leaf p).ps,.c (.v (.slice A l.length c))] 14 func270 rfl (by rw [ntmps270];rfl) (two_ok (PW.ps_ok hg) trivial) λb=>?_;refine zA rfl (zM λK hK=>?_);refine s_anyP [0,3,4,6,7] 8 2 (λ_=>True) (by kernel_rfl) rfl (λ_ _ _=>trivial) ?_;refine z7 (L0:=[]) 0 (by kernel_rfl) rfl (λ_ h=>by cases h) (λ_ _ _ h=>by cases h) ?_;refine z7 (L0:=[]) 3 (by kernel_rfl) rfl (λ_ h=>by cases h) (λ_ _ _ h=>by cases h) ?_;refine p_frontO (.s 2 32 32 32) trivial 4 (by kernel_rfl) rfl rfl rfl rfl rfl (runO_all rfl underlying47 rfl rfl) ?_;refine z7 (L0:=[]) 6 (by kernel_rfl) rfl (λ_ h=>by cases h) (λ_ _ _ h=>by cases h) ?_;refine p_frontO (.s 2 64 32 32) trivial 7 (by kernel_rfl) rfl rfl rfl rfl rfl (runO_all rfl underlying47 rfl rfl) ?_;refine p_step 1 (by kernel_rfl) rfl λK1 hK1=>?_;refine l_list zY 0 [(1:UInt8)] rfl rfl rfl rfl rfl (λ_=>rfl) rfl (by decide) (by decide) (okF_B _) (aL _) λB=>?_;refine l_free 0 rfl (zJ (hK1 _ (λ_ _ _=>trivial) ?_));refine p_step 2 (by kernel_rfl) rfl λK2 hK2=>?_;refine l_appY zY 0 [(1:UInt8)] rfl rfl rfl rfl rfl rfl rfl rfl rfl (rd_fact λ_ h _=>h.1) (by decide) (by show(l.length+1)*1<=_;omega) (by show l.length+1<=_;omega) (aL _) λA1 c1=>?_;refine zJ (hK2 _ (λ_ _ _=>trivial) ?_);refine p_step 5 (by kernel_rfl) rfl λK3 hK3=>?_;refine l_appZ (A2':=λG=>some ⟨G 2,32,none⟩) (c2:=32) zY 0 p.1 rfl rfl rfl rfl rfl rfl rfl (λ_=>by rw [hp.1];rfl) rfl rfl (rd_part (PW.leaf p).ps rfl rfl hp.1 (by decide)) (by decide) (by simp [hp.1];omega) (by simp [hp.1];omega) (aL _) λA2 c2=>?_;refine zJ (hK3 _ (λ_ _ _=>trivial) ?_);refine p_tail [8,9] (by kernel_rfl) rfl ?_;refine l_appZ (A2':=λG=>some ⟨G 2,64,none⟩) (c2:=32) zY 0 p.2 rfl rfl rfl rfl rfl rfl rfl (λ_=>by rw [hp.2];rfl) rfl rfl (rd_part (PW.leaf p).ps rfl rfl hp.2 (by decide)) (by decide) (by simp [hp.1,hp.2];omega) (by simp [hp.1,hp.2];omega) (aL _) λA3 c3=>?_;refine zB rfl (zJ (hK _ ?_));exact zP (zG (A3,c3) rfl (λ_ _ _=>trivial) zU)
 | hid h =>
  intro hg A c l hl
  have hp:h.length=32:=hg
  have e:l++(PW.hid h).bytes=l++[3]++h:=by simp [PW.bytes]
  have hl:l.length+(1+32)<=1000000:=by
   have:(PW.hid h).bytes.length=1+32:=by simp [PW.bytes,hp]
   omega
  rw [e];refine zQ [.p (PW.hid h).ps,.c (.v (.slice A l.length c))] 11 func268 rfl (by rw [ntmps268];rfl) (two_ok (PW.ps_ok hg) trivial) λb=>?_;refine zA rfl (zM λK hK=>?_);refine s_anyP [0,3,4] 5 2 (λ_=>True) (by kernel_rfl) rfl (λ_ _ _=>trivial) ?_;refine z7 (L0:=[]) 0 (by kernel_rfl) rfl (λ_ h=>by cases h) (λ_ _ _ h=>by cases h) ?_;refine z7 (L0:=[]) 3 (by kernel_rfl) rfl (λ_ h=>by cases h) (λ_ _ _ h=>by cases h) ?_;refine p_frontO (.s 2 0 32 32) trivial 4 (by kernel_rfl) rfl rfl rfl rfl rfl (runO_all rfl underlying47 rfl rfl) ?_;refine p_step 1 (by kernel_rfl) rfl λK1 hK1=>?_;refine l_list zY 0 [(3:UInt8)] rfl rfl rfl rfl rfl (λ_=>rfl) rfl (by decide) (by decide) (okF_B _) (aL _) λB=>?_;refine l_free 0 rfl (zJ (hK1 _ (λ_ _ _=>trivial) ?_));refine p_step 2 (by kernel_rfl) rfl λK2 hK2=>?_;refine l_appY zY 0 [(3:UInt8)] rfl rfl rfl rfl rfl rfl rfl rfl rfl (rd_fact λ_ h _=>h.1) (by decide) (by show(l.length+1)*1<=_;omega) (by show l.length+1<=_;omega) (aL _) λA1 c1=>?_;refine zJ (hK2 _ (λ_ _ _=>trivial) ?_);refine p_tail [5,6] (by kernel_rfl) rfl ?_;refine l_appZ (A2':=λG=>some ⟨G 2,0,none⟩) (c2:=32) zY 0 h rfl rfl rfl rfl rfl rfl rfl (λ_=>by rw [hp];rfl) rfl rfl (rd_part (PW.hid h).ps rfl rfl hp (by decide)) (by decide) (by simp [hp];omega) (by simp [hp];omega) (aL _) λA3 c3=>?_;refine zB rfl (zJ (hK _ ?_));exact zP (zG (A3,c3) rfl (λ_ _ _=>trivial) zU)
 | inner x y ihx ihy =>
  intro hg A c l hl
  have e:l++(PW.inner x y).bytes=l++[2]++x.bytes++y.bytes:=by simp [PW.bytes]
  have hl:l.length+(1+x.bytes.length+y.bytes.length)<=1000000:=by
   have:(PW.inner x y).bytes.length=1+x.bytes.length+y.bytes.length:=by simp [PW.bytes];omega
   omega
  rw [e];refine zQ [.p (PW.inner x y).ps,.c (.v (.slice A l.length c))] 20 func272 rfl (by rw [ntmps272];rfl) (two_ok (PW.ps_ok hg) trivial) λb=>?_;have hpo:=PW.ps_ok hg;obtain⟨hca,hcb⟩:=inner_cell (a:=x) (b:=y);generalize hps:(PW.inner x y).ps=ps at *;refine zA rfl ?_;refine s_locs λG=>?_;have hsub:∀u∈([⟨2,some (G 2),212,ps⟩]:ze),u∈withG G [⟨2,none,212,ps⟩]/\u.g.isSome=true:=λu hu=>⟨hu,by rw [aD.1 hu];rfl⟩;refine zM λK hK=>?_;refine s_anyP [0,1,2,3,4,5,6,9,10,12,13] 14 2 (InvL [⟨2,some (G 2),212,ps⟩]) (by kernel_rfl) rfl (inv_of hsub) ?_;refine z7 0 (by kernel_rfl) rfl (λx hx=>(hsub x hx).1) (λ_ h=>h) ?_;refine p_frontO (.a 2 (0+32+1*1)) trivial 1 (by kernel_rfl) rfl rfl rfl rfl rfl (runO_ixA 1 rfl underlying210 rfl rfl rfl (by decide)) ?_;refine p_frontA (.v y.val) trivial 2 (by kernel_rfl) rfl rfl rfl rfl rfl (λx hx=>(hsub x hx).1) (λ_ h=>h) (runO_ldL _ rfl rfl rfl hcb underlying85 rfl) ?_;refine z7 3 (by kernel_rfl) rfl (λx hx=>(hsub x hx).1) (λ_ h=>h) ?_;refine p_frontO (.a 2 (0+32+1*0)) trivial 4 (by kernel_rfl) rfl rfl rfl rfl rfl (runO_ixA 0 rfl underlying210 rfl rfl rfl (by decide)) ?_;refine p_frontA (.v x.val) trivial 5 (by kernel_rfl) rfl rfl rfl rfl rfl (λx hx=>(hsub x hx).1) (λ_ h=>h) (runO_ldL _ rfl rfl rfl hca underlying85 rfl) ?_;refine z7 6 (by kernel_rfl) rfl (λx hx=>(hsub x hx).1) (λ_ h=>h) ?_;refine p_frontO (.v x.val) trivial 9 (by kernel_rfl) rfl rfl rfl rfl rfl (run_nilI rfl rfl) ?_;refine z7 10 (by kernel_rfl) rfl (λx hx=>(hsub x hx).1) (λ_ h=>h) ?_;refine p_frontO (.v y.val) trivial 12 (by kernel_rfl) rfl rfl rfl rfl rfl (run_nilI rfl rfl) ?_;refine z7 13 (by kernel_rfl) rfl (λx hx=>(hsub x hx).1) (λ_ h=>h) ?_;refine p_step 7 (by kernel_rfl) rfl λK1 hK1=>?_;refine l_list zY 0 [(2:UInt8)] rfl rfl rfl rfl rfl (λ_=>rfl) rfl (by decide) (by decide) (okF_B _) (aL _) λB=>?_;refine l_free 0 rfl (zJ (hK1 _ (inv_of hsub) ?_));refine p_step 8 (by kernel_rfl) rfl λK2 hK2=>?_;refine l_appY zY 0 [(2:UInt8)] rfl rfl rfl rfl rfl rfl rfl rfl rfl (rd_fact λ_ h _=>h.1) (by decide) (by show(l.length+1)*1<=_;omega) (by show l.length+1<=_;omega) (aL _) λA1 c1=>?_;refine zJ (hK2 _ (inv_of hsub) ?_);refine p_step 11 (by kernel_rfl) rfl λK3 hK3=>?_;refine l_R ([OwnS 0 5 1 eB A1 c1 (l++[2])]++[]) rfl ?_;have hspx:=ihx hg.1 A1 c1 (l++[2]) (by rw [aA,bI];omega)
  refine l_callW (W:=x) (own:=[OwnS 0 5 1 eB A1 c1 (l++[2])]) (R':=[]) (post:=outO (l++[2]++x.bytes)) (F':=λ_=>True) (f:=x.layF) [.slice A1 (l++[2]).length c1] rfl rfl rfl (own_wlay x) rfl rfl (has_lay x) rfl (λ_ _=>rfl) ?_ ?_ ?_
  .exact hspx
  .exact λ_ _ _=>trivial
  rintro⟨A2,c2⟩
  refine zJ (hK3 _ (inv_of hsub) ?_);refine p_tail [14,15] (by kernel_rfl) rfl ?_;refine l_R ([OwnS 0 5 1 eB A2 c2 (l++[2]++x.bytes)]++[]) rfl ?_;have hspy:=ihy hg.2 A2 c2 (l++[2]++x.bytes) (by rw [aA,aA,bI];omega);refine l_callW (W:=y) (own:=[OwnS 0 5 1 eB A2 c2 (l++[2]++x.bytes)]) (R':=[]) (post:=outO (l++[2]++x.bytes++y.bytes)) (F':=λ_=>True) (f:=y.layF) [.slice A2 (l++[2]++x.bytes).length c2] rfl rfl rfl (own_wlay y) rfl rfl (has_lay y) rfl (λ_ _=>rfl) ?_ ?_ ?_
  .exact hspy
  .exact λ_ _ _=>trivial
  rintro⟨A3,c3⟩
  refine zB rfl (zJ (hK _ ?_));exact zP (zG (A3,c3) rfl (λ_ _ _=>trivial) zU)
section
variable{P:ym}{ti a b:yn}{ms:Array (String×yn)}{v u:yl}{w:yp}
def equalI_ne(d:Nat)(hi:P.underlying ti=some (.interface ms))(hne:a≠b):(cC (d+1) ti (.iface a v) (.iface b u)).run P w = .ok false w:=by rw [cC];simp only [aG,run_underlying hi,aC,if_pos hne,aI]
def equalI_eq(d:Nat){i:TypeInfo}(hi:P.underlying ti=some (.interface ms))(hinfo:P.info? a=some i)(hc:i.comparable=true):(cC (d+1) ti (.iface a v) (.iface a u)).run P w=(cC d a v u).run P w:=by rw [cC];simp [run_underlying hi,typeInfo,hinfo,hc]
def eq_iface{r:Bool}(hne:(cC 10000 ti (.iface a v) (.iface b u)).run P w = .ok r w):(binOp .eql ti (.iface a v) (.iface b u)).run P w = .ok (.bool r) w:=by simp only [binOp];simp [Op.equal,Op.maxDepth,hne]
def guard_iface{op:BinOp}{x y:yo}:(eqGuard op ti x y (.iface a v) (.iface b u)).run P w = .ok () w:=by cases op<;>simp [eqGuard]
end
def fields_empty:prog.underlying 199 = some (.struct (prog.fieldsOf 199))/\(prog.fieldsOf 199).toList=[]:=by unfold Program.fieldsOf;rw [underlying199];exact⟨rfl,rfl⟩
def comparable_empty:(prog.info? 199).map (·.comparable)=some true:=by kernel_rfl
def stood_empty:prog.stoodInHeld 199 = false:=by kernel_rfl
def PW.isE:PW->Bool
  | .empty=>true
  | _=>false
section
variable{N:Nat}{E:SE}{o:Oper}{x y:yo}{t':yn}{W:PW}
def run_isE(ho:o.op = .binOp .eql 85 x y t')(hx:evS E x=some (.v W.val))(hy:evS E y=some (.v PW.empty.val)) :
  ∀(G:zk) (a:Act) (w:yp),Fr N (denE G E) a->(execOp a.eval o).run prog w = .ok (.value ((SV.v (.bool W.isE)).den G)) w:=λG a w ha=>by
 have h1:a.eval x = .iface W.ty (SQ.p W.ps).den:=by rw [<-W.val_eq];exact ha.eval (evS_ok hx)
 have h2:a.eval y = .iface 199 (.agg #[]):=ha.eval (evS_ok hy);obtain⟨i,hi,hc⟩:=n6.1 comparable_empty
 have key:(cC 10000 85 (.iface W.ty (SQ.p W.ps).den) (.iface 199 (.agg #[]))).run prog w = .ok W.isE w:=by
  cases W with
  | empty =>
   show(cC (9999+1) 85 (.iface 199 (.agg #[])) (.iface 199 (.agg #[]))).run prog w = .ok true w
   rw [equalI_eq 9999 underlying85 hi hc,run_equalIn_struct w 9998 _ _ _ fields_empty.1 stood_empty,fields_empty.2,Op.eqFields,aI]
  | leaf=>exact equalI_ne 9999 underlying85 (by show(205 : Nat) ≠ 199;decide)
  | inner=>exact equalI_ne 9999 underlying85 (by show(212 : Nat) ≠ 199;decide)
  | hid=>exact equalI_ne 9999 underlying85 (by show(201 : Nat) ≠ 199;decide)
 unfold execOp
 simp only [ho,h1,h2,aG,guard_iface,aC,eq_iface key,aI]
 rfl
end
def PW.top:PW->yl
  | .empty=>.nilIface
  | w=>w.val
def PW.top_ok(w:PW):w.top.oneCell'=true/\w.top.cells = #[w.top]:=by cases w<;>exact⟨rfl,rfl⟩
def prQ(w:PW):SQ:=.p [.one (.v w.top)]
def prQ_ok(w:PW):(prQ w).Ok:=λp hp=>by rw [aD.1 hp];exact⟨trivial,w.top_ok⟩
def own_wnode:Own 86:=λ_ _=>by go_simp
theorem wpart_S(w:PW):Spec 69 [w.val] [] (λ_=>True) (one (.q (prQ w))):=by
 refine zQ [.c (.v w.val)] 10 func69 rfl (by rw [ntmps69];rfl) (one_ok trivial) λb=>?_;refine zA rfl (zM λK hK=>zC rfl λK1 hK1=>l_op (.v PW.empty.val) trivial rfl rfl rfl (run_mkI rfl underlying199 rfl rfl) (l_op (.v (.bool w.isE)) trivial rfl rfl rfl (run_isE rfl rfl rfl) (zJ (hK1 _ ?_))));cases w with
 | empty =>
  refine s_yes rfl (zA rfl ?_);exact zP (zG () rfl (λ_ _ _=>trivial) zU)
 | leaf =>
  refine s_no rfl (zO (hK _ (zA rfl ?_)));exact zP (zG () rfl (λ_ _ _=>trivial) zU)
 | inner =>
  refine s_no rfl (zO (hK _ (zA rfl ?_)));exact zP (zG () rfl (λ_ _ _=>trivial) zU)
 | hid =>
  refine s_no rfl (zO (hK _ (zA rfl ?_)));exact zP (zG () rfl (λ_ _ _=>trivial) zU)
theorem wnode_S(w:PW):Spec 86 [(prQ w).den] [] (λ_=>True) (one (.v w.val)):=by
 refine zQ [prQ w] 10 func86 rfl (by rw [ntmps86];rfl) (one_ok (prQ_ok w)) λb=>?_;refine zA rfl (zM λK hK=>?_);cases w with
 | empty =>
  refine zC rfl λK1 hK1=>l_op (.v (.bool true)) trivial rfl rfl rfl (run_eqNilN _ underlying85 rfl rfl) (zJ (hK1 _ (s_yes rfl (zC rfl λK2 hK2=>l_op (.v PW.empty.val) trivial rfl rfl rfl (run_mkI rfl underlying199 rfl rfl) (zB rfl (zJ (hK2 _ ?_)))))));exact zP (zG () rfl (λ_ _ _=>trivial) zU)
 | leaf p =>
  refine zC rfl λK1 hK1=>l_op (.v (.bool false)) trivial rfl rfl rfl (run_eqNilI _ underlying85 rfl rfl) (zJ (hK1 _ (s_no rfl (zO (hK _ (zA rfl ?_))))));exact zP (zG () rfl (λ_ _ _=>trivial) zU)
 | inner x y =>
  refine zC rfl λK1 hK1=>l_op (.v (.bool false)) trivial rfl rfl rfl (run_eqNilI _ underlying85 rfl rfl) (zJ (hK1 _ (s_no rfl (zO (hK _ (zA rfl ?_))))));exact zP (zG () rfl (λ_ _ _=>trivial) zU)
 | hid h =>
  refine zC rfl λK1 hK1=>l_op (.v (.bool false)) trivial rfl rfl rfl (run_eqNilI _ underlying85 rfl rfl) (zJ (hK1 _ (s_no rfl (zO (hK _ (zA rfl ?_))))));exact zP (zG () rfl (λ_ _ _=>trivial) zU)
def wRoot_S{w:PW}(h:w.Good):Spec 40 [(prQ w).den] [] (λ_=>True) (one (.q (eY 32 w.root))):=by
 refine zQ [prQ w] 6 func40 rfl (by rw [ntmps40];rfl) (one_ok (prQ_ok w)) λb=>?_;refine zA rfl (zC rfl λK hK=>z6 [(prQ w).den] own_wnode rfl (wnode_S w) (λ_ _ _=>trivial) λ_=>?_);have hr:=wroot_S h;refine l_R ([]++[]) rfl ?_;refine l_callW (W:=w) (own:=[]) (R':=[]) (post:=one (.q (eY 32 w.root))) (F':=λ_=>True) (f:=w.rootF) [] rfl rfl rfl (own_wroot w) rfl rfl (has_root w) rfl (λ_ _=>rfl) ?_ ?_ ?_
 .exact hr
 .exact λ_ _ _=>trivial
 intro _;refine zB rfl (zJ (hK _ ?_));exact zP (zG () rfl (λ_ _ _=>trivial) zU)
def wBytes_S{w:PW}(h:w.Good)(hl:w.bytes.length<=1000000):Spec 65 [(prQ w).den] [] (λ_=>True) (outO w.bytes):=by
 refine zQ [prQ w] 6 func65 rfl (by rw [ntmps65];rfl) (one_ok (prQ_ok w)) λb=>?_;refine zA rfl (zC rfl λK hK=>z6 [(prQ w).den] own_wnode rfl (wnode_S w) (λ_ _ _=>trivial) λ_=>?_);have hr:=wlay_S w h none 0 [] (by simpa using hl);refine l_nil0 0 5 1 eB (l_R ([OwnS 0 5 1 eB none 0 []]++[]) rfl ?_);refine l_callW (W:=w) (own:=[OwnS 0 5 1 eB none 0 []]) (R':=[]) (post:=outO w.bytes) (F':=λ_=>True) (f:=w.layF) [.slice none 0 0] rfl rfl rfl (own_wlay w) rfl rfl (has_lay w) rfl (λ_ _=>rfl) ?_ ?_ ?_
 .exact hr
 .exact λ_ _ _=>trivial
 rintro⟨A,c⟩;refine zB rfl (zJ (hK _ ?_));exact zP (zG (A,c) rfl (λ_ _ _=>trivial) zU)
def run_ldEl{α:Type}{P:ym}{T:yw}{N:Nat}{E:SE}{o:Oper}{x:yo}{t:yn}{k' c j off g a:Nat}{fe:α->SQ}{l:List α}{y:α}{q:SQ}{L:ze}{R:zd}{F M:zv}(hT:OkT P T)(ho:o.op = .load t x)(hx:evS E x=some (.v (.pointer (some ⟨g,a+k'*j+off,none⟩))))(hi:l[j]?=some y)(hl:loadS T (fe y).parts1 t off=some q)(hok:OkP (fe y).parts1)(h:∀G S w,View G S L R F M w->Rd k' fe (some ⟨g,a,none⟩) c l w) :
  ∀(G:zk) (S:zm) (ac:Act) (w:yp),Fr N (denE G E) ac->View G S L R F M w->(execOp ac.eval o).run P w = .ok (.value ((SV.q q).den G)) w:=λG S ac w ha hv=>by
 have e1:=ha.eval (evS_ok hx);obtain⟨b',o',e,_,hr⟩:=(h G S w hv).2.2.2.2 (dC (aL _) (aP.1 hi).1)
 injection e with e
 injection e with e2 e3
 subst e2 e3;have h13:=(loadS_at hT hok hl).2 (w:=w) (g:=g) (base:=a+k'*j) (by rw [<-SQ.cl_parts hok];exact hr j y hi)
 unfold execOp
 simp only [ho,e1,SV.den,SQ.den,SC.den,h13,aG,aI,aC]
def tyK:Nat->yn
  | 0=>199
  | 1=>205
  | 2=>212
  | _=>201
def zK:Nat->zb
  | 0=>[]
  | 1=>[.agg 32 (By eC).toArray,.agg 32 (By eC).toArray,.agg 32 (By eC).toArray]
  | 2=>[.agg 32 (By eC).toArray,.agg 2 #[.nilIface,.nilIface]]
  | _=>[.agg 32 (By eC).toArray]
theorem zK_ok(k:Nat):OkP (zK k):=by
 match k with
 | 0=>exact okPB_ok (by kernel_rfl)
 | 1=>exact okPB_ok (by kernel_rfl)
 | 2=>exact okPB_ok (by kernel_rfl)
 | _+3=>exact okPB_ok (by show okPB [.agg 32 (By eC).toArray]=true;kernel_rfl)
def PW.asK(W:PW)(k:Nat):zb:=match bW W.kind k with
  | true=>W.ps
  | false=>zK k
def PW.asK_ok{W:PW}(h:W.Good)(k:Nat):OkP (W.asK k):=by
 unfold PW.asK;split
 .exact PW.ps_ok h
 .exact zK_ok k
def ty_kind(W:PW):W.ty=tyK W.kind:=by cases W<;>rfl
theorem zero_K:∀k,k<4->(prog.info? (tyK k)).map (·.zero)=some (some (SQ.p (zK k)).den)
 | 0,_=>by show(prog.info? 199).map (·.zero)=some (some (SQ.p []).den);kernel_rfl
 | 1,_=>by show(prog.info? 205).map (·.zero)=some (some (SQ.p (zK 1)).den);kernel_rfl
 | 2,_=>by show(prog.info? 212).map (·.zero)=some (some (SQ.p (zK 2)).den);kernel_rfl
 | 3,_=>by show(prog.info? 201).map (·.zero)=some (some (SQ.p (zK 3)).den);kernel_rfl
 | k+4,h=>absurd h (by omega)
theorem under_K:∀k,k<4->∃d,prog.underlying (tyK k)=some d/\isI d=false
 | 0,_=>⟨_,underlying199,rfl⟩
 | 1,_=>⟨_,underlying205,rfl⟩
 | 2,_=>⟨_,underlying212,rfl⟩
 | 3,_=>⟨_,underlying201,rfl⟩
 | k+4,h=>absurd h (by omega)
def tyK_inj:∀i j,i<4->j<4->tyK i=tyK j->i=j:=by
 have h:∀i:Fin 4,∀j:Fin 4,tyK i.1=tyK j.1->i.1=j.1:=by decide +kernel
 exact λi j hi hj=>h ⟨i,hi⟩ ⟨j,hj⟩
def kind_lt(W:PW):W.kind<4:=by cases W<;>simp [PW.kind]
section
variable{b:Base}{ops:zp}{Q:zx}{N:Nat}{E:SE}{L:ze}{R:zd}{F M:zv}{o:Oper}{rest:zo}{j:Nat}{x:yo}{ti:yn}
def l_kind(k:Nat){W:PW}(hW:W.Good)(h4:k<4)(hg:o.guard=none)(hd:o.dst=some j)(hj:aU j N=true)(ho:o.op = .typeAssert x ti (tyK k) true)(hx:evS E x=some (.v W.val))
 (hn:lS prog b ops Q N rest ⟨(j,.t [.p (W.asK k),.c (.v (.bool (bW W.kind k)))])::E,L,R,F,M⟩):lS prog b ops Q N (o::rest) ⟨E,L,R,F,M⟩:=by
 obtain⟨d,hu,hi⟩:=under_K k h4;refine l_op (.t [.p (W.asK k),.c (.v (.bool (bW W.kind k)))]) (λy hy=>?_) hg hd hj ?_ hn
 .rcases aH.1 hy with rfl|hy
  .exact PW.asK_ok hW k
  .rw [aD.1 hy];exact trivial
 .unfold PW.asK
  by_cases e:W.kind=k
  .have e2:bW W.kind k=true:=by rw [e];exact Nat.beq_refl k
   rw [e2];exact run_asYes ho hu hi (by rw [hx,W.val_eq,ty_kind,e]) rfl
  .have e2:bW W.kind k=false:=by
    cases h:bW W.kind k with
    | true=>exact absurd (Nat.eq_of_beq_eq_true h) e
    | false=>rfl
   rw [e2];exact run_asNo ho hu hi (by rw [hx,W.val_eq]) (λh=>e (tyK_inj _ _ (kind_lt W) h4 (by rw [<-ty_kind,h]))) (zero_K k h4)
end
def wrap_u8(d:Nat):IntKind.u8.wrap (((d%256:Nat):Int)+1)=(((d+1)%256:Nat):Int):=by unfold IntKind.wrap;simp [IntKind.bits,IntKind.signed]
def tellR(u:zu×Bool×Bool):RV:=.t [eY 32 u.1,.c (.v (.bool u.2.1)),.c (.v (.int .i64 (if u.2.2 then 100 else 0)))]
theorem wget_S{k:zu}(hk:k.length=32)(w:PW)(hr:w.Right []):Spec 120 [w.val,(eY 32 k).den] [] (λ_=>True) (one (tellR (PW.tell k (PW.find k 0 w)))):=by
 refine zQ [.c (.v w.val),eY 32 k] 37 func120 rfl (by rw [ntmps120];rfl) (two_ok trivial (eY_ok hk).1) λb=>?_;generalize hres:PW.tell k (PW.find k 0 w)=res;refine zA rfl (zA rfl (zN ?_));let F:PW×zj->Env:=λ⟨W,way⟩=>⟨[(0,.v W.val),(3,.a 3 0),(4,.a 4 0),(7,.v (.int .u8 ((way.length%256:Nat):Int)))],[⟨4,none,47,[.agg 32 (By eC).toArray]⟩,⟨3,none,47,[.agg 32 (By k).toArray]⟩],[],λ_=>True,λ_=>True⟩;refine c_weak (e':=F (w,[])) ⟨zE rfl, zL rfl rfl, .refl _,λ_ _ _=>trivial, zU⟩ (s_loop (λy=>256-y.2.length) F (λy=>y.1.Right y.2/\PW.tell k (PW.find k y.2.length y.1)=res) ?_ (w,[]) ⟨hr,hres⟩);rintro⟨W,way⟩ ⟨hW,hres⟩;dsimp only at hW hres;refine zM λK hK=>zN (zM λK1 hK1=>zA rfl (zN (zC rfl λK2 hK2=>?_)));refine l_kind 2 hW.good (by decide) rfl rfl rfl rfl rfl ?_;refine zB rfl (zJ (hK2 _ ?_));cases W with
 | inner x y =>
  obtain⟨hlt,hx,hy,_⟩:=hW;refine s_yes rfl (zA rfl (zM λK3 hK3=>s_lit (zB rfl ?_)));obtain⟨hca,hcb⟩:=inner_cell (a:=x) (b:=y);have e256:way.length%256=way.length:=a7 hlt;refine l_num 18 (way.length:Int) rfl (by rw [e256]) ?_;refine z6 [(eY 32 k).den,.int .u8 (way.length:Int)] own_wbit rfl (wbit_S hk way.length hlt) (λ_ _ _=>trivial) λ_=>zB rfl ?_;have hb2:=gE k way.length
  by_cases hb:cL k way.length=0
  .refine l_num 19 0 rfl (by rw [hb];rfl) ?_;refine l_op (.a 8 (0+32+1*0)) trivial rfl rfl rfl (runO_ixA 0 rfl underlying210 rfl rfl rfl (by decide)) ?_;refine l_opV (.v x.val) trivial rfl rfl rfl (runO_ldA _ rfl rfl rfl hca underlying85 rfl) (zB rfl (zJ (hK3 _ (s_exit (k_passB rfl (zS (k_out (hK _ (zD rfl ?_)))))))));exact zX (x,way++[0]) ⟨hx,by rw [<-hres,aA,bI];show _=PW.tell k (if cL k way.length=0 then _ else _);rw [if_pos hb]⟩ (by rw [aA,bI];show 256-(way.length+1)<256-way.length;omega) ⟨⟨rfl,rfl,rfl,congrArg some (congrArg SV.v (congrArg (cG .u8) (by rw [aA,bI];exact wrap_u8 way.length))),trivial⟩,zL rfl rfl, .refl _,λ_ _ _=>trivial, zU⟩
  .refine l_num 19 1 rfl (by rw [show cL k way.length=1 by omega];rfl) ?_;refine l_op (.a 8 (0+32+1*1)) trivial rfl rfl rfl (runO_ixA 1 rfl underlying210 rfl rfl rfl (by decide)) ?_;refine l_opV (.v y.val) trivial rfl rfl rfl (runO_ldA _ rfl rfl rfl hcb underlying85 rfl) (zB rfl (zJ (hK3 _ (s_exit (k_passB rfl (zS (k_out (hK _ (zD rfl ?_)))))))));exact zX (y,way++[1]) ⟨hy,by rw [<-hres,aA,bI];show _=PW.tell k (if cL k way.length=0 then _ else _);rw [if_neg hb]⟩ (by rw [aA,bI];show 256-(way.length+1)<256-way.length;omega) ⟨⟨rfl,rfl,rfl,congrArg some (congrArg SV.v (congrArg (cG .u8) (by rw [aA,bI];exact wrap_u8 way.length))),trivial⟩,zL rfl rfl, .refl _,λ_ _ _=>trivial, zU⟩
 | empty =>
  refine s_no rfl (zC rfl λK4 hK4=>?_);refine l_kind (W:=.empty) 1 hW.good (by decide) rfl rfl rfl rfl rfl ?_;refine zB rfl (zJ (hK4 _ (s_no rfl (zC rfl λK5 hK5=>?_))));refine l_kind (W:=.empty) 3 hW.good (by decide) rfl rfl rfl rfl rfl ?_;refine zB rfl (zJ (hK5 _ (s_no rfl (zO (hK1 _ (zA rfl ?_))))));exact zP (zR zY () rfl (by decide) rfl (by rw [<-hres];rfl) rfl (λ_ _ _=>trivial) zU)
 | leaf p =>
  have hp:OkT2 p:=hW.good;refine s_no rfl (zC rfl λK4 hK4=>?_);refine l_kind (W:=.leaf p) 1 hW.good (by decide) rfl rfl rfl rfl rfl ?_;refine zB rfl (zJ (hK4 _ (s_yes rfl (zA rfl (zC rfl λK6 hK6=>?_)))));refine l_op (.b (decide (p.1=k))) trivial rfl rfl rfl (run_eqY rfl rfl rfl underlying47 (by kernel_rfl) hp.1 hk) ?_;refine zJ (hK6 _ ?_);refine zW (p.1=k) rfl (λhe=>?_) (λhe=>?_)
  .refine zA rfl ?_;exact zP (zR zY () rfl (by decide) rfl (by rw [<-hres];show tellR (if p.1=k then _ else _)=_;rw [if_pos he];rfl) rfl (λ_ _ _=>trivial) zU)
  .refine zO (hK1 _ ?_);refine zA rfl ?_;exact zP (zR zY () rfl (by decide) rfl (by rw [<-hres];show tellR (if p.1=k then _ else _)=_;rw [if_neg he];rfl) rfl (λ_ _ _=>trivial) zU)
 | hid h =>
  refine s_no rfl (zC rfl λK4 hK4=>?_);refine l_kind (W:=.hid h) 1 hW.good (by decide) rfl rfl rfl rfl rfl ?_;refine zB rfl (zJ (hK4 _ (s_no rfl (zC rfl λK5 hK5=>?_))));refine l_kind (W:=.hid h) 3 hW.good (by decide) rfl rfl rfl rfl rfl ?_;refine zB rfl (zJ (hK5 _ (s_yes rfl (zA rfl (zA rfl ?_)))));exact zP (zR zY () rfl (by decide) rfl (by rw [<-hres];rfl) rfl (λ_ _ _=>trivial) zU)
theorem PW.tell_len{k:zu}:∀{d:Nat} {w:PW},w.Good->(PW.tell k (PW.find k d w)).1.length=32
 | _,.empty,_=>rfl
 | _,.leaf p,h=>by
  show(if p.1=k then(p.2,true,false) else(eC,false,false)).1.length=32;split
  .exact h.2
  .rfl
 | _,.hid _,_=>rfl
 | d,.inner a b,h=>by
  show(PW.tell k (if cL k d=0 then PW.find k (d+1) a else PW.find k (d+1) b)).1.length=32;split
  .exact PW.tell_len h.1
  .exact PW.tell_len h.2
def tellR_ok{u:zu×Bool×Bool}(h:u.1.length=32):(tellR u).sv.Ok:=λx hx=>by
 simp only [aH,gB,or_false] at hx;rcases hx with rfl|rfl|rfl
 .exact(eY_ok h).1
 .exact trivial
 .exact trivial
def wGet_S{k:zu}(hk:k.length=32)(w:PW)(hr:w.Right []):Spec 88 [(prQ w).den,(eY 32 k).den] [] (λ_=>True) (one (tellR (PW.tell k (PW.find k 0 w)))):=by
 refine zQ [prQ w,eY 32 k] 14 func88 rfl (by rw [ntmps88];rfl) (two_ok (prQ_ok w) (eY_ok hk).1) λb=>?_;have hget:=wget_S hk w hr;have hl:=PW.tell_len (k:=k) (d:=0) hr.good;generalize PW.tell k (PW.find k 0 w)=res at *;refine zA rfl ?_;refine s_regD 7 (by decide) (by kernel_rfl) (by kernel_rfl) λK1 hK1 G S w0 hst=>?_;refine g_autoS zY hst rfl (g_callS (F':=λ_=>True) hst [(prQ w).den] rfl rfl rfl own_wnode rfl rfl (λ_=>rfl) (wnode_S w) trivial (λ_ _ _ _=>trivial) (g_autoS zY hst rfl ?_));refine g_callS (F':=λ_=>True) (r:=tellR res) hst [w.val,(eY 32 k).den] rfl rfl rfl (λ_ _=>by go_simp) rfl rfl (λ_=>rfl) hget ?_ (λ_ _ _ _=>trivial) ?_
 .exact tellR_ok hl
 refine g_autoS zY hst rfl (g_endS hst (zB rfl (zJ (hK1 _ ?_))));exact zP (zG () rfl (λ_ _ _=>trivial) zU)
def nodeR(unk:Bool)(w:PW):RV:=match unk with
  | true=>.t [.c (.v .nilIface),.c (.v (.int .i64 100))]
  | false=>.t [.c (.v w.val),.c (.v (.int .i64 0))]
def PW.unk(k:zu)(d:Nat)(w:PW):Bool:=(PW.tell k (PW.find k d w)).2.2
def putS(p:PairT)(d:Nat)(x y:PW):RV:=if cL p.1 d=0 then nodeR (PW.unk p.1 (d+1) x) (.inner (PW.put p (d+1) x) y) else nodeR (PW.unk p.1 (d+1) y) (.inner x (PW.put p (d+1) y))
def putR(p:PairT)(d:Nat)(w:PW):RV:=nodeR (PW.unk p.1 d w) (PW.put p d w)
def nodeR_ok(u:Bool)(w:PW):(nodeR u w).sv.Ok:=by cases u<;>exact λx hx=>by simp only [aH,gB,or_false] at hx;rcases hx with rfl|rfl<;>exact trivial
def putR_inner(p:PairT)(d:Nat)(x y:PW):putS p d x y=putR p d (.inner x y):=by unfold putR putS PW.unk;show _=nodeR (PW.tell p.1 (if cL p.1 d=0 then PW.find p.1 (d+1) x else PW.find p.1 (d+1) y)).2.2 (if cL p.1 d=0 then .inner (PW.put p (d+1) x) y else .inner x (PW.put p (d+1) y));split<;>rfl
def unk_leaf{q:PairT}{k:zu}{d:Nat}:PW.unk k d (.leaf q)=false:=by show(if q.1=k then(q.2,true,false) else(eC,false,false)).2.2=false;split<;>rfl
def put_two{q p:PairT}{d n:Nat}(hn:n+d=256)(hne:q.1≠p.1):PW.put p d (.leaf q)=PW.two n d q p:=by show(if q.1=p.1 then _ else PW.two (256-d) d q p)=_;rw [if_neg hne,show 256-d=n by omega]
def putR_left{q p:PairT}{d n:Nat}(hn:n+1+d=256)(hne:q.1≠p.1)(hq:cL q.1 d=0):putS p d (.leaf q) .empty=putR p d (.leaf q):=by
 have hb:=gE p.1 d;have h1:=put_two (d:=d) (n:=n+1) (by omega) hne;have h2:=put_two (d:=d+1) (n:=n) (by omega) hne;unfold putR putS;rw [unk_leaf,unk_leaf,h1,h2,two_succ];by_cases e:cL p.1 d=0
 .rw [if_pos e,if_pos (by omega),if_pos hq]
 .rw [if_neg e,if_neg (by omega),if_pos hq];rfl
def putR_right{q p:PairT}{d n:Nat}(hn:n+1+d=256)(hne:q.1≠p.1)(hq:cL q.1 d≠0):putS p d .empty (.leaf q)=putR p d (.leaf q):=by
 have hb:=gE p.1 d;have hb2:=gE q.1 d;have h1:=put_two (d:=d) (n:=n+1) (by omega) hne;have h2:=put_two (d:=d+1) (n:=n) (by omega) hne;unfold putR putS;rw [unk_leaf,unk_leaf,h1,h2,two_succ];by_cases e:cL p.1 d=0
 .rw [if_pos e,if_neg (by omega),if_neg hq];rfl
 .rw [if_neg e,if_pos (by omega),if_neg hq]
def built_sides(t1 t2:yn)(v1 v2:yl):prog.built 210 [(0,.iface t1 v1),(1,.iface t2 v2)]=some #[.iface t1 v1,.iface t2 v2]:=by kernel_rfl
def run_sides{N:Nat}{E:SE}{o:Oper}{x y:yo}{X Y:PW}(ho:o.op = .build 210 #[(0,x),(1,y)])(hx:evS E x=some (.v X.val))(hy:evS E y=some (.v Y.val)) :
  ∀(G:zk) (a:Act) (w:yp),Fr N (denE G E) a->(execOp a.eval o).run prog w = .ok (.value ((SV.p (sdW X Y)).den G)) w:=λG a w ha=>by
 have h1:a.eval x = .iface X.ty (SQ.p X.ps).den:=by rw [<-X.val_eq];exact ha.eval (evS_ok hx)
 have h2:a.eval y = .iface Y.ty (SQ.p Y.ps).den:=by rw [<-Y.val_eq];exact ha.eval (evS_ok hy)
 unfold execOp
 have h:prog.built 210 (Array.map (λx:Nat×yo=>(x.1,a.eval x.2)) #[(0,x),(1,y)]).toList=some #[.iface X.ty (SQ.p X.ps).den,.iface Y.ty (SQ.p Y.ps).den]:=by rw [Array.toList_map];show prog.built 210 [(0,a.eval x),(1,a.eval y)]=_;rw [h1,h2];exact built_sides _ _ _ _
 simp only [ho,aG,run_build w 210 _ _ h,aC,aI];rw [<-X.val_eq,<-Y.val_eq]
 rfl
def bad_mono{a b a' b':PW}(ha:a.kind<=a'.kind)(hb:b.kind<=b'.kind)(h:PW.bad a b=false):PW.bad a' b'=false:=by unfold PW.bad at *;generalize a.kind=x at *;generalize b.kind=y at *;generalize a'.kind=x' at *;generalize b'.kind=y' at *;simp only [Bool.or_eq_false_iff,u5,beq_eq_false_iff_ne] at *;omega
def two_kind(n d:Nat)(q p:PairT):(PW.two (n+1) d q p).kind=2:=by
 rw [two_succ];split
 .split<;>rfl
 .split<;>rfl
theorem PW.Right.put{p:PairT}(hp:OkT2 p):∀{n:Nat} {way:zj} {w:PW},n+way.length=256->PW.Right way w->Leads way p.1->PW.Right way (PW.put p way.length w)/\w.kind<=(PW.put p way.length w).kind
 | _,way,.empty,_,_,hk=>⟨⟨hp.1,hp.2,hk⟩,aL _⟩
 | n,way,.leaf q,hn,hr,hk=>by
  obtain⟨h1,h2,h3⟩:=hr;by_cases e:q.1=p.1
  .have:PW.put p way.length (.leaf q) = .leaf p:=by
    show(if q.1=p.1 then _ else _)=_;rw [if_pos e]
   rw [this];exact⟨⟨hp.1,hp.2,hk⟩,aF _⟩
  .rw [put_two hn e]
   obtain⟨m,rfl⟩:∃m,n=m+1:=⟨n-1,by
    by_cases e0:n=0
    .subst e0;have:=Leads.share h3 hk;rw [show way.length=256 by omega] at this;exact absurd (this.all h1 hp.1) e
    .omega⟩
   refine⟨PW.Of.right (ks:=[]) (l:=dQ [q] p) (PW.two_of (m+1) hn h1 hp.1 e (Leads.share h3 hk)) λy hy=>?_,by rw [two_kind];exact qS _⟩;have:y=q\/y=p:=by rcases PW.putT_pair e with e2|e2<;>rw [e2] at hy<;>simp at hy<;>rcases hy with h|h<;>simp [h]
   rcases this with rfl|rfl
   .exact⟨h1,h2,h3⟩
   .exact⟨hp.1,hp.2,hk⟩
 | n,way,.inner a b,hn,hr,hk=>by
  obtain⟨h1,h2,h3,h4⟩:=hr;obtain⟨m,rfl⟩:∃m,n=m+1:=⟨n-1,by omega⟩;have elen:∀x:Nat,(way++[x]).length=way.length+1:=λx=>by rw [aA,bI]
  have hb2:=gE p.1 way.length;show PW.Right way (if cL p.1 way.length=0 then _ else _)/\2<=PW.kind (if cL p.1 way.length=0 then _ else _);by_cases hb:cL p.1 way.length=0
  .rw [if_pos hb];have:=PW.Right.put hp (n:=m) (way:=way++[0]) (by rw [elen];omega) h2 (Leads.more.2 ⟨hk,hb⟩);rw [elen] at this;exact⟨⟨h1,this.1,h3,bad_mono this.2 (aF _) h4⟩,aF _⟩
  .rw [if_neg hb];have:=PW.Right.put hp (n:=m) (way:=way++[1]) (by rw [elen];omega) h3 (Leads.more.2 ⟨hk,by omega⟩);rw [elen] at this;exact⟨⟨h1,h2,this.1,bad_mono (aF _) this.2 h4⟩,aF _⟩
 | _,way,.hid h,_,hr,_=>⟨hr,aF _⟩
def own_wput:Own 121:=λ_ _=>by go_simp
theorem wput_S{p:PairT}(hp:OkT2 p):∀(n:Nat) (w:PW) (way:zj),n+way.length=256->w.Right way->Leads way p.1->Spec 121 [w.val,(lfQ p).den,.int .u8 ((way.length%256:Nat):Int)] [] Tsh (one (putR p way.length w)):=by
 intro n;induction n using rU with
 | ind n ih =>
 intro w way hn hr hk;obtain⟨D,hD⟩:∃D,way.length%256=D:=⟨_,rfl⟩;rw [hD];refine zQ [.c (.v w.val),lfQ p,.c (.v (.int .u8 (D:Int)))] 75 func121 rfl (by rw [ntmps121];rfl) (more_ok trivial (two_ok (PW.ps_ok (w:=.leaf p) hp) trivial)) λb=>?_;have elen:∀x:Nat,(way++[x]).length=way.length+1:=λx=>by rw [aA,bI]
 refine zA rfl (zC rfl λK1 hK1=>l_op (.v PW.empty.val) trivial rfl rfl rfl (run_mkI rfl underlying199 rfl rfl) (zB rfl (l_op (.v PW.empty.val) trivial rfl rfl rfl (run_mkI rfl underlying199 rfl rfl) (l_op (.p (sdW .empty .empty)) (sdW_ok _ _) rfl rfl rfl (run_sides rfl rfl rfl) (zB rfl (zJ (hK1 _ (s_keep [0,2,4,8] [4,8] rfl rfl (zM λK hK=>?_)))))))));have hrest:∀x y:PW,x.Right (way++[0])->y.Right (way++[1])->putS p way.length x y=putR p way.length w->D=way.length->∀m,n=m+1->∀en,Weak en ⟨[(2,.v (.int .u8 (D:Int))),(4,.a 4 0),(8,.a 8 0)],[⟨8,none,210,sdW x y⟩,⟨4,none,205,(PW.leaf p).ps⟩],[],Tsh,λ_=>True⟩->kS b K 75 en:=by
  intro x y hx hy heq hDw n hnn en hw;subst hDw hnn;refine k_weak hw (hK _ ?_);have hb2:=gE p.1 way.length;have hlt:way.length<256:=by omega
  obtain⟨e8,he8⟩:∃e,(way.length+1)%256=e:=⟨_,rfl⟩;have hw8:IntKind.u8.wrap ((way.length:Int)+1)=(e8:Int):=by
   have:=wrap_u8 way.length
   rwa [a7 hlt,he8] at this
  refine zC rfl λK3 hK3=>z6 [(eY 32 p.1).den,.int .u8 (way.length:Int)] own_wbit rfl (wbit_S hp.1 way.length hlt) (λ_ _ _=>trivial) λ_=>?_;by_cases hb:cL p.1 way.length=0
  .refine l_num 55 0 rfl (by rw [hb];rfl) ?_
   refine zB rfl (zJ (hK3 _ (s_keep [2,4,8,13] [4,8] rfl rfl ?_)));have ihx:=ih n (jS n) x (way++[0]) (by rw [elen];omega) hx (Leads.more.2 ⟨hk,hb⟩);rw [elen,he8] at ihx;unfold putR at ihx;cases hu:PW.unk p.1 (way.length+1) x with
   | true =>
    rw [hu] at ihx;replace ihx:Spec 121 [x.val,(lfQ p).den,.int .u8 (e8:Int)] [] Tsh (one (.t [.c (.v .nilIface),.c (.v (.int .i64 100))])):=ihx;refine s_regD 12 (by decide) (by kernel_rfl) (by kernel_rfl) λK4 hK4 G S w0 hst=>?_;refine g_autoS zY hst rfl ?_;refine g_opS (.a 8 (0+1*0)) trivial rfl rfl rfl (runO_ixA 0 rfl underlying210 rfl rfl rfl (by decide)) ?_;refine g_opV hst (.v x.val) trivial rfl rfl rfl (runO_ldA _ rfl rfl rfl rfl underlying85 rfl) (g_autoS zY hst rfl (g_num 62 (e8:Int) rfl hw8 ?_))
    refine g_callS (F':=Tsh) hst [x.val,(lfQ p).den,.int .u8 (e8:Int)] rfl rfl rfl own_wput rfl rfl (λ_=>rfl) ihx (λu hu=>by
     rcases aH.1 hu with rfl|hu
     .exact trivial
     .rw [aD.1 hu];exact trivial) (λ_ _ _ hv=>hv.fact.2) ?_
    refine g_autoS zY hst rfl (g_endS hst (zB rfl (zJ (hK4 _ (s_keep [8,13,14,15] [8] rfl rfl (zM λK5 hK5=>zA rfl ?_))))));refine zW ((100:Int)≠0) rfl (λ_=>?_) (λh=>absurd (by decide) h);refine zA rfl ?_;exact zP (zR zY () rfl (by decide) rfl (by rw [<-heq];unfold putS;rw [if_pos hb,hu];rfl) rfl (λ_ _ _=>trivial) zU)
   | false =>
    rw [hu] at ihx;replace ihx:Spec 121 [x.val,(lfQ p).den,.int .u8 (e8:Int)] [] Tsh (one (.t [.c (.v (PW.put p (way.length+1) x).val),.c (.v (.int .i64 0))])):=ihx;refine s_regD 12 (by decide) (by kernel_rfl) (by kernel_rfl) λK4 hK4 G S w0 hst=>?_;refine g_autoS zY hst rfl ?_;refine g_opS (.a 8 (0+1*0)) trivial rfl rfl rfl (runO_ixA 0 rfl underlying210 rfl rfl rfl (by decide)) ?_;refine g_opV hst (.v x.val) trivial rfl rfl rfl (runO_ldA _ rfl rfl rfl rfl underlying85 rfl) (g_autoS zY hst rfl (g_num 62 (e8:Int) rfl hw8 ?_))
    refine g_callS (F':=Tsh) hst [x.val,(lfQ p).den,.int .u8 (e8:Int)] rfl rfl rfl own_wput rfl rfl (λ_=>rfl) ihx (λu hu=>by
     rcases aH.1 hu with rfl|hu
     .exact trivial
     .rw [aD.1 hu];exact trivial) (λ_ _ _ hv=>hv.fact.2) ?_
    refine g_autoS zY hst rfl (g_endS hst (zB rfl (zJ (hK4 _ (s_keep [8,13,14,15] [8] rfl rfl (zM λK5 hK5=>zA rfl ?_))))));refine zW ((0:Int)≠0) rfl (λh=>absurd rfl h) (λ_=>?_);refine zO (hK5 _ (zC rfl λK6 hK6=>?_));refine l_op (.a 8 (0+1*0)) trivial rfl rfl rfl (runO_ixA 0 rfl underlying210 rfl rfl rfl (by decide)) ?_;refine l_stA (sdW (PW.put p (way.length+1) x) y) rfl rfl rfl rfl rfl rfl rfl (PW.val_cells _) (PW.val_one _) (show _<2 by decide) (sdW_ok _ _) rfl ?_;refine zJ (hK6 _ (s_keep [8] [8] rfl rfl ?_))
    have hxr:(PW.put p (way.length+1) x).Good:=by have:=PW.Right.put hp (n:=n) (way:=way++[0]) (by rw [elen];omega) hx (Leads.more.2 ⟨hk,hb⟩);rw [elen] at this;exact this.1.good
    refine zC rfl λK7 hK7=>?_;refine z6 [(SQ.p (sdW (PW.put p (way.length+1) x) y)).den] (λ_ _=>by go_simp) rfl (winnerOf_S hxr hy.good) (λ_ h _=>h.2) λ_=>?_;refine l_op (.v (PW.inner (PW.put p (way.length+1) x) y).val) trivial rfl rfl rfl (run_mkI (q:=.p (PW.inner (PW.put p (way.length+1) x) y).ps) rfl underlying212 rfl rfl) (zB rfl (zJ (hK7 _ ?_)));exact zP (zR zY () rfl (by decide) rfl (by rw [<-heq];unfold putS;rw [if_pos hb,hu];rfl) rfl (λ_ _ _=>trivial) zU)
  .refine l_num 55 1 rfl (by rw [show cL p.1 way.length=1 by omega];rfl) ?_
   refine zB rfl (zJ (hK3 _ (s_keep [2,4,8,13] [4,8] rfl rfl ?_)));have ihx:=ih n (jS n) y (way++[1]) (by rw [elen];omega) hy (Leads.more.2 ⟨hk,by omega⟩);rw [elen,he8] at ihx;unfold putR at ihx;cases hu:PW.unk p.1 (way.length+1) y with
   | true =>
    rw [hu] at ihx;replace ihx:Spec 121 [y.val,(lfQ p).den,.int .u8 (e8:Int)] [] Tsh (one (.t [.c (.v .nilIface),.c (.v (.int .i64 100))])):=ihx;refine s_regD 12 (by decide) (by kernel_rfl) (by kernel_rfl) λK4 hK4 G S w0 hst=>?_;refine g_autoS zY hst rfl ?_;refine g_opS (.a 8 (0+1*1)) trivial rfl rfl rfl (runO_ixA 1 rfl underlying210 rfl rfl rfl (by decide)) ?_;refine g_opV hst (.v y.val) trivial rfl rfl rfl (runO_ldA _ rfl rfl rfl rfl underlying85 rfl) (g_autoS zY hst rfl (g_num 62 (e8:Int) rfl hw8 ?_))
    refine g_callS (F':=Tsh) hst [y.val,(lfQ p).den,.int .u8 (e8:Int)] rfl rfl rfl own_wput rfl rfl (λ_=>rfl) ihx (λu hu=>by
     rcases aH.1 hu with rfl|hu
     .exact trivial
     .rw [aD.1 hu];exact trivial) (λ_ _ _ hv=>hv.fact.2) ?_
    refine g_autoS zY hst rfl (g_endS hst (zB rfl (zJ (hK4 _ (s_keep [8,13,14,15] [8] rfl rfl (zM λK5 hK5=>zA rfl ?_))))));refine zW ((100:Int)≠0) rfl (λ_=>?_) (λh=>absurd (by decide) h);refine zA rfl ?_;exact zP (zR zY () rfl (by decide) rfl (by rw [<-heq];unfold putS;rw [if_neg hb,hu];rfl) rfl (λ_ _ _=>trivial) zU)
   | false =>
    rw [hu] at ihx;replace ihx:Spec 121 [y.val,(lfQ p).den,.int .u8 (e8:Int)] [] Tsh (one (.t [.c (.v (PW.put p (way.length+1) y).val),.c (.v (.int .i64 0))])):=ihx;refine s_regD 12 (by decide) (by kernel_rfl) (by kernel_rfl) λK4 hK4 G S w0 hst=>?_;refine g_autoS zY hst rfl ?_;refine g_opS (.a 8 (0+1*1)) trivial rfl rfl rfl (runO_ixA 1 rfl underlying210 rfl rfl rfl (by decide)) ?_;refine g_opV hst (.v y.val) trivial rfl rfl rfl (runO_ldA _ rfl rfl rfl rfl underlying85 rfl) (g_autoS zY hst rfl (g_num 62 (e8:Int) rfl hw8 ?_))
    refine g_callS (F':=Tsh) hst [y.val,(lfQ p).den,.int .u8 (e8:Int)] rfl rfl rfl own_wput rfl rfl (λ_=>rfl) ihx (λu hu=>by
     rcases aH.1 hu with rfl|hu
     .exact trivial
     .rw [aD.1 hu];exact trivial) (λ_ _ _ hv=>hv.fact.2) ?_
    refine g_autoS zY hst rfl (g_endS hst (zB rfl (zJ (hK4 _ (s_keep [8,13,14,15] [8] rfl rfl (zM λK5 hK5=>zA rfl ?_))))));refine zW ((0:Int)≠0) rfl (λh=>absurd rfl h) (λ_=>?_);refine zO (hK5 _ (zC rfl λK6 hK6=>?_));refine l_op (.a 8 (0+1*1)) trivial rfl rfl rfl (runO_ixA 1 rfl underlying210 rfl rfl rfl (by decide)) ?_;refine l_stA (sdW x (PW.put p (way.length+1) y)) rfl rfl rfl rfl rfl rfl rfl (PW.val_cells _) (PW.val_one _) (show _<2 by decide) (sdW_ok _ _) rfl ?_;refine zJ (hK6 _ (s_keep [8] [8] rfl rfl ?_))
    have hxr:(PW.put p (way.length+1) y).Good:=by have:=PW.Right.put hp (n:=n) (way:=way++[1]) (by rw [elen];omega) hy (Leads.more.2 ⟨hk,by omega⟩);rw [elen] at this;exact this.1.good
    refine zC rfl λK7 hK7=>?_;refine z6 [(SQ.p (sdW x (PW.put p (way.length+1) y))).den] (λ_ _=>by go_simp) rfl (winnerOf_S hx.good hxr) (λ_ h _=>h.2) λ_=>?_;refine l_op (.v (PW.inner x (PW.put p (way.length+1) y)).val) trivial rfl rfl rfl (run_mkI (q:=.p (PW.inner x (PW.put p (way.length+1) y)).ps) rfl underlying212 rfl rfl) (zB rfl (zJ (hK7 _ ?_)));exact zP (zR zY () rfl (by decide) rfl (by rw [<-heq];unfold putS;rw [if_neg hb,hu];rfl) rfl (λ_ _ _=>trivial) zU)
 refine zA rfl (zN (zC rfl λK2 hK2=>?_));refine l_kind 0 hr.good (by decide) rfl rfl rfl rfl rfl ?_;refine zB rfl (zJ (hK2 _ ?_));cases w with
 | empty =>
  refine s_yes rfl (zA rfl (zC rfl λK3 hK3=>l_op (.v (PW.leaf p).val) trivial rfl rfl rfl (run_mkI (q:=lfQ p) rfl underlying205 rfl rfl) (zB rfl (zJ (hK3 _ ?_)))));exact zP (zG () rfl (λ_ _ _=>trivial) zU)
 | hid h =>
  refine s_no rfl (zC rfl λK3 hK3=>?_);refine l_kind (W:=.hid h) 3 hr.good (by decide) rfl rfl rfl rfl rfl ?_;refine zB rfl (zJ (hK3 _ (s_yes rfl (zA rfl (zA rfl ?_)))));exact zP (zG () rfl (λ_ _ _=>trivial) zU)
 | leaf q =>
  have hq:OkT2 q:=hr.good;refine s_no rfl (zC rfl λK3 hK3=>?_);refine l_kind (W:=.leaf q) 3 hr.good (by decide) rfl rfl rfl rfl rfl ?_;refine zB rfl (zJ (hK3 _ (s_no rfl (zC rfl λK4 hK4=>?_))));refine l_kind (W:=.leaf q) 1 hr.good (by decide) rfl rfl rfl rfl rfl ?_;refine zB rfl (zJ (hK4 _ (s_yes rfl (zA rfl (zM λK5 hK5=>zC rfl λK6 hK6=>?_)))));refine l_op (.b (decide (q.1=p.1))) trivial rfl rfl rfl (run_eqY rfl rfl rfl underlying47 (by kernel_rfl) hq.1 hp.1) ?_;refine zJ (hK6 _ ?_);refine zW (q.1=p.1) rfl (λhe=>?_) (λhe=>?_)
  .refine zC rfl λK7 hK7=>?_;refine l_op (.v (PW.leaf p).val) trivial rfl rfl rfl (run_mkI (q:=lfQ p) rfl underlying205 rfl rfl) (zB rfl (zJ (hK7 _ ?_)));exact zP (zR zY () rfl (by decide) rfl (by show putR p way.length (.leaf q)=_;unfold putR;rw [unk_leaf];show nodeR false (if q.1=p.1 then _ else _)=_;rw [if_pos he];rfl) rfl (λ_ _ _=>trivial) zU)
  refine zO (hK5 _ ?_)
  obtain⟨m,rfl⟩:∃m,n=m+1:=⟨n-1,by
   by_cases e0:n=0
   .subst e0;have:=Leads.share hr.2.2 hk;rw [show way.length=256 by omega] at this;exact absurd (this.all hq.1 hp.1) he
   .omega⟩
  have hDw:D=way.length:=by omega
  have hlt:way.length<256:=by omega
  have hqb2:=gE q.1 way.length;refine s_drawn 6 (by decide) (by kernel_rfl) (by kernel_rfl) λG S w0 hst=>?_;refine g_autoS zY hst rfl ?_;refine g_num 42 (way.length:Int) rfl (by rw [hDw]) ?_;refine g_callS (F':=λ_=>True) hst [(eY 32 q.1).den,.int .u8 (way.length:Int)] rfl rfl rfl own_wbit rfl rfl (λ_=>rfl) (wbit_S hq.1 way.length hlt) trivial (λ_ _ _ _=>trivial) (g_autoS zY hst rfl (g_opS (.v (PW.leaf q).val) trivial rfl rfl rfl (run_mkI (q:=.p (PW.leaf q).ps) rfl underlying205 rfl rfl) (g_endS hst ?_)))
  by_cases hqb:cL q.1 way.length=0
  .refine l_num 43 0 rfl (by rw [hqb];rfl) ?_;refine l_op (.a 8 (0+1*0)) trivial rfl rfl rfl (runO_ixA 0 rfl underlying210 rfl rfl rfl (by decide)) ?_;refine l_stA (sdW (.leaf q) .empty) rfl rfl rfl rfl rfl rfl rfl (PW.val_cells (.leaf q)) (PW.val_one (.leaf q)) (show _<2 by decide) (sdW_ok _ _) rfl ?_;exact zJ (hrest (.leaf q) .empty ⟨hq.1,hq.2,Leads.more.2 ⟨hr.2.2,hqb⟩⟩ trivial (putR_left (n:=m) (by omega) he hqb) hDw m rfl _ ⟨zE rfl, zL rfl rfl, .refl _,λ_ h _=>h, zU⟩)
  .refine l_num 43 1 rfl (by rw [show cL q.1 way.length=1 by omega];rfl) ?_;refine l_op (.a 8 (0+1*1)) trivial rfl rfl rfl (runO_ixA 1 rfl underlying210 rfl rfl rfl (by decide)) ?_;refine l_stA (sdW .empty (.leaf q)) rfl rfl rfl rfl rfl rfl rfl (PW.val_cells (.leaf q)) (PW.val_one (.leaf q)) (show _<2 by decide) (sdW_ok _ _) rfl ?_;exact zJ (hrest .empty (.leaf q) trivial ⟨hq.1,hq.2,Leads.more.2 ⟨hr.2.2,by omega⟩⟩ (putR_right (n:=m) (by omega) he hqb) hDw m rfl _ ⟨zE rfl, zL rfl rfl, .refl _,λ_ h _=>h, zU⟩)
 | inner x y =>
  have hgood:=hr.good;obtain⟨hlt,hx,hy,_⟩:=hr;refine s_no rfl (zC rfl λK3 hK3=>?_);refine l_kind (W:=.inner x y) 3 hgood (by decide) rfl rfl rfl rfl rfl ?_;refine zB rfl (zJ (hK3 _ (s_no rfl (zC rfl λK4 hK4=>?_))));refine l_kind (W:=.inner x y) 1 hgood (by decide) rfl rfl rfl rfl rfl ?_;refine zB rfl (zJ (hK4 _ (s_no rfl (zC rfl λK5 hK5=>?_))));refine l_kind (W:=.inner x y) 2 hgood (by decide) rfl rfl rfl rfl rfl ?_;refine zB rfl (zJ (hK5 _ (s_yes rfl (zA rfl (zD rfl ?_)))));obtain⟨m,rfl⟩:∃m,n=m+1:=⟨n-1,by omega⟩;exact hrest x y hx hy (putR_inner p way.length x y) (by omega) m rfl _ ⟨zE rfl, zL rfl rfl, .refl _,λ_ h _=>h, zU⟩
def partR(unk:Bool)(w:PW):RV:=match unk with
  | true=>.t [prQ .empty,.c (.v (.int .i64 100))]
  | false=>.t [prQ w,.c (.v (.int .i64 0))]
theorem wPut_S{p:PairT}(hp:OkT2 p)(w:PW)(hr:w.Right []):Spec 89 [(prQ w).den,(eY 32 p.1).den,(eY 32 p.2).den] [] Tsh (one (partR (PW.unk p.1 0 w) (PW.put p 0 w))):=by
 refine zQ [prQ w,eY 32 p.1,eY 32 p.2] 25 func89 rfl (by rw [ntmps89];rfl) (more_ok (prQ_ok w) (two_ok (eY_ok hp.1).1 (eY_ok hp.2).1)) λb=>?_;have hput:=wput_S hp 256 w [] rfl hr (Leads.nil _);replace hput:Spec 121 [w.val,(lfQ p).den,.int .u8 0] [] Tsh (one (nodeR (PW.unk p.1 0 w) (PW.put p 0 w))):=hput;generalize PW.unk p.1 0 w=u at *;generalize PW.put p 0 w=w' at *;refine zA rfl ?_;cases u with
 | true =>
  refine s_regD 11 (by decide) (by kernel_rfl) (by kernel_rfl) λK1 hK1 G S w0 hst=>?_;refine g_autoS zY hst rfl (g_callS (F':=λ_=>True) hst [(prQ w).den] rfl rfl rfl own_wnode rfl rfl (λ_=>rfl) (wnode_S w) trivial (λ_ _ _ _=>trivial) (g_autoS zY hst rfl ?_));refine g_callS (F':=Tsh) hst [(eY 32 p.1).den,(eY 32 p.2).den] rfl rfl rfl (λ_ _=>by go_simp) rfl rfl (λ_=>rfl) (wleafOf_S hp) (PW.ps_ok (w:=.leaf p) hp) (λ_ _ _ hv=>hv.fact) ?_;refine g_callS (F':=Tsh) hst [w.val,(lfQ p).den,.int .u8 0] rfl rfl rfl own_wput rfl rfl (λ_=>rfl) hput (nodeR_ok _ _) (λ_ _ _ hv=>hv.fact) (g_autoS zY hst rfl (g_endS hst (zB rfl (zJ (hK1 _ (zM λK5 hK5=>zA rfl ?_))))));refine zW ((100:Int)≠0) rfl (λ_=>?_) (λh=>absurd (by decide) h);refine zA rfl ?_;exact zP (zG () rfl (λ_ _ _=>trivial) zU)
 | false =>
  refine s_regD 11 (by decide) (by kernel_rfl) (by kernel_rfl) λK1 hK1 G S w0 hst=>?_;refine g_autoS zY hst rfl (g_callS (F':=λ_=>True) hst [(prQ w).den] rfl rfl rfl own_wnode rfl rfl (λ_=>rfl) (wnode_S w) trivial (λ_ _ _ _=>trivial) (g_autoS zY hst rfl ?_));refine g_callS (F':=Tsh) hst [(eY 32 p.1).den,(eY 32 p.2).den] rfl rfl rfl (λ_ _=>by go_simp) rfl rfl (λ_=>rfl) (wleafOf_S hp) (PW.ps_ok (w:=.leaf p) hp) (λ_ _ _ hv=>hv.fact) ?_;refine g_callS (F':=Tsh) hst [w.val,(lfQ p).den,.int .u8 0] rfl rfl rfl own_wput rfl rfl (λ_=>rfl) hput (nodeR_ok _ _) (λ_ _ _ hv=>hv.fact) (g_autoS zY hst rfl (g_endS hst (zB rfl (zJ (hK1 _ (zM λK5 hK5=>zA rfl ?_))))));refine zW ((0:Int)≠0) rfl (λh=>absurd rfl h) (λ_=>?_);refine zO (hK5 _ (zC rfl λK6 hK6=>?_));refine z6 [w'.val] (λ_ _=>by go_simp) rfl (wpart_S w') (λ_ _ _=>trivial) λ_=>?_;refine zB rfl (zJ (hK6 _ ?_));exact zP (zG () rfl (λ_ _ _=>trivial) zU)
structure RSw where
  A:zt
  c:Nat
  l:zu
  e:Nat
namespace RSw
def ps(s:RSw):zb:=[.one (.v (.slice s.A s.l.length s.c)),.one (.v (.int .i64 (s.e:Int)))]
def rd(s:RSw)(w:yp):Prop:=Rd 1 eB s.A s.c s.l w
instance{s:RSw}:Pst s.rd:=⟨λ_ _ h hb=>Rd.later h hb⟩
def fail(s:RSw)(x:Nat):RSw:=⟨s.A,s.c,s.l,if s.e=0 then x else s.e⟩
def cut(s:RSw)(n:Nat):RSw:=⟨cutA s.A s.c n,s.c-n,s.l.drop n,s.e⟩
def rd_cut{s:RSw}{n:Nat}{w:yp}(h:s.rd w)(hn:n<=s.l.length):(s.cut n).rd w:=Rd.part h hn
def fail_e{s:RSw}{x:Nat}(h:s.e≠0):s.fail x=s:=by unfold fail;rw [if_neg h]
def fail_0{s:RSw}{x:Nat}(h:s.e=0):s.fail x=⟨s.A,s.c,s.l,x⟩:=by unfold fail;rw [if_pos h]
end RSw
abbrev RdQ(g:Nat)(s:RSw):Res:=ObjS g 222 s.ps
abbrev ptV(g:Nat):yl:=.pointer (some ⟨g,0,none⟩)
def own_wfails:Own 118:=λ_ _=>by go_simp
def wfails_S(g:Nat)(s:RSw)(x:Nat):Spec 118 [ptV g,.int .i64 (x:Int)] [RdQ g s] (λ_=>True) { ret:=λ_:Unit=>.t [],own:=λ_=>[RdQ g (s.fail x)] }:=by
 refine zQ [.c (.v (ptV g)),.c (.v (.int .i64 (x:Int)))] 13 func118 rfl (by rw [ntmps118];rfl) (two_ok trivial trivial) λb=>?_;refine zC rfl λK hK=>zZ rfl (obj_own 0 rfl) (zB rfl (zJ (hK _ ?_)));refine zW ((s.e:Int)=0) rfl (λh0=>?_) (λh0=>?_)
 .refine s_lit ?_;refine zB rfl (l_stO zY 0 rfl rfl rfl rfl rfl rfl rfl ?_);exact zJ (zR zY () rfl (by decide) rfl rfl (by rw [RSw.fail_0 (by omega)];rfl) (λ_ _ _=>trivial) zU)
 .exact zO (zR zY () rfl (by decide) rfl rfl (by rw [RSw.fail_e (by omega)]) (λ_ _ _=>trivial) zU)
def RSw.can(s:RSw)(n:Nat):Prop:=s.e=0/\n<=s.l.length
def wtake_yes(g:Nat)(s:RSw)(n:Nat)(h:s.can n):Spec 207 [ptV g,.int .i64 (n:Int)] [RdQ g s] s.rd { ret:=λ_:Unit=>.v (.slice s.A n s.c),own:=λ_=>[RdQ g (s.cut n)] }:=by obtain⟨A,c,l,e⟩:=s;obtain⟨he,hn⟩:=h;dsimp only at he hn;subst he;refine zQ [.c (.v (ptV g)),.c (.v (.int .i64 (n:Int)))] 36 func207 rfl (by rw [ntmps207];rfl) (two_ok trivial trivial) λb=>?_;refine s_pure (l.length<=c/\(A=none->c=0)) (λw hw _=>⟨hw.1,hw.2.2.1⟩) λ⟨hlc,hA⟩=>?_;refine zA rfl (zM λK hK=>zC rfl λK1 hK1=>zZ rfl (obj_own 0 rfl) (zB rfl (zJ (hK1 _ ?_))));refine zW ((l.length:Int)<(n:Int)) rfl (λh0=>absurd h0 (by omega)) (λ_=>?_);refine zO (hK _ (zM λK2 hK2=>zC rfl λK3 hK3=>zZ rfl (obj_own 0 rfl) (zB rfl (zJ (hK3 _ ?_)))));refine zW (((0:Nat):Int)≠0) rfl (λh0=>absurd rfl h0) (λ_=>?_);refine zO (hK2 _ (zC rfl λK4 hK4=>zZ rfl (obj_own 0 rfl) (zB rfl ?_)));refine l_op (.v (.slice A n c)) trivial rfl rfl rfl (run_cutHi (sz:=1) (by kernel_rfl) (by omega) hA rfl underlying39 rfl rfl) ?_;refine zB rfl (zJ (hK4 _ (zC rfl λK5 hK5=>zZ rfl (obj_own 0 rfl) (zB rfl (l_op (.v (.slice (cutA A c n) (l.length-n) (c-n))) trivial rfl rfl rfl (run_cutLo hn hlc hA rfl rfl rfl) (zB rfl (l_stO zY 0 rfl rfl rfl rfl rfl rfl rfl (zJ (hK5 _ (zA rfl ?_))))))))));exact zP (zR zY () rfl (by decide) rfl rfl (by show [ObjS g _ [.one (.v (.slice (cutA A c n) (l.drop n).length (c-n))),_]]=_;rw [cU];rfl) (λ_ _ _=>trivial) zU)
def wtake_no(g:Nat)(s:RSw)(n:Nat)(h:¬s.can n):Spec 207 [ptV g,.int .i64 (n:Int)] [RdQ g s] (λ_=>True) { ret:=λ_:Unit=>.v (.slice none 0 0),own:=λ_=>[RdQ g (s.fail 10)] }:=by
 refine zQ [.c (.v (ptV g)),.c (.v (.int .i64 (n:Int)))] 36 func207 rfl (by rw [ntmps207];rfl) (two_ok trivial trivial) λb=>?_;refine zA rfl (zM λK hK=>zC rfl λK1 hK1=>zZ rfl (obj_own 0 rfl) (zB rfl (zJ (hK1 _ ?_))));have hne:(s.fail 10).e≠0:=by
  show(if s.e=0 then 10 else s.e)≠0;split
  .decide
  .assumption
 have hrest:∀en,Weak en ⟨[(0,.v (ptV g)),(4,.v (.slice none 0 0))],[],[RdQ g (s.fail 10)],λ_=>True,λ_=>True⟩->kS b K 36 en:=by intro en hw;refine k_weak hw (hK _ (zM λK2 hK2=>zC rfl λK3 hK3=>zZ rfl (obj_own 0 rfl) (zB rfl (zJ (hK3 _ ?_)))));refine zW (((s.fail 10).e:Int)≠0) rfl (λh0=>?_) (λh0=>absurd (by omega) h0);refine zA rfl ?_;exact zP (zG () rfl (λ_ _ _=>trivial) zU)
 refine zW ((s.l.length:Int)<(n:Int)) rfl (λh0=>?_) (λh0=>?_)
 .refine s_lit ?_;refine zB rfl (l_R ([RdQ g s]++[]) rfl (zI [ptV g,.int .i64 10] own_wfails rfl (wfails_S g s 10) (λ_ _ _=>trivial) λ_=>?_));exact zJ (hrest _ ⟨zE rfl, trivial, .refl _,λ_ _ _=>trivial, zU⟩)
 .have he:s.e≠0:=λe=>h ⟨e,by omega⟩;exact zO (hrest _ ⟨⟨rfl,rfl,trivial⟩,trivial,by rw [RSw.fail_e he],λ_ _ _=>trivial, zU⟩)
theorem RSw.can_cons{s:RSw}(h:s.can 1):∃x r,s.l=x::r:=by
 obtain⟨_,h⟩:=h;cases hl:s.l with
 | nil=>rw [hl] at h;exact absurd h (by decide)
 | cons x r=>exact⟨x,r,rfl⟩
def wkind_yes(g:Nat)(s:RSw){x:UInt8}{r:zu}(h:s.can 1)(hx:s.l=x::r):Spec 158 [ptV g] [RdQ g s] s.rd { ret:=λ_:Unit=>.v (.int .u8 (x.toNat:Int)),own:=λ_=>[RdQ g (s.cut 1)] }:=by
 refine zQ [.c (.v (ptV g))] 10 func158 rfl (by rw [ntmps158];rfl) (one_ok trivial) λb=>?_;refine zA rfl (zA rfl (zM λK hK=>?_));refine s_anyP [0,1] 3 1 (λ_=>True) (by kernel_rfl) rfl (λ_ _ _=>trivial) ?_;refine p_frontO (.s 3 0 1 1) trivial 0 (by kernel_rfl) rfl rfl rfl rfl rfl (runO_all rfl underlying319 rfl rfl) ?_;refine z7 (L0:=[]) 1 (by kernel_rfl) rfl (λ_ h=>by cases h) (λ_ _ _ h=>by cases h) ?_;refine p_step 2 (by kernel_rfl) rfl λK1 hK1=>?_;refine l_R ([RdQ g s]++[]) rfl ?_;refine zI [ptV g,.int .i64 1] (λ_ _=>by go_simp) rfl (wtake_yes g s 1 h) (λ_ h _=>h) λ_=>?_;refine zJ (hK1 _ (λ_ _ _=>trivial) ?_);refine p_tail [3] (by kernel_rfl) rfl ?_;refine l_copyV (A:=s.A) (c:=s.c) (z:=[0]) (l:=[x]) rfl rfl rfl rfl rfl rfl rfl rfl (aF 1) (rd_fact λw h _=>?_) ?_
 .have h2:s.rd w:=h.2;have:=h2.take 1;rw [hx] at this;exact this
 refine zJ (hK _ (zC rfl λK2 hK2=>?_));refine l_op (.a 3 (0+1*0)) trivial rfl rfl rfl (runO_ixA 0 rfl underlying319 rfl rfl rfl (by decide)) ?_;refine l_opV (.v (.int .u8 (x.toNat:Int))) trivial rfl rfl rfl (runO_ldA _ rfl rfl rfl rfl underlying5 rfl) (zB rfl (zJ (hK2 _ ?_)));exact zP (zG () rfl (λ_ _ _=>trivial) zU)
def wkind_no(g:Nat)(s:RSw)(h:¬s.can 1):Spec 158 [ptV g] [RdQ g s] (λ_=>True) { ret:=λ_:Unit=>.v (.int .u8 0),own:=λ_=>[RdQ g (s.fail 10)] }:=by refine zQ [.c (.v (ptV g))] 10 func158 rfl (by rw [ntmps158];rfl) (one_ok trivial) λb=>?_;refine zA rfl (zA rfl (zM λK hK=>?_));refine s_anyP [0,1] 3 1 (λ_=>True) (by kernel_rfl) rfl (λ_ _ _=>trivial) ?_;refine p_frontO (.s 3 0 1 1) trivial 0 (by kernel_rfl) rfl rfl rfl rfl rfl (runO_all rfl underlying319 rfl rfl) ?_;refine z7 (L0:=[]) 1 (by kernel_rfl) rfl (λ_ h=>by cases h) (λ_ _ _ h=>by cases h) ?_;refine p_step 2 (by kernel_rfl) rfl λK1 hK1=>?_;refine l_R ([RdQ g s]++[]) rfl ?_;refine zI [ptV g,.int .i64 1] (λ_ _=>by go_simp) rfl (wtake_no g s 1 h) (λ_ _ _=>trivial) λ_=>?_;refine zJ (hK1 _ (λ_ _ _=>trivial) ?_);refine p_tail [3] (by kernel_rfl) rfl ?_;refine l_copyV (A:=none) (c:=0) (z:=[0]) (l:=[]) rfl rfl rfl rfl rfl rfl rfl rfl (by decide) (rd_fact λw _ _=>Rd.nil _ _ _) ?_;refine zJ (hK _ (zC rfl λK2 hK2=>?_));refine l_op (.a 3 (0+1*0)) trivial rfl rfl rfl (runO_ixA 0 rfl underlying319 rfl rfl rfl (by decide)) ?_;refine l_opV (.v (.int .u8 0)) trivial rfl rfl rfl (runO_ldA _ rfl rfl rfl rfl underlying5 rfl) (zB rfl (zJ (hK2 _ ?_)));exact zP (zG () rfl (λ_ _ _=>trivial) zU)
def whash_yes(g:Nat)(s:RSw)(h:s.can 32):Spec 161 [ptV g] [RdQ g s] s.rd { ret:=λ_:Unit=>.q (eY 32 (s.l.take 32)),own:=λ_=>[RdQ g (s.cut 32)] }:=by
 refine zQ [.c (.v (ptV g))] 9 func161 rfl (by rw [ntmps161];rfl) (one_ok trivial) λb=>?_;have hl:(s.l.take 32).length=32:=by rw [aV];have:=h.2;omega
 refine zA rfl (zA rfl (zM λK hK=>?_));refine s_anyP [0,1] 3 1 (λ_=>True) (by kernel_rfl) rfl (λ_ _ _=>trivial) ?_;refine p_frontO (.s 3 0 32 32) trivial 0 (by kernel_rfl) rfl rfl rfl rfl rfl (runO_all rfl underlying47 rfl rfl) ?_;refine z7 (L0:=[]) 1 (by kernel_rfl) rfl (λ_ h=>by cases h) (λ_ _ _ h=>by cases h) ?_;refine p_step 2 (by kernel_rfl) rfl λK1 hK1=>?_;refine l_R ([RdQ g s]++[]) rfl ?_;refine zI [ptV g,.int .i64 32] (λ_ _=>by go_simp) rfl (wtake_yes g s 32 h) (λ_ h _=>h) λ_=>?_;refine zJ (hK1 _ (λ_ _ _=>trivial) ?_);refine p_tail [3] (by kernel_rfl) rfl ?_;refine l_copyV (A:=s.A) (c:=s.c) (z:=eC) (l:=s.l.take 32) rfl rfl rfl rfl rfl (by rw [hl];rfl) rfl rfl (by rw [hl];exact aF _) (rd_fact λw h _=>?_) ?_
 .have h2:s.rd w:=h.2;exact h2.take 32
 rw [hl,show eC.drop 32=[] from rfl,bC];refine zJ (hK _ (zA rfl ?_));exact zP (zG () rfl (λ_ _ _=>trivial) zU)
def whash_no(g:Nat)(s:RSw)(h:¬s.can 32):Spec 161 [ptV g] [RdQ g s] (λ_=>True) { ret:=λ_:Unit=>.q (eY 32 eC),own:=λ_=>[RdQ g (s.fail 10)] }:=by refine zQ [.c (.v (ptV g))] 9 func161 rfl (by rw [ntmps161];rfl) (one_ok trivial) λb=>?_;refine zA rfl (zA rfl (zM λK hK=>?_));refine s_anyP [0,1] 3 1 (λ_=>True) (by kernel_rfl) rfl (λ_ _ _=>trivial) ?_;refine p_frontO (.s 3 0 32 32) trivial 0 (by kernel_rfl) rfl rfl rfl rfl rfl (runO_all rfl underlying47 rfl rfl) ?_;refine z7 (L0:=[]) 1 (by kernel_rfl) rfl (λ_ h=>by cases h) (λ_ _ _ h=>by cases h) ?_;refine p_step 2 (by kernel_rfl) rfl λK1 hK1=>?_;refine l_R ([RdQ g s]++[]) rfl ?_;refine zI [ptV g,.int .i64 32] (λ_ _=>by go_simp) rfl (wtake_no g s 32 h) (λ_ _ _=>trivial) λ_=>?_;refine zJ (hK1 _ (λ_ _ _=>trivial) ?_);refine p_tail [3] (by kernel_rfl) rfl ?_;refine l_copyV (A:=none) (c:=0) (z:=eC) (l:=[]) rfl rfl rfl rfl rfl rfl rfl rfl (by decide) (rd_fact λw _ _=>Rd.nil _ _ _) ?_;refine zJ (hK _ (zA rfl ?_));exact zP (zG () rfl (λ_ _ _=>trivial) zU)
end Go.Proofs.Q
namespace Go.Proofs.Q
open Go.RowKit Go.IntWalk Nums
theorem PW.cut_le:∀(n:Nat) {d:Nat} {l:za} {ks:zy},(∀p∈l,OkT2 p)->(PW.cut n d l ks).bytes.length<=(70+2*n)*l.length+1
 | n,d,[],_,_=>by cases n<;>exact Nat.le_add_left _ _
 | n,d,p::l,[],_=>by
  have e:(PW.cut n d (p::l) []).bytes.length=33:=by cases n<;>(show(fS _ _).length+1=33;rw [rootT_len])
  rw [e,a6,Nat.mul_succ];omega
 | n,d,[p],k::ks,h=>by
  have hp:=h p aM;have e:(PW.cut n d [p] (k::ks)).bytes.length=65:=by cases n<;>(show(1::(p.1++p.2)).length=65;rw [a6,aA,hp.1,hp.2])
  rw [e];show 65<=(70+2*n)*1+1;omega
 | 0,d,p::q::l,k::ks,_=>by show 1<=_;omega
 | n+1,d,p::q::l,k::ks,h=>by
  have h1:=cut_le n (d:=d+1) (l:=cJ d (p::q::l)) (ks:=PW.keyL d (k::ks)) λx hx=>h x (fZ.1 hx).1;have h2:=cut_le n (d:=d+1) (l:=bU d (p::q::l)) (ks:=PW.keyR d (k::ks)) λx hx=>h x (fG.1 hx).1;have h3:=PW.halves d (p::q::l);show(2::((PW.cut n (d+1) (cJ d (p::q::l)) (PW.keyL d (k::ks))).bytes++(PW.cut n (d+1) (bU d (p::q::l)) (PW.keyR d (k::ks))).bytes)).length<=_;rw [a6,aA,<-h3];have h4:2<=(cJ d (p::q::l)).length+(bU d (p::q::l)).length:=by rw [h3];simp
  generalize (cJ d (p::q::l)).length=a at *;generalize (bU d (p::q::l)).length=b at *;have e:(70+2*(n+1))*(a+b)=(70+2*n)*a+(70+2*n)*b+2*(a+b):=by rw [show 70+2*(n+1)=(70+2*n)+2 by omega,Nat.add_mul,mD]
  rw [e];omega
section
variable{α:Type}{fe:α->SQ}{l:List α}{P:ym}{T:yw}{b:Base}{ops:zp}{Q:zx}{N:Nat}{E:SE}{L:ze}{R:zd}{F M:zv}{o:Oper}{rest:zo}{k:Nat}{t e:yn}{x z:yo}{lo c sz g:Nat}
def l_stFd{q:SQ}(i j off n:Nat)(u u':α)(hi:R[i]?=some (OwnS lo e sz fe (some ⟨g,0,none⟩) c l))(hg:o.guard=none)(hd:o.dst=none)(ho:o.op = .store t x z)(hx:evS E x=some (.v (.pointer (some ⟨g,sz*j+off,none⟩))))(hz:evS E z=some (.q q))(hj:l[j]?=some u)(ht:(P.info? t).map (·.size)=some n)(hn:q.cl.length=n)(hone:∀v∈q.cl,v.oneCell'=true)
 (hcl:(fe u').cl=(fe u).cl.take off++q.cl++(fe u).cl.drop (off+n))(hfit:off+n<=sz)(hok':OkP (fe u').parts1/\(fe u').cl.length=sz)
 (hc:lS P b ops Q N rest ⟨E,L,R.set i (OwnS lo e sz fe (some ⟨g,0,none⟩) c (l.set j u')),F,M⟩):lS P b ops Q N (o::rest) ⟨E,L,R,F,M⟩:=λa w ⟨G,S,f1,f2,f3⟩=>by
 obtain⟨S1,⟨hokl,hrow,hS1⟩,hput⟩:=f3.put hi
 rcases hrow.2 with⟨h6,h7⟩|⟨g',cap,cur,hv,hb,hg',hnc,hmx,hcs,htk⟩
 .injection h6 with h6;cases h6
 injection hv with v1 _ v2
 injection v1 with v1
 injection v1 with v1
 subst v1;have hB:Blk w g e cur:=hg';have e1:a.eval x = .pointer (some ⟨g,sz*j+off,none⟩):=f1.eval (evS_ok hx);have e2:a.eval z=q.den:=f1.eval (evS_ok hz);obtain⟨B,Z,s1,s2,s3⟩:=flatF_split hokl hj;have hul:=(hokl u (aR hj)).2
 have hfl:(flatF fe l).length=B.length+(sz+Z.length):=by rw [s1,aA,aA,hul]
 have hmc:sz*j+off+n<=cur.size:=by
  have h1:(flatF fe l).length<=cur.size:=by rw [<-htk,aV,<-bG];exact Nat.min_le_right _ _
  omega
 have hqs:q.den.cells.size=n:=by rw [<-hn];exact(bG).symm
 have hst:=run_store_part (P:=P) (t:=t) (v:=q.den) (off:=sz*j+off) hB (by rw [ht,hqs]) (by rw [hqs];exact hmc) hone;rw [hqs] at hst;have hB':=hB.row (cur.toList.take (sz*j+off)++q.den.cells.toList++cur.toList.drop (sz*j+off+n)).toArray
 have hok2:OkF sz fe (l.set j u'):=λy hy=>by
  rcases sT hy with h|rfl
  .exact hokl y h
  .exact hok'
 have hll:(l.set j u').length=l.length:=bV
 have hnew:flatF fe (l.set j u')=(flatF fe l).take (sz*j+off)++q.cl++(flatF fe l).drop (sz*j+off+n):=by
  rw [s3,s1,hcl,<-s2];have t1:(B++((fe u).cl++Z)).take (B.length+off)=B++(fe u).cl.take off:=by rw [List.take_append,bJ (by omega),fM,fI (by omega)]
  have t2:(B++((fe u).cl++Z)).drop (B.length+off+n)=(fe u).cl.drop (off+n)++Z:=by rw [List.drop_append,cT (by omega),cR,show B.length+off+n-B.length=off+n by omega,gO (by omega)]
  rw [t1,t2];simp only [aT]
 obtain⟨S'',h12⟩:=hput (OwnS lo e sz fe (some ⟨g,0,none⟩) c (l.set j u')) (w.setRow g (cur.toList.take (sz*j+off)++q.den.cells.toList++cur.toList.drop (sz*j+off+n)).toArray) S1 ((Chg.row w g _).mono λk _ hk=>(hS1 k).2 (by rw [hk];rfl))
  ⟨hok2,⟨by rw [flatF_len hok2],.inr ⟨g,cap,_,by rw [hll,v2],hb,hB',by rw [hll];exact hnc,hmx,by
   have h1:cur.toList.length=cur.size:=bG;have h2:q.den.cells.toList.length=n:=by rw [bG,hqs]
   rw [aW,aA,aA,aV,cU,h2,h1,<-hcs];omega,by
   have h1:cur.toList.length=cur.size:=bG;have h2:q.den.cells.toList.length=n:=by rw [bG,hqs]
   have h3:l.length*sz=(flatF fe l).length:=(flatF_len hokl).symm;rw [hll,hnew,h3];rw [h3] at htk;show List.take _ (cur.toList.take (sz*j+off)++q.den.cells.toList++cur.toList.drop (sz*j+off+n))=_;rw [List.take_append,bJ (by rw [aA,aV,h2];omega),aA,aV,h2,cA (by omega)]
   conv=>rhs;rw [<-htk]
   rw [List.take_take,cA (by omega),List.drop_take];rfl⟩⟩,hS1⟩ (λk hk _=>hk)
 refine wpl_skip (w':=w.setRow g (cur.toList.take (sz*j+off)++q.den.cells.toList++cur.toList.drop (sz*j+off+n)).toArray) (oneS hg) (by unfold execOp;simp only [ho,e1,e2,hst,aG,aI,aC]) ?_
 rw [hd];exact hc _ _ ⟨G,S'',f1,f2,h12⟩
end
def By_setH(l:zu)(i:Nat)(y:UInt8):By (l.set i y)=(By l).set i (.int .u8 (y.toNat:Int)):=List.map_set
def WayB(wy:zu)(way:zj):Prop:=wy.length=32/\way.length<=256/\(∀i,i<way.length->cL wy i=way[i]!)/\∀i,way.length<=i->i<256->cL wy i=0
def plQ(wy:zu)(d:Nat):SQ:=.p [.agg 32 (By wy).toArray,.one (.v (.int .i64 (d:Int)))]
def plQ_ok{wy:zu}(h:wy.length=32)(d:Nat):(plQ wy d).Ok:=λp hp=>by
 rcases aH.1 hp with rfl|hp
 .exact agg_ok h
 .rw [aD.1 hp];exact⟨trivial,rfl,rfl⟩
def bitT_zero(i:Nat):cL eC i=0:=by
 unfold cL;have:(eC[i/8]!)=0:=by
  by_cases h:i/8<32
  .rw [getElem!_pos eC (i/8) h];show(List.replicate 32 (0:UInt8))[i/8]=0;exact List.getElem_replicate ..
  .rw [getElem!_neg eC (i/8) (by show ¬i/8<32;exact h)];rfl
 rw [this];simp
def WayB.nil:WayB eC []:=⟨rfl,aL _,λ_ h=>absurd h (gH _),λi _ _=>bitT_zero i⟩
def or_bit:∀k:Nat,k<256->∀j:Nat,j<8->∀b:Nat,b<2->k/2^j%2=0->bits .or .u8 (k:Int) ((b*2^j:Nat):Int)=((k+b*2^j:Nat):Int):=by
 have key:∀k:Nat,k<256->∀j:Nat,j<8->∀b:Nat,b<2->k/2^j%2=0->bits .or .u8 (k:Int) ((b*2^j:Nat):Int)=((k+b*2^j:Nat):Int):=by decide +kernel
 exact key
def set_bit:∀k:Nat,k<256->∀j:Nat,j<8->∀b:Nat,b<2->k/2^j%2=0->k+b*2^j<256/\∀i,i<8->(k+b*2^j)/2^i%2=if i=j then b else k/2^i%2:=by decide +kernel
def wayS(wy:zu)(d b:Nat):zu:=wy.set (d/8) (bP ((wy[d/8]!).toNat+b*2^(7-d%8)))
def bitT_set{wy:zu}(hl:wy.length=32){d b:Nat}(hd:d<256)(hb:b<2)(h0:cL wy d=0):(wayS wy d b).length=32/\∀i,i<256->cL (wayS wy d b) i=if i=d then b else cL wy i:=by
 refine⟨by rw [wayS,bV];exact hl,λi hi=>?_⟩;have hk:=(wy[d/8]!).toNat_lt;obtain⟨h1,h2⟩:=set_bit _ hk (7-d%8) (by omega) b hb h0;unfold wayS cL;by_cases e:i/8=d/8
 .rw [e,getElem!_pos _ (d/8) (by rw [bV];omega),List.getElem_set_self,gK,(a7 h1:(_+b*2^(7-d%8))%2^8=_),h2 (7-i%8) (by omega)]
  by_cases e2:i=d
  .rw [if_pos e2,if_pos (by rw [e2])]
  .rw [if_neg e2,if_neg (by omega)]
 .rw [if_neg (λh=>e (by rw [h])),getElem!_pos _ (i/8) (by rw [bV];omega),List.getElem_set_ne (by omega),<-getElem!_pos wy (i/8) (by omega)]
def WayB.more{wy:zu}{way:zj}(h:WayB wy way)(hlt:way.length<256){b:Nat}(hb:b<2):WayB (wayS wy way.length b) (way++[b]):=by
 obtain⟨h1,h2,h3,h4⟩:=h;obtain⟨k1,k2⟩:=bitT_set h1 hlt hb (h4 _ (aF _) hlt);have elen:(way++[b]).length=way.length+1:=by rw [aA,bI]
 refine⟨k1,by rw [elen];exact hlt,λi hi=>?_,λi hi hi2=>?_⟩
 .rw [elen] at hi
  rw [k2 i (by omega)];by_cases e:i=way.length
  .subst e;rw [if_pos rfl,getElem!_pos _ _ (by rw [elen];omega),mG (aF _)];simp
  .rw [if_neg e,h3 i (by omega),getElem!_pos way i (by omega),getElem!_pos _ i (by rw [elen];omega),mO (by omega)]
 .rw [elen] at hi;rw [k2 i hi2,if_neg (by omega),h4 i (by omega) hi2]
section
variable{N:Nat}{E:SE}{o:Oper}{x y:yo}{t':yn}
def run_shlW{m n:Nat}(hn:n<=7)(hm:m*2^n<256)(ho:o.op = .binOp .shl 5 x y t')(hx:evS E x=some (.v (.int .u8 (m:Int))))(hy:evS E y=some (.v (.int .i64 (n:Int)))) :
  ∀(G:zk) (a:Act) (w:yp),Fr N (denE G E) a->(execOp a.eval o).run prog w = .ok (.value ((SV.v (.int .u8 ((m*2^n:Nat):Int))).den G)) w:=λG a w ha=>by
 have h1:a.eval x = .int .u8 (m:Int):=ha.eval (evS_ok hx);have h2:a.eval y = .int .i64 (n:Int):=ha.eval (evS_ok hy)
 unfold execOp
 simp only [ho,h1,h2]
 go_simp
 have h4:0<=((m*2^n:Nat):Int):=Int.natCast_nonneg _;have h5:((m*2^n:Nat):Int)<256:=Int.ofNat_lt.2 hm;rw [Int.natCast_mul,Int.natCast_pow] at h4 h5;exact congrArg (cG .u8) (wrapB rfl h4 h5)
def run_or8{m n:Int}(ho:o.op = .binOp .or 5 x y t')(hx:evS E x=some (.v (.int .u8 m)))(hy:evS E y=some (.v (.int .u8 n))) :
  ∀(G:zk) (a:Act) (w:yp),Fr N (denE G E) a->(execOp a.eval o).run prog w = .ok (.value ((SV.v (.int .u8 (bits .or .u8 m n))).den G)) w:=λG a w ha=>by
 have h1:a.eval x = .int .u8 m:=ha.eval (evS_ok hx);have h2:a.eval y = .int .u8 n:=ha.eval (evS_ok hy)
 unfold execOp
 simp only [ho,h1,h2]
 go_simp
 rfl
end
def pl_at{wy:zu}(h:wy.length=32){s:SC}{j:Nat}(hj:j<32):(catP [.agg 32 (By wy).toArray,.one s])[j]?=some (.int .u8 ((wy[j]!).toNat:Int)):=by have h2:=row32 h;show((By wy).toArray ++ #[s.den])[j]?=_;rw [rZ (by omega)];exact By_get (by omega)
def pl_set{wy:zu}{s:SC}{j:Nat}(y:UInt8)(hj:j<wy.length):(catP [.agg 32 (By (wy.set j y)).toArray,.one s]).toList=(catP [.agg 32 (By wy).toArray,.one s]).toList.set j (.int .u8 (y.toNat:Int)):=by show((By (wy.set j y)).toArray ++ #[s.den]).toList=((By wy).toArray ++ #[s.den]).toList.set j _;rw [dE,dE,List.set_append_left _ _ (by rw [By_len];exact hj),By_setH]
def wside_S{wy:zu}{way:zj}(h:WayB wy way)(hlt:way.length<256){b:Nat}(hb:b<2):Spec 209 [(plQ wy way.length).den,.int .u8 (b:Int)] [] (λ_=>True) (one (.q (plQ (wayS wy way.length b) (way.length+1)))):=by
 obtain⟨h1,h2,h3,h4⟩:=h;have hz:=h4 _ (aF _) hlt;obtain⟨d,hd⟩:∃d,way.length=d:=⟨_,rfl⟩;rw [hd] at hlt hz ⊢;clear h2 h3 h4;refine zQ [plQ wy d,.c (.v (.int .u8 (b:Int)))] 25 func209 rfl (by rw [ntmps209];rfl) (two_ok (plQ_ok h1 d) trivial) λbb=>?_;have hk:=(wy[d/8]!).toNat_lt;have hkz:(wy[d/8]!).toNat/2^(7-d%8)%2=0:=hz;have hsb:=(set_bit _ hk (7-d%8) (by omega) b hb hkz).1;have hor:=or_bit _ hk (7-d%8) (by omega) b hb hkz;have hsh:b*2^(7-d%8)<256:=by omega
 have hw:(bP ((wy[d/8]!).toNat+b*2^(7-d%8))).toNat=(wy[d/8]!).toNat+b*2^(7-d%8):=by rw [gK];exact a7 hsb
 have hws:wayS wy d b=wy.set (d/8) (bP ((wy[d/8]!).toNat+b*2^(7-d%8))):=rfl;have hat:=pl_at h1 (s:=.v (.int .i64 (d:Int))) (j:=d/8) (by omega);have hwl:(wayS wy d b).length=32:=by rw [hws,bV];exact h1
 have hset:=pl_set (wy:=wy) (s:=.v (.int .i64 (d:Int))) (j:=d/8) (bP ((wy[d/8]!).toNat+b*2^(7-d%8))) (by omega);rw [<-hws,hw] at hset;generalize (wy[d/8]!).toNat=k at *;generalize wayS wy d b=wy' at *;refine zA rfl ?_;refine s_regD 14 (by decide) (by kernel_rfl) (by kernel_rfl) λK1 hK1 G S w0 hst=>?_;refine g_autoS zY hst rfl ?_;refine g_num 7 ((d/8:Nat):Int) rfl (wrapQ d 8 (by omega)) ?_;refine g_autoS zY hst rfl ?_;refine g_opS (.a 2 (0+0+1*(d/8))) trivial rfl rfl rfl (runO_ixA (d/8) rfl underlying47 rfl rfl rfl (by omega)) ?_;refine g_opV hst (.v (.int .u8 (k:Int))) trivial rfl rfl rfl (runO_ldA _ rfl rfl rfl (by simpa using hat) underlying5 rfl) ?_;refine g_autoS zY hst rfl ?_;refine g_num 15 ((7-d%8:Nat):Int) rfl (wrapI (by rw [sV (by omega)];omega) (by omega) (by omega)) ?_;refine g_opS (.v (.int .u8 ((b*2^(7-d%8):Nat):Int))) trivial rfl rfl rfl (run_shlW (by omega) hsh rfl rfl rfl) ?_;refine g_opS (.v (.int .u8 (bits .or .u8 (k:Int) ((b*2^(7-d%8):Nat):Int)))) trivial rfl rfl rfl (run_or8 rfl rfl rfl) (g_num 17 ((k+b*2^(7-d%8):Nat):Int) rfl hor (g_autoS zY hst rfl (g_endS hst ?_)));refine l_op (.a 2 (0+0+1*(d/8))) trivial rfl rfl rfl (runO_ixA (d/8) rfl underlying47 rfl rfl rfl (by omega)) ?_;refine l_stA [.agg 32 (By wy').toArray,.one (.v (.int .i64 (d:Int)))] rfl rfl rfl rfl rfl rfl rfl rfl rfl (by have e:=OkP.size (plQ_ok h1 d);show _<(catP [.agg 32 (By wy).toArray,.one (.v (.int .i64 (d:Int)))]).size;rw [e];show 0+0+1*(d/8)<33;omega) (plQ_ok hwl d) (by simpa using hset) ?_;refine zJ (hK1 _ (zA rfl (zA rfl ?_)));exact zP (zR zY () rfl (by decide) rfl (congrArg (λz:Int=>RV.q (.p [.agg 32 (By wy').toArray,.one (.v (.int .i64 z))])) (wrapI (m:=(d:Int)+1) (r:=((d+1:Nat):Int)) rfl (by omega) (by omega)).symm) rfl (λ_ _ _=>trivial) zU)
def wrap_byte{i:Nat}(h:i<256):IntKind.u8.wrap (i:Int)=(i:Int):=wrapB rfl (Int.natCast_nonneg _) (by omega)
def wleads_S{wy k:zu}{way:zj}(h:WayB wy way)(hk:k.length=32):Spec 208 [(plQ wy way.length).den,(eY 32 k).den] [] (λ_=>True) (one (.v (.bool (decide (Leads way k))))):=by
 obtain⟨h1,h2,h3, -⟩:=h;refine zQ [plQ wy way.length,eY 32 k] 22 func208 rfl (by rw [ntmps208];rfl) (two_ok (plQ_ok h1 _) (eY_ok hk).1) λb=>?_;refine zA rfl (zM λK hK=>zA rfl (zN ?_));let F:Nat->Env:=λi=>⟨[(8,.v (.int .i64 (i:Int))),(7,.v (.int .i64 (way.length:Int))),(3,.a 3 0),(2,.a 2 0)],[⟨3,none,47,[.agg 32 (By k).toArray]⟩,⟨2,none,225,[.agg 32 (By wy).toArray,.one (.v (.int .i64 (way.length:Int)))]⟩],[],λ_=>True,λ_=>True⟩;refine c_weak (e':=F 0) ⟨zE rfl, zL rfl rfl, .refl _,λ_ _ _=>trivial, zU⟩ (s_loop (λi=>way.length-i) F (λi=>i<=way.length/\∀j,j<i->cL k j=way[j]!) ?_ 0 ⟨aL _,λ_ h=>absurd h (gH _)⟩);rintro i ⟨hi,ht⟩;refine zA rfl (zM λK1 hK1=>?_);refine zW ((i:Int)<(way.length:Int)) rfl (λhlt=>?_) (λhge=>?_)
 .have hil:i<way.length:=by omega
  have hi256:i<256:=by omega
  refine zO (hK1 _ (zM λK2 hK2=>zN (zA rfl ?_)));refine s_regD 10 (by decide) (by kernel_rfl) (by kernel_rfl) λK3 hK3 G S w0 hst=>?_;refine g_autoS zY hst rfl (g_num 13 (i:Int) rfl (wrap_byte hi256) (g_callS (F':=λ_=>True) hst [(eY 32 k).den,.int .u8 (i:Int)] rfl rfl rfl own_wbit rfl rfl (λ_=>rfl) (wbit_S hk i hi256) trivial (λ_ _ _ _=>trivial) (g_autoS zY hst rfl (g_num 18 (i:Int) rfl (wrap_byte hi256) (g_callS (F':=λ_=>True) hst [(eY 32 wy).den,.int .u8 (i:Int)] rfl rfl rfl own_wbit rfl rfl (λ_=>rfl) (wbit_S h1 i hi256) trivial (λ_ _ _ _=>trivial) (g_autoS zY hst rfl (g_endS hst (zJ (hK3 _ ?_)))))))));have hwi:=h3 i hil;refine zW (((cL k i:Nat):Int)≠((cL wy i:Nat):Int)) rfl (λhne=>?_) (λhe=>?_)
  .refine zA rfl ?_;exact zP (zR zY () rfl (by decide) rfl (congrArg (λt=>RV.v (.bool t)) (decide_eq_false λhl=>hne (by rw [hl i hil,hwi]))) rfl (λ_ _ _=>trivial) zU)
  .refine zO (hK2 _ ?_)
   refine zD rfl ?_;exact zX (i+1) ⟨hil,λj hj=>by
    by_cases e:j=i
    .subst e;rw [<-hwi];omega
    .exact ht j (by omega)⟩ (by show way.length-(i+1)<way.length-i;omega) ⟨⟨congrArg some (congrArg SV.v (congrArg (cG .i64) (wrapI rfl (by omega) (by omega)))),rfl,rfl,rfl,trivial⟩,zL rfl rfl, .refl _,λ_ _ _=>trivial, zU⟩
 .refine s_exit (zS (zS (k_out ?_)));refine hK _ (zA rfl ?_);exact zP (zR zY () rfl (by decide) rfl (congrArg (λt=>RV.v (.bool t)) (decide_eq_true λj hj=>ht j (by omega))) rfl (λ_ _ _=>trivial) zU)
theorem wleast_S{w:PW}(h:w.Good):Spec 210 [w.val] [] (λ_=>True) (one (.v (.int .i64 ((min w.kind 2:Nat):Int)))):=by
 refine zQ [.c (.v w.val)] 10 func210 rfl (by rw [ntmps210];rfl) (one_ok trivial) λb=>?_;refine zA rfl (zM λK hK=>zA rfl (zN (zC rfl λK1 hK1=>?_)));refine l_kind 0 h (by decide) rfl rfl rfl rfl rfl ?_;refine zB rfl (zJ (hK1 _ ?_));cases w with
 | empty =>
  refine s_yes rfl (zA rfl ?_);exact zP (zG () rfl (λ_ _ _=>trivial) zU)
 | leaf p =>
  refine s_no rfl (zC rfl λK2 hK2=>?_);refine l_kind (W:=.leaf p) 1 h (by decide) rfl rfl rfl rfl rfl ?_;refine zB rfl (zJ (hK2 _ (s_yes rfl (zA rfl ?_))));exact zP (zG () rfl (λ_ _ _=>trivial) zU)
 | inner x y =>
  refine s_no rfl (zC rfl λK2 hK2=>?_);refine l_kind (W:=.inner x y) 1 h (by decide) rfl rfl rfl rfl rfl ?_;refine zB rfl (zJ (hK2 _ (s_no rfl (zO (hK _ (zA rfl ?_))))));exact zP (zG () rfl (λ_ _ _=>trivial) zU)
 | hid l =>
  refine s_no rfl (zC rfl λK2 hK2=>?_);refine l_kind (W:=.hid l) 1 h (by decide) rfl rfl rfl rfl rfl ?_;refine zB rfl (zJ (hK2 _ (s_no rfl (zO (hK _ (zA rfl ?_))))));exact zP (zG () rfl (λ_ _ _=>trivial) zU)
instance{s:RSw}{n:Nat}:Decidable (s.can n):=inferInstanceAs (Decidable (s.e=0/\n<=s.l.length))
def RSw.go(s:RSw)(n:Nat):RSw:=if s.can n then s.cut n else s.fail 10
def RSw.hv(s:RSw):zu:=if s.can 32 then s.l.take 32 else eC
def RSw.go_rd{s:RSw}{n:Nat}{w:yp}(h:s.rd w):(s.go n).rd w:=by
 unfold RSw.go;split
 .rename_i hc;exact RSw.rd_cut h hc.2
 .exact h
def RSw.hv_len(s:RSw):s.hv.length=32:=by
 unfold RSw.hv;split
 .rename_i hc;rw [aV,cA hc.2]
 .rfl
def whash_S(g:Nat)(s:RSw):Spec 161 [ptV g] [RdQ g s] s.rd { ret:=λ_:Unit=>.q (eY 32 s.hv),own:=λ_=>[RdQ g (s.go 32)] }:=by
 unfold RSw.hv RSw.go;by_cases h:s.can 32
 .rw [if_pos h,if_pos h];exact whash_yes g s h
 .rw [if_neg h,if_neg h];exact(whash_no g s h).imp λ_ _=>trivial
abbrev ResP:=Except Nat (PW×zu)
def Out(r:ResP)(x:PW×RSw):Prop:=x.1.Good/\match r with
  | .ok (w,l)=>x.1=w/\x.2.l=l/\x.2.e=0
  | .error e=>x.2.e=e/\e≠0
def rdR(n:Nat)(way:zj)(s:RSw):ResP:=if s.e=0 then PW.read n way s.l else .error s.e
def readLeaf(way:zj)(b:zu):ResP:=if b.length<64 then .error 10 else if Leads way (b.take 32) then .ok (.leaf (b.take 32,(b.drop 32).take 32),b.drop 64) else .error 13
def readIn(n:Nat)(way:zj)(b:zu):ResP:=match n with
  | 0=>.error 13
  | n+1=>match PW.read n (way++[0]) b with
    | .error e=>.error e
    | .ok (l,b1)=>match PW.read n (way++[1]) b1 with
      | .error e=>.error e
      | .ok (r,b2)=>if PW.bad l r then .error 13 else .ok (.inner l r,b2)
def readHid(b:zu):ResP:=if b.length<32 then .error 10 else .ok (.hid (b.take 32),b.drop 32)
def read_cons(n:Nat)(way:zj)(x:UInt8)(b:zu):PW.read n way (x::b)=if x=0 then .ok (.empty,b) else if x=1 then readLeaf way b else if x=2 then readIn n way b else if x=3 then readHid b else .error 13:=by unfold readLeaf readIn readHid;cases n<;>(conv=>lhs;unfold PW.read)<;>rfl
def read_nil(n:Nat)(way:zj):PW.read n way [] = .error 10:=by cases n<;>unfold PW.read<;>rfl
abbrev rnPost(g:Nat)(r:ResP):Post { x:PW×RSw // Out r x }:={ ret:=λx=>.v x.1.1.val,own:=λx=>[RdQ g x.1.2],p:=λx=>x.1.2.rd }
def leaf_out{s:RSw}{way:zj}(h0:s.e=0):Out (readLeaf way s.l) (.leaf (s.hv,(s.go 32).hv),if Leads way s.hv then(s.go 32).go 32 else((s.go 32).go 32).fail 13):=by
 refine⟨⟨s.hv_len,(s.go 32).hv_len⟩,?_⟩;unfold readLeaf;by_cases h1:s.can 32
 .have e1:s.hv=s.l.take 32:=if_pos h1
  have e2:s.go 32=s.cut 32:=if_pos h1;rw [e2,e1];by_cases h2:s.l.length<64
  .rw [if_pos h2]
   have hc:¬(s.cut 32).can 32:=λh=>by have:=h.2;rw [RSw.cut,cU] at this;omega
   have e3:(s.cut 32).go 32=(s.cut 32).fail 10:=if_neg hc;rw [e3];have e4:((s.cut 32).fail 10).e=10:=by rw [RSw.fail_0 (show(s.cut 32).e=0 from h0)]
   rw [RSw.fail_e (s:=(s.cut 32).fail 10) (by rw [e4];decide),ite_self];exact⟨e4,by decide⟩
  .rw [if_neg h2]
   have hc:(s.cut 32).can 32:=⟨h0,by rw [RSw.cut,cU];omega⟩;have e3:(s.cut 32).go 32=(s.cut 32).cut 32:=if_pos hc;have e5:(s.cut 32).hv=(s.l.drop 32).take 32:=if_pos hc;rw [e3,e5];by_cases h3:Leads way (s.l.take 32)
   .rw [if_pos h3,if_pos h3];exact⟨rfl,by show(s.l.drop 32).drop 32=_;rw [sQ],h0⟩
   .rw [if_neg h3,if_neg h3];exact⟨by rw [RSw.fail_0 (show((s.cut 32).cut 32).e=0 from h0)],by decide⟩
 .have h2:s.l.length<64:=by
   have:¬32<=s.l.length:=λh=>h1 ⟨h0,h⟩;omega
  rw [if_pos h2];have e2:s.go 32=s.fail 10:=if_neg h1;have e4:(s.fail 10).e=10:=by rw [RSw.fail_0 h0]
  rw [e2];have e3:(s.fail 10).go 32=s.fail 10:=by
   have:(s.fail 10).go 32=(s.fail 10).fail 10:=if_neg λh=>by rw [h.1] at e4;cases e4
   rw [this,RSw.fail_e (by rw [e4];decide)]
  rw [e3,RSw.fail_e (s:=s.fail 10) (x:=13) (by rw [e4];decide),ite_self];exact⟨e4,by decide⟩
def wrleaf_S(g:Nat)(s:RSw){wy:zu}{way:zj}(h:WayB wy way)(h0:s.e=0):Spec 159 [ptV g,(plQ wy way.length).den] [RdQ g s] (λw=>s.rd w/\Tsh w) (rnPost g (readLeaf way s.l)):=by
 refine zQ [.c (.v (ptV g)),plQ wy way.length] 20 func159 rfl (by rw [ntmps159];rfl) (two_ok trivial (plQ_ok h.1 _)) λb=>?_;have hout:=leaf_out (way:=way) h0;have hl1:=s.hv_len;have hl2:=(s.go 32).hv_len;have hq:OkT2 (s.hv,(s.go 32).hv):=⟨hl1,hl2⟩;have hrd:∀w,s.rd w->((s.go 32).go 32).rd w:=λw hw=>RSw.go_rd (RSw.go_rd hw);have hrd1:∀w,s.rd w->(s.go 32).rd w:=λw hw=>RSw.go_rd hw;have hh1:=whash_S g s;have hh2:=whash_S g (s.go 32);generalize hs2:(s.go 32).go 32=s2 at *;generalize hs1:s.go 32=s1 at *;generalize hk1:s.hv=k1 at *;generalize hk2:s1.hv=k2 at *;have hlf:=wleafOf_S hq;refine zA rfl (zC rfl λK hK=>l_R ([RdQ g s]++[]) rfl ?_);refine zI [ptV g] (λ_ _=>by go_simp) rfl hh1 (λ_ h _=>h.1) λ_=>?_;refine zB rfl (l_R ([RdQ g s1]++[]) rfl ?_);refine zI [ptV g] (λ_ _=>by go_simp) rfl hh2 (λw h _=>hrd1 w h.2.1) λ_=>?_;refine z6 [(eY 32 k1).den,(eY 32 k2).den] (λ_ _=>by go_simp) rfl hlf (λ_ h _=>h.2.2.2) λ_=>?_;refine zB rfl (zJ (hK _ (zM λK1 hK1=>zC rfl λK2 hK2=>?_)));refine z6 [(plQ wy way.length).den,(eY 32 k1).den] (λ_ _=>by go_simp) rfl (wleads_S h hl1) (λ_ _ _=>trivial) λ_=>?_;have hrest:∀s3,Out (readLeaf way s.l) (.leaf (k1,k2),s3)->(∀w,s.rd w->s3.rd w)->∀en,Weak en ⟨[(5,.a 5 0)],[⟨5,none,205,(PW.leaf (k1,k2)).ps⟩],[RdQ g s3],s.rd,λ_=>True⟩->kS b K1 20 en:=by intro s3 ho hr en hw;refine k_weak hw (hK1 _ (zC rfl λK3 hK3=>l_op (.v (PW.leaf (k1,k2)).val) trivial rfl rfl rfl (run_mkI (q:=.p (PW.leaf (k1,k2)).ps) rfl underlying205 rfl rfl) (zB rfl (zJ (hK3 _ ?_)))));exact zP (zG ⟨(.leaf (k1,k2),s3),ho⟩ rfl (λw h _=>hr w h) zU)
 by_cases hlead:Leads way k1
 .rw [if_pos hlead] at hout;refine l_eq 14 (.v (.bool true)) rfl (congrArg (λt=>SV.v (.bool t)) (decide_eq_true hlead)) (zB rfl (zJ (hK2 _ (s_no rfl ?_))));exact zO (hrest s2 hout hrd _ ⟨zE rfl, zL rfl rfl, .refl _,λ_ h _=>h.2.2.2.2.1, zU⟩)
 .rw [if_neg hlead] at hout;refine l_eq 14 (.v (.bool false)) rfl (congrArg (λt=>SV.v (.bool t)) (decide_eq_false hlead)) (zB rfl (zJ (hK2 _ (s_yes rfl (s_lit (zB rfl (l_R ([RdQ g s2]++[]) rfl (zI [ptV g,.int .i64 13] own_wfails rfl (wfails_S g s2 13) (λ_ _ _=>trivial) λ_=>?_))))))));exact zJ (hrest (s2.fail 13) hout hrd _ ⟨zE rfl, zL rfl rfl, .refl _,λ_ h _=>h.2.2.2.2.2.1, zU⟩)
def NodeS(n:Nat):Prop:=∀(way:zj) (wy:zu) (s:RSw) (g:Nat),n+way.length=256->WayB wy way->Spec 117 [ptV g,(plQ wy way.length).den] [RdQ g s] (λw=>s.rd w/\Tsh w) (rnPost g (rdR n way s))
def bad_least(a b:PW):PW.bad a b=decide (min a.kind 2+min b.kind 2<2):=by
 unfold PW.bad;have h1:=kind_lt a;have h2:=kind_lt b;generalize a.kind=x at *;generalize b.kind=y at *;have key:∀x,x<4->∀y,y<4->((x==0&&y==0)||(x==0&&y==1)||(x==1&&y==0))=decide (min x 2+min y 2<2):=by decide
 exact key x h1 y h2
theorem in_out{m:Nat}{way:zj}{s s1 s2:RSw}{x y:PW}(h0:s.e=0)(h1:Out (rdR m (way++[0]) s) (x,s1))(h2:Out (rdR m (way++[1]) s1) (y,s2)):Out (readIn (m+1) way s.l) (.inner x y,if PW.bad x y then s2.fail 13 else s2):=by
 obtain⟨g1,h1⟩:=h1;obtain⟨g2,h2⟩:=h2;refine⟨⟨g1,g2⟩,?_⟩;unfold rdR at h1 h2;rw [if_pos h0] at h1;unfold readIn;dsimp only;cases hr:PW.read m (way++[0]) s.l with
 | error e =>
  rw [hr] at h1;obtain⟨k1,k2⟩:=h1
  dsimp only at k1
  rw [if_neg (by rw [k1];exact k2)] at h2;obtain⟨k3,_⟩:=h2
  dsimp only at k3
  rw [RSw.fail_e (by rw [k3,k1];exact k2),ite_self];exact⟨by rw [k3,k1],k2⟩
 | ok u =>
  obtain⟨l,b1⟩:=u;rw [hr] at h1;obtain⟨k1,k2,k3⟩:=h1
  dsimp only at k1 k2 k3
  subst k1 k2;rw [if_pos k3] at h2
  dsimp only
  cases hr2:PW.read m (way++[1]) s1.l with
  | error e =>
   rw [hr2] at h2;obtain⟨k4,k5⟩:=h2
   dsimp only at k4
   rw [RSw.fail_e (by rw [k4];exact k5),ite_self];exact⟨k4,k5⟩
  | ok u =>
   obtain⟨r,b2⟩:=u;rw [hr2] at h2;obtain⟨k4,k5,k6⟩:=h2
   dsimp only at k4 k5 k6
   subst k4 k5
   dsimp only
   cases hb:PW.bad x y with
   | true =>
    rw [if_pos rfl,if_pos rfl,RSw.fail_0 k6];exact⟨rfl,by decide⟩
   | false =>
    rw [if_neg (by decide),if_neg (by decide)];exact⟨rfl,rfl,k6⟩
def wrinner_S(n:Nat)(ih:∀m,n=m+1->NodeS m)(g:Nat)(s:RSw){wy:zu}{way:zj}(hn:n+way.length=256)(h:WayB wy way)(h0:s.e=0):Spec 160 [ptV g,(plQ wy way.length).den] [RdQ g s] (λw=>s.rd w/\Tsh w) (rnPost g (readIn n way s.l)):=by
 have hwl:=h.1;refine zQ [.c (.v (ptV g)),plQ wy way.length] 39 func160 rfl (by rw [ntmps160];rfl) (two_ok trivial (plQ_ok hwl _)) λb=>?_;refine zA rfl (zM λK hK=>zA rfl ?_);refine zW ((way.length:Int)=256) rfl (λh256=>?_) (λh256=>?_)
 .obtain rfl:n=0:=by omega
  refine zC rfl λK1 hK1=>l_R ([RdQ g s]++[]) rfl (zI [ptV g,.int .i64 13] own_wfails rfl (wfails_S g s 13) (λ_ _ _=>trivial) λ_=>zJ (hK1 _ (zC rfl λK2 hK2=>l_op (.v PW.empty.val) trivial rfl rfl rfl (run_mkI rfl underlying199 rfl rfl) (zB rfl (zJ (hK2 _ ?_))))));exact zP (zG ⟨(.empty,s.fail 13),trivial,by rw [RSw.fail_0 h0],by decide⟩ rfl (λ_ h _=>h.2.1) zU)
 refine zO (hK _ ?_);have hlt:way.length<256:=by have:=h.2.1;omega
 obtain⟨m,rfl⟩:∃m,n=m+1:=⟨n-1,by omega⟩;have ihm:=ih m rfl;clear ih;obtain⟨d,hd⟩:∃d,way.length=d:=⟨_,rfl⟩;have ih0:=λs g=>ihm (way++[0]) (wayS wy d 0) s g (by rw [aA,bI];omega) (hd▸h.more hlt (by decide));have ih1:=λs g=>ihm (way++[1]) (wayS wy d 1) s g (by rw [aA,bI];omega) (hd▸h.more hlt (by decide));have hs0:=wside_S h hlt (b:=0) (by decide);have hs1:=wside_S h hlt (b:=1) (by decide);simp only [aA,bI,hd] at ih0 ih1 hs0 hs1;rw [hd];refine zA rfl (zM λK1 hK1=>zA rfl (zN ?_));let F:Nat×yl×yl×RSw->Env:=λ⟨i,v0,v1,s'⟩=>⟨[(14,.v (.int .i64 (i:Int))),(0,.v (ptV g)),(3,.a 3 0),(5,.a 5 0)],[⟨5,none,210,[.agg 2 #[v0,v1]]⟩,⟨3,none,225,[.agg 32 (By wy).toArray,.one (.v (.int .i64 (d:Int)))]⟩],[RdQ g s'],λw=>s'.rd w/\Tsh w,λ_=>True⟩;refine c_weak (e':=F (0,.nilIface,.nilIface,s)) ⟨zE rfl, zL rfl rfl, .refl _,λ_ h _=>h, zU⟩ (s_loop (λy=>2-y.1) F (λy=>(y.1=0/\y.2.1 = .nilIface/\y.2.2.1 = .nilIface/\y.2.2.2=s)\/(y.1=1/\∃x,Out (rdR m (way++[0]) s) (x,y.2.2.2)/\y.2.1=x.val/\y.2.2.1 = .nilIface)\/(y.1=2/\∃x s1 z,Out (rdR m (way++[0]) s) (x,s1)/\Out (rdR m (way++[1]) s1) (z,y.2.2.2)/\y.2.1=x.val/\y.2.2.1=z.val)) ?_ (0,.nilIface,.nilIface,s) (.inl ⟨rfl,rfl,rfl,rfl⟩));rintro⟨i,v0,v1,s'⟩ hI;dsimp only at hI;refine zA rfl (zM λK2 hK2=>?_);rcases hI with⟨rfl,rfl,rfl,hs'⟩|⟨rfl,x,hx,rfl,rfl⟩|⟨rfl,x,s1,z,hx,hz,rfl,rfl⟩
 .obtain rfl:=hs'.symm
  refine zW (((0:Nat):Int)<2) rfl (λ_=>?_) (λh=>absurd (by decide) h);refine zO (hK2 _ (zM λK3 hK3=>zN (zA rfl (s_lit (zB rfl ?_)))));refine l_num 21 0 rfl (by decide) ?_;refine z6 [(plQ wy d).den,.int .u8 0] (λ_ _=>by go_simp) rfl hs0 (λ_ _ _=>trivial) λ_=>?_;refine l_R ([RdQ g s]++[]) rfl ?_;refine zI [ptV g,(plQ (wayS wy d 0) (d+1)).den] (λ_ _=>by go_simp) rfl (ih0 s g) (λ_ h _=>h.2) λu=>?_;obtain⟨⟨x,s1⟩,hx⟩:=u;refine l_op (.a 5 (0+1*0)) trivial rfl rfl rfl (runO_ixA 0 rfl underlying210 rfl rfl rfl (by decide)) ?_;refine l_stA [.agg 2 #[x.val,.nilIface]] rfl rfl rfl rfl rfl rfl rfl (PW.val_cells _) (PW.val_one _) (show _<2 by decide) (λp hp=>by
   rw [aD.1 hp];refine⟨rfl,λv hv=>?_⟩;rcases aH.1 hv with rfl|hv
   .exact x.val_one
   .rw [aD.1 hv];rfl) rfl ?_
  refine zJ (hK3 _ (zD rfl ?_));exact zX (1,x.val,.nilIface,s1) (.inr (.inl ⟨rfl,x,hx,rfl,rfl⟩)) (by show 2-1<2-0;decide) ⟨zE rfl, zL rfl rfl, .refl _,λ_ h _=>⟨h.1,h.2.2.2⟩, zU⟩
 .revert hx;generalize s'=s1;intro hx;refine zW (((1:Nat):Int)<2) rfl (λ_=>?_) (λh=>absurd (by decide) h);refine zO (hK2 _ (zM λK3 hK3=>zN (zA rfl (s_lit (zB rfl ?_)))));refine l_num 21 1 rfl (by decide) ?_;refine z6 [(plQ wy d).den,.int .u8 1] (λ_ _=>by go_simp) rfl hs1 (λ_ _ _=>trivial) λ_=>?_;refine l_R ([RdQ g s1]++[]) rfl ?_;refine zI [ptV g,(plQ (wayS wy d 1) (d+1)).den] (λ_ _=>by go_simp) rfl (ih1 s1 g) (λ_ h _=>h.2) λu=>?_;obtain⟨⟨z,s2⟩,hz⟩:=u;refine l_op (.a 5 (0+1*1)) trivial rfl rfl rfl (runO_ixA 1 rfl underlying210 rfl rfl rfl (by decide)) ?_;refine l_stA (sdW x z) rfl rfl rfl rfl rfl rfl rfl (PW.val_cells _) (PW.val_one _) (show _<2 by decide) (sdW_ok x z) rfl ?_;refine zJ (hK3 _ (zD rfl ?_));exact zX (2,x.val,z.val,s2) (.inr (.inr ⟨rfl,x,s1,z,hx,hz,rfl,rfl⟩)) (by show 2-2<2-1;decide) ⟨zE rfl, zL rfl rfl, .refl _,λ_ h _=>⟨h.1,h.2.2.2⟩, zU⟩
 .refine zW (((2:Nat):Int)<2) rfl (λh=>absurd h (by decide)) (λ_=>?_)
  refine s_exit (zS (zS (k_out (hK1 _ ?_))));have hout:=in_out h0 hx hz;have hgx:=hx.1;have hgz:=hz.1;refine zM λK3 hK3=>?_;refine s_regD 8 (by decide) (by kernel_rfl) (by kernel_rfl) λK4 hK4 G S w0 hst=>?_;refine g_opS (.a 5 (0+1*0)) trivial rfl rfl rfl (runO_ixA 0 rfl underlying210 rfl rfl rfl (by decide)) ?_;refine g_opV hst (.v x.val) trivial rfl rfl rfl (runO_ldA _ rfl rfl rfl rfl underlying85 rfl) ?_;refine g_callS (F':=λ_=>True) hst [x.val] rfl rfl rfl (λ_ _=>by go_simp) rfl rfl (λ_=>rfl) (wleast_S hgx) trivial (λ_ _ _ _=>trivial) ?_;refine g_opS (.a 5 (0+1*1)) trivial rfl rfl rfl (runO_ixA 1 rfl underlying210 rfl rfl rfl (by decide)) ?_;refine g_opV hst (.v z.val) trivial rfl rfl rfl (runO_ldA _ rfl rfl rfl rfl underlying85 rfl) ?_;refine g_callS (F':=λ_=>True) hst [z.val] rfl rfl rfl (λ_ _=>by go_simp) rfl rfl (λ_=>rfl) (wleast_S hgz) trivial (λ_ _ _ _=>trivial) ?_;refine g_autoS zY hst rfl (g_endS hst ?_);have hk1:=kind_lt x;have hk2:=kind_lt z;have hb:=bad_least x z;refine l_is 33 (PW.bad x z) rfl ?_ ?_
  .have e:IntKind.i64.wrap (((min x.kind 2:Nat):Int)+((min z.kind 2:Nat):Int))=((min x.kind 2+min z.kind 2:Nat):Int):=wrapI (by omega) (by omega) (by omega);rw [hb,e];exact decide_eq_decide.2 (by omega)
  refine zJ (hK4 _ ?_);have hrest:∀s3,Out (readIn (m+1) way s.l) (.inner x z,s3)->s3.rd=s'.rd->∀en,Weak en ⟨[(5,.a 5 0)],[⟨5,none,210,sdW x z⟩],[RdQ g s3],λw=>s'.rd w/\Tsh w,λ_=>True⟩->kS b K3 39 en:=by intro s3 ho hr en hw;refine k_weak hw (hK3 _ (zC rfl λK5 hK5=>?_));refine z6 [(SQ.p (sdW x z)).den] (λ_ _=>by go_simp) rfl (winnerOf_S hgx hgz) (λ_ h _=>h.2) λ_=>?_;refine l_op (.v (PW.inner x z).val) trivial rfl rfl rfl (run_mkI (q:=.p (PW.inner x z).ps) rfl underlying212 rfl rfl) (zB rfl (zJ (hK5 _ ?_)));exact zP (zG ⟨(.inner x z,s3),ho⟩ rfl (λw h _=>by show s3.rd w;rw [hr];exact h.2.1) zU)
  cases hbb:PW.bad x z with
  | true =>
   rw [hbb,if_pos rfl] at hout;refine s_yes rfl (s_lit (zB rfl (l_R ([RdQ g s']++[]) rfl (zI [ptV g,.int .i64 13] own_wfails rfl (wfails_S g s' 13) (λ_ _ _=>trivial) λ_=>?_))));exact zJ (hrest (s'.fail 13) hout rfl _ ⟨zE rfl, zL rfl rfl, .refl _,λ_ h _=>h.2, zU⟩)
  | false =>
   rw [hbb,if_neg (by decide)] at hout;refine s_no rfl ?_;exact zO (hrest s' hout rfl _ ⟨zE rfl, zL rfl rfl, .refl _,λ_ h _=>h, zU⟩)
def u8_eq{x:UInt8}{k:Nat}(hk:k<256):((x.toNat:Nat):Int)=(k:Int)↔x=bP k:=by
 constructor
 .intro h;apply UInt8.toNat_inj.1;rw [gK,a7 hk];omega
 .intro h;rw [h,gK,a7 hk]
theorem wrnode_S:∀n,NodeS n:=by
 intro n;induction n using rU with
 | ind n ih =>
 intro way wy s g hn h;have hwl:=h.1;refine zQ [.c (.v (ptV g)),plQ wy way.length] 31 func117 rfl (by rw [ntmps117];rfl) (two_ok trivial (plQ_ok hwl _)) λb=>?_;refine zA rfl (zM λK hK=>zC rfl λK1 hK1=>l_R ([RdQ g s]++[]) rfl ?_);by_cases hc:s.can 1
 .obtain⟨x,r,hx⟩:=RSw.can_cons hc
  have hr:rdR n way s=PW.read n way (x::r):=by rw [rdR,if_pos hc.1,hx]
  have hl:(s.cut 1).l=r:=by show s.l.drop 1=r;rw [hx];rfl
  have h0:(s.cut 1).e=0:=hc.1;have hrd:∀w,s.rd w->(s.cut 1).rd w:=λw hw=>RSw.rd_cut hw hc.2;refine zI [ptV g] (λ_ _=>by go_simp) rfl (wkind_yes g s hc hx) (λ_ h _=>h.1) λ_=>?_;refine zJ (hK1 _ ?_);rw [hr,read_cons];generalize s.cut 1=s1 at *;subst hl;refine zN (zA rfl ?_);refine zW ((x.toNat:Int)=0) rfl (λe0=>?_) (λe0=>?_)
  .have e:x=0:=(u8_eq (k:=0) (by decide)).1 e0;refine zC rfl λK2 hK2=>l_op (.v PW.empty.val) trivial rfl rfl rfl (run_mkI rfl underlying199 rfl rfl) (zB rfl (zJ (hK2 _ ?_)));exact zP (zG ⟨(.empty,s1),by rw [if_pos e];exact⟨trivial,rfl,rfl,h0⟩⟩ rfl (λw h _=>hrd w h.2.1) zU)
  have e0:x≠0:=λe=>e0 ((u8_eq (k:=0) (by decide)).2 e);rw [if_neg e0];refine zA rfl ?_;refine zW ((x.toNat:Int)=1) rfl (λe1=>?_) (λe1=>?_)
  .have e:x=1:=(u8_eq (k:=1) (by decide)).1 e1;rw [if_pos e];refine zC rfl λK2 hK2=>l_R ([RdQ g s1]++[]) rfl ?_;refine zI [ptV g,(plQ wy way.length).den] (λ_ _=>by go_simp) rfl (wrleaf_S g s1 h h0) (λw h _=>⟨hrd w h.2.1,h.2.2⟩) λu=>?_;refine zB rfl (zJ (hK2 _ ?_));exact zP (zG u rfl (λw h _=>h.1) zU)
  have e1:x≠1:=λe=>e1 ((u8_eq (k:=1) (by decide)).2 e);rw [if_neg e1];refine zA rfl ?_;refine zW ((x.toNat:Int)=2) rfl (λe2=>?_) (λe2=>?_)
  .have e:x=2:=(u8_eq (k:=2) (by decide)).1 e2;rw [if_pos e];refine zC rfl λK2 hK2=>l_R ([RdQ g s1]++[]) rfl ?_;refine zI [ptV g,(plQ wy way.length).den] (λ_ _=>by go_simp) rfl (wrinner_S n (λm hm=>ih m (by omega)) g s1 hn h h0) (λw h _=>⟨hrd w h.2.1,h.2.2⟩) λu=>?_;refine zB rfl (zJ (hK2 _ ?_));exact zP (zG u rfl (λw h _=>h.1) zU)
  have e2:x≠2:=λe=>e2 ((u8_eq (k:=2) (by decide)).2 e);rw [if_neg e2];refine zA rfl ?_;refine zW ((x.toNat:Int)=3) rfl (λe3=>?_) (λe3=>?_)
  .have e:x=3:=(u8_eq (k:=3) (by decide)).1 e3
   rw [if_pos e];refine zC rfl λK2 hK2=>l_R ([RdQ g s1]++[]) rfl ?_;have hh:=whash_S g s1;have ho:Out (readHid s1.l) (.hid s1.hv,s1.go 32):=by
    refine⟨s1.hv_len,?_⟩;unfold readHid RSw.hv RSw.go;by_cases h32:s1.can 32
    .rw [if_neg (by have:=h32.2;omega),if_pos h32,if_pos h32];exact⟨rfl,rfl,h0⟩
    .have:s1.l.length<32:=by
      have:¬32<=s1.l.length:=λh=>h32 ⟨h0,h⟩;omega
     rw [if_pos this,if_neg h32,if_neg h32,RSw.fail_0 h0];exact⟨rfl,by decide⟩
   have hrd2:∀w,s1.rd w->(s1.go 32).rd w:=λw hw=>RSw.go_rd hw;generalize s1.go 32=s2 at *;have hgl:=s1.hv_len;generalize s1.hv=hv at *;refine zI [ptV g] (λ_ _=>by go_simp) rfl hh (λw h _=>hrd w h.2.1) λ_=>?_;refine zB rfl (l_op (.v (PW.hid hv).val) trivial rfl rfl rfl (run_mkI (q:=.p (PW.hid hv).ps) rfl underlying201 rfl rfl) (zB rfl (zJ (hK2 _ ?_))));exact zP (zG ⟨(.hid hv,s2),ho⟩ rfl (λw h _=>hrd2 w (hrd w h.2.2.1)) zU)
  have e3:x≠3:=λe=>e3 ((u8_eq (k:=3) (by decide)).2 e);rw [if_neg e3];refine zO (hK _ (zC rfl λK2 hK2=>l_R ([RdQ g s1]++[]) rfl (zI [ptV g,.int .i64 13] own_wfails rfl (wfails_S g s1 13) (λ_ _ _=>trivial) λ_=>zJ (hK2 _ (zC rfl λK3 hK3=>l_op (.v PW.empty.val) trivial rfl rfl rfl (run_mkI rfl underlying199 rfl rfl) (zB rfl (zJ (hK3 _ ?_))))))));exact zP (zG ⟨(.empty,s1.fail 13),by rw [hr,read_cons,if_neg e0,if_neg e1,if_neg e2,if_neg e3];exact⟨trivial,by rw [RSw.fail_0 h0],by decide⟩⟩ rfl (λw h _=>hrd w h.2.2.1) zU)
 .have ho:Out (rdR n way s) (.empty,s.fail 10):=by
   refine⟨trivial,?_⟩;unfold rdR;by_cases h0:s.e=0
   .have hl:s.l=[]:=by
     cases hl:s.l with
     | nil=>rfl
     | cons x r=>exact absurd (show s.can 1 from⟨h0,by rw [hl];simp⟩) hc
    rw [if_pos h0,hl,read_nil,RSw.fail_0 h0];exact⟨rfl,by decide⟩
   .rw [if_neg h0,RSw.fail_e h0];exact⟨rfl,h0⟩
  refine zI [ptV g] (λ_ _=>by go_simp) rfl (wkind_no g s hc) (λ_ _ _=>trivial) λ_=>?_;refine zJ (hK1 _ (zN (zA rfl ?_)));refine zW ((0:Int)=0) rfl (λ_=>?_) (λh=>absurd rfl h);refine zC rfl λK2 hK2=>l_op (.v PW.empty.val) trivial rfl rfl rfl (run_mkI rfl underlying199 rfl rfl) (zB rfl (zJ (hK2 _ ?_)));exact zP (zG ⟨(.empty,s.fail 10),ho⟩ rfl (λw h _=>h.2.1) zU)
def parseR(r:Except Nat PW):RV:=match r with
  | .ok w=>.t [prQ w,.c (.v (.int .i64 0))]
  | .error e=>.t [prQ .empty,.c (.v (.int .i64 (e:Int)))]
def RSw.last(s:RSw):RSw:=if 0<s.l.length then s.fail 11 else s
theorem parse_out{A:zt}{c:Nat}{b:zu}{w:PW}{s:RSw}(h:Out (rdR 256 [] ⟨A,c,b,0⟩) (w,s)):(s.last.e=0->PW.parse b = .ok w)/\(s.last.e≠0->PW.parse b = .error s.last.e):=by
 obtain⟨_,h⟩:=h;rw [rdR,if_pos rfl] at h;unfold PW.parse;dsimp only at h;cases hr:PW.read 256 [] b with
 | error e =>
  rw [hr] at h;obtain⟨h1,h2⟩:=h
  have e1:s.last=s:=by unfold RSw.last;rw [RSw.fail_e (by rw [h1];exact h2),ite_self]
  rw [e1,h1];exact⟨λh=>absurd h h2,λ_=>rfl⟩
 | ok u =>
  obtain⟨x,r⟩:=u;rw [hr] at h;obtain⟨h1,h2,h3⟩:=h
  unfold RSw.last
  rw [h2]
  cases r with
  | nil =>
   rw [if_neg (by decide)];exact⟨λ_=>by rw [h1],λh=>absurd h3 h⟩
  | cons y r =>
   rw [if_pos (by simp),RSw.fail_0 h3];exact⟨λh=>absurd (show(11:Nat)=0 from h) (by decide),λ_=>rfl⟩
def wParse_S{A:zt}{c:Nat}(B:zu):Spec 84 [.slice A B.length c] [] (λw=>Rd 1 eB A c B w/\Tsh w) (one (parseR (PW.parse B))):=by
 refine zQ [.c (.v (.slice A B.length c))] 23 func84 rfl (by rw [ntmps84];rfl) (one_ok trivial) λb=>?_;have hnode:=λg=>wrnode_S 256 [] eC ⟨A,c,B,0⟩ g rfl WayB.nil;replace hnode:∀g,Spec 117 [ptV g,(plQ eC 0).den] [RdQ g ⟨A,c,B,0⟩] (λw=>Rd 1 eB A c B w/\Tsh w) (rnPost g (rdR 256 [] ⟨A,c,B,0⟩)):=hnode;refine zA rfl (zC rfl λK hK=>zJ (k_give 4 (E':=[(2,.a 2 0)]) rfl ⟨rfl,trivial⟩ λg=>hK _ (zC rfl λK1 hK1=>l_R ([RdQ g ⟨A,c,B,0⟩]++[]) rfl ?_)));refine zI [ptV g,(plQ eC 0).den] (λ_ _=>by go_simp) rfl (hnode g) (λ_ h _=>h) λu=>?_;obtain⟨⟨w,s⟩,hu⟩:=u;obtain⟨hp0,hp1⟩:=parse_out hu;refine zB rfl (zJ (hK1 _ (s_keep [2,4,5] [2] rfl rfl (zM λK2 hK2=>zC rfl λK3 hK3=>zZ rfl (obj_own 0 rfl) (zB rfl (zJ (hK3 _ ?_)))))));have hrest:∀s3:RSw,s3=s.last->∀en,Weak en ⟨[(2,.a 2 0),(4,.v (ptV g)),(5,.v w.val)],[⟨2,none,87,[.one (.v .nilIface)]⟩],[RdQ g s3],λ_=>True,λ_=>True⟩->kS b K2 23 en:=by
  intro s3 hs3 en hw;rw [<-hs3] at hp0 hp1;refine k_weak hw (hK2 _ (zM λK4 hK4=>zC rfl λK5 hK5=>zZ rfl (obj_own 0 rfl) (zB rfl (zJ (hK5 _ ?_)))));refine zW ((s3.e:Int)≠0) rfl (λhe=>?_) (λhe=>?_)
  .have he:s3.e≠0:=λh=>he (by rw [h];rfl)
   have hok:OkP s3.ps:=λp hp=>by
    rcases aH.1 hp with rfl|hp
    .exact⟨trivial,rfl,rfl⟩
    .rw [aD.1 hp];exact⟨trivial,rfl,rfl⟩
   refine zM λK6 hK6=>?_;have hinv:∀{E':SE} {L':ze} {F' M':zv},∀a w,St b 23 ⟨E',L',[RdQ g s3],F',M'⟩ a w->ObjF g 222 s3.ps w:=λa w ⟨G,S,_,_,h3⟩=>obj_own 0 rfl G S w h3.view;refine s_anyP [0,1,2] 4 1 (ObjF g 222 s3.ps) (by kernel_rfl) rfl hinv ?_;refine z7 (L0:=[]) 0 (by kernel_rfl) rfl (λ_ h=>by cases h) (λ_ _ _ h=>by cases h) ?_;refine z7 (L0:=[]) 1 (by kernel_rfl) rfl (λ_ h=>by cases h) (λ_ _ _ h=>by cases h) ?_;refine p_ldO zY 2 (by kernel_rfl) rfl rfl rfl rfl rfl rfl rfl hok (λ_ h=>h) ?_;refine p_step 3 (by kernel_rfl) rfl λK7 hK7=>?_;refine zB rfl (zJ (hK7 _ hinv ?_));refine p_tail [4] (by kernel_rfl) rfl ?_;refine zB rfl (zJ (hK6 _ (zP (k_drop 0 rfl ?_))));exact zR zY () rfl (by decide) rfl (by show parseR (PW.parse B)=_;rw [hp1 he];rfl) rfl (λ_ _ _=>trivial) zU
  .have he:s3.e=0:=by omega
   refine zO (hK4 _ (zC rfl λK6 hK6=>?_));refine z6 [w.val] (λ_ _=>by go_simp) rfl (wpart_S w) (λ_ _ _=>trivial) λ_=>?_;refine zB rfl (zJ (hK6 _ (zP (k_drop 0 rfl ?_))));exact zR zY () rfl (by decide) rfl (by show parseR (PW.parse B)=_;rw [hp0 he];rfl) rfl (λ_ _ _=>trivial) zU
 refine zW ((s.l.length:Int)>0) rfl (λh0=>?_) (λh0=>?_)
 .refine s_lit ?_;refine l_R ([RdQ g s]++[]) rfl (zI [ptV g,.int .i64 11] own_wfails rfl (wfails_S g s 11) (λ_ _ _=>trivial) λ_=>?_);exact zJ (hrest (s.fail 11) (by rw [RSw.last,if_pos (by omega)]) _ ⟨zE rfl, zL rfl rfl, .refl _,λ_ _ _=>trivial, zU⟩)
 .exact zO (hrest s (by rw [RSw.last,if_neg (by omega)]) _ ⟨zE rfl, zL rfl rfl, .refl _,λ_ _ _=>trivial, zU⟩)
section
variable{N:Nat}{E:SE}{o:Oper}{x y:yo}{t t':yn}
def cutK(k:Nat)(A:zt)(c n:Nat):zt:=if c=n then A else A.map (·.add (k*n))
theorem run_cutLoK{A:zt}{n c j sz:Nat}{e:yn}(he:(prog.info? e).map (·.size)=some sz)(hj:j<=n)(hc:n<=c)(hA:A=none->c=0)(ho:o.op = .slice t x (some y) none none)(hu:prog.underlying t=some (.slice e))(hx:evS E x=some (.v (.slice A n c)))(hy:evS E y=some (.v (.int .i64 (j:Int)))) :
  ∀(G:zk) (a:Act) (w:yp),Fr N (denE G E) a->(execOp a.eval o).run prog w = .ok (.value ((SV.v (.slice (cutK sz A c j) (n-j) (c-j))).den G)) w:=λG a w ha=>by
 have h1:a.eval x = .slice A n c:=ha.eval (evS_ok hx);have h2:a.eval y = .int .i64 (j:Int):=ha.eval (evS_ok hy)
 have h3:(j:Int)<=(n:Int):=by omega
 have h4:(0:Int)<=(j:Int):=by omega
 have h5:(n:Int)<=(c:Int):=by omega
 have h6:=run_sizeOf he w
 unfold execOp
 simp only [ho];generalize a.eval=ρ at *;simp only [Option.map,h1,h2]
 show _=Result.ok (Next.value (.slice (cutK sz A c j) (n-j) (c-j))) w
 cases A with
 | none =>
  obtain rfl:c=0:=hA rfl
  obtain rfl:n=0:=by omega
  obtain rfl:j=0:=by omega
  go_simp
  rfl
 | some ad =>
  unfold cutK
  by_cases e:c=j
  .rw [if_pos e];go_simp
  .rw [if_neg e];go_simp;rw [cX]
def run_eqNilS{A:zt}{n c:Nat}{e:yn}(ho:o.op = .binOp .eql t x (.const (.slice none 0 0)) t')(hu:prog.underlying t=some (.slice e))(hx:evS E x=some (.v (.slice A n c))) :
  ∀(G:zk) (a:Act) (w:yp),Fr N (denE G E) a->(execOp a.eval o).run prog w = .ok (.value ((SV.v (.bool A.isNone)).den G)) w:=λG a w ha=>by
 have h1:a.eval x = .slice A n c:=ha.eval (evS_ok hx);have h3:=run_equal_slice_nil (P:=prog) w t e A n c hu
 unfold execOp
 have h4:(eqGuard .eql t x (.const (.slice none 0 0)) (.slice A n c) (.slice none 0 0)).run prog w = .ok () w:=rfl;simp only [ho,h1,show a.eval (.const (.slice none 0 0)) = .slice none 0 0 from rfl,aG,h4,aC,binOp,h3,aI]
 rfl
end
def Rd.sub{α:Type}{k c c' g:Nat}{fe:α->SQ}{P l Z:List α}{w:yp}(h:Rd k fe (some ⟨g,0,none⟩) c (P++l++Z) w)(hc:l.length<=c')(hm:c'<=9223372036854775807):Rd k fe (some ⟨g,k*P.length,none⟩) c' l w:=by
 obtain⟨h1,h2,h3,h4,h5⟩:=h;refine⟨hc,hm,λe=>(by cases e),λx hx=>h4 x (by simp [hx]),λh0=>?_⟩;obtain⟨b,o,e,hb,hr⟩:=h5 (by rw [aA,aA];omega);injection e with e;injection e with e1 e2;subst e1 e2;refine⟨g,k*P.length,rfl,hb,λi x hx=>?_⟩;have:=hr (P.length+i) x (by rw [aT,bN (by omega),fM,cW (aP.1 hx).1];exact hx)
 rwa [aY,mD] at this
abbrev KyS(A:zt)(c:Nat)(l:zy):Res:=OwnS 0 47 32 (eY 32) A c l
theorem wclone_S{A:zt}{c:Nat}(l:zy)(hl:l.length<=1000000):Spec 55 [.slice A l.length c] [] (Rd 32 (eY 32) A c l) { ret:=λx:PX=>.v (.slice x.1 l.length x.2),own:=λx=>[KyS x.1 x.2 l] }:=by
 refine zQ [.c (.v (.slice A l.length c))] 8 func55 rfl (by rw [ntmps55];rfl) (one_ok trivial) λb=>?_;refine s_pure (l.length<=c/\(A=none->c=0)) (λw hw _=>⟨hw.1,hw.2.2.1⟩) λ⟨hlc,hA⟩=>?_;refine zA rfl (zM λK hK=>zC rfl λK1 hK1=>l_op (.v (.bool A.isNone)) trivial rfl rfl rfl (run_eqNilS rfl underlying38 rfl) (zJ (hK1 _ ?_)));cases A with
 | none =>
  obtain rfl:c=0:=hA rfl;obtain rfl:l=[]:=bE (by omega);refine s_yes rfl (s_nil0 0 47 32 (eY 32) (zA rfl ?_));exact zP (zG (none,0) rfl (λ_ _ _=>trivial) zU)
 | some ad =>
  refine s_no rfl (zO (hK _ (zC rfl λK2 hK2=>?_)));refine l_list0 (e:=47) (sz:=32) 0 (eY 32) rfl rfl rfl rfl (aL _) (λw=>by go_simp) λB=>?_;refine zB rfl ?_;refine l_appY zY 0 l rfl rfl rfl rfl rfl rfl rfl rfl rfl (rd_fact λ_ h _=>h) (by decide) (by show(0+l.length)*32<=_;omega) (by show 0+l.length<=_;omega) (aL _) λA1 c1=>?_;refine zB rfl (zJ (hK2 _ ?_));exact zP (zG (A1,c1) rfl (λ_ _ _=>trivial) zU)
structure KeyAt(A A':zt)(c' i n:Nat):Prop where
  le:n<=c'
  max:c'<=9223372036854775807
  nil:A'=none->c'=0
  at_:0<n->∃g,A=some ⟨g,0,none⟩/\A'=some ⟨g,32*i,none⟩
def KeyAt.left{A A':zt}{c' i n m:Nat}(h:KeyAt A A' c' i n)(hm:m<=n):KeyAt A A' c' i m:=⟨bM hm h.le,h.max,h.nil,λh0=>h.at_ (by omega)⟩
def KeyAt.right{A A':zt}{c' i n m:Nat}(h:KeyAt A A' c' i n)(hm:m<=n):KeyAt A (cutK 32 A' c' m) (c'-m) (i+m) (n-m):=by
 have hle:=h.le;refine⟨by omega,by have:=h.max;omega,λe=>?_,λh0=>?_⟩
 .unfold cutK at e
  by_cases e2:c'=m
  .omega
  .rw [if_neg e2] at e
   cases A' with
   | none=>have:=h.nil rfl;omega
   | some ad=>cases e
 .obtain⟨g,e1,e2⟩:=h.at_ (by omega);refine⟨g,e1,?_⟩;unfold cutK;rw [if_neg (by omega),e2];show some (Addr.add ⟨g,32*i,none⟩ (32*m))=_;simp [Addr.add,mD]
def rotK:zy->zy
  | []=>[]
  | z::t=>t++[z]
theorem rot_perm:∀l,(rotK l).Perm l
 | []=>.refl _
 | z::t=>List.perm_append_singleton z t
def rot_len(l:zy):(rotK l).length=l.length:=(rot_perm l).length_eq
def hdKey(zs:zy)(k:zu):zu:=match zs with
  | []=>k
  | z::_=>z
def hdKey_at{P ys zs r Z:zy}{k:zu}:(P++(ys++zs++k::r)++Z)[P.length+ys.length]?=some (hdKey zs k):=by
 have e:P++(ys++zs++k::r)++Z=(P++ys)++(zs++(k::(r++Z))):=by simp
 rw [e,bN (by rw [aA];omega),aA,fL];cases zs<;>rfl
theorem swap_list{P ys zs r Z:zy}{k:zu}:((P++(ys++zs++k::r)++Z).set (P.length+(ys.length+zs.length)) (hdKey zs k)).set (P.length+ys.length) k=P++((ys++[k])++rotK zs++r)++Z:=by
 cases zs with
 | nil =>
  have e:P++(ys++[]++k::r)++Z=(P++ys)++(k::(r++Z)):=by simp
  rw [e,mF,cD,eX _ _ (by rw [aA];omega),aA,fL]
  show((P++ys)++(k::(r++Z))).set (P.length+ys.length) k=_
  rw [eX _ _ (by rw [aA];omega),aA,fL]
  simp [rotK]
 | cons z t =>
  have e:P++(ys++z::t++k::r)++Z=(P++ys++z::t)++(k::(r++Z)):=by simp
  have el:(P++ys++z::t).length=P.length+(ys.length+(z::t).length):=by rw [aA,aA];omega
  rw [e,eX _ _ (by rw [el];exact aF _),el,fL]
  show((P++ys++z::t)++(z::(r++Z))).set (P.length+ys.length) k=_
  have e2:(P++ys++z::t)++(z::(r++Z))=(P++ys)++(z::(t++(z::(r++Z)))):=by simp
  rw [e2,eX _ _ (by rw [aA];omega),aA,fL]
  simp [rotK]
def Parted(d:Nat)(ks:zy)(x:zy×zy):Prop:=x.1.Perm (PW.keyL d ks)/\x.2.Perm (PW.keyR d ks)
def Parted.perm{d:Nat}{ks:zy}{x:zy×zy}(h:Parted d ks x):(x.1++x.2).Perm ks:=(h.1.append h.2).trans (List.filter_append_perm (λk=>cL k d==0) ks)
def Parted.len{d:Nat}{ks:zy}{x:zy×zy}(h:Parted d ks x):x.1.length+x.2.length=ks.length:=by rw [<-aA];exact h.perm.length_eq
def Parted.zero{d:Nat}{ks ys zs:zy}{k:zu}(h:Parted d ks (ys,zs))(hb:cL k d=0):Parted d (ks++[k]) (ys++[k],rotK zs):=by
 constructor
 .show(ys++[k]).Perm (jL _ _)
  rw [l4];have e:jL (λk=>cL k d==0) [k]=[k]:=by simp [hb]
  rw [e];exact h.1.append_right _
 .show(rotK zs).Perm (jL _ _)
  rw [l4];have e:jL (λk=>cL k d != 0) [k]=[]:=by simp [hb]
  rw [e,bC];exact(rot_perm zs).trans h.2
def Parted.one{d:Nat}{ks ys zs:zy}{k:zu}(h:Parted d ks (ys,zs))(hb:cL k d≠0):Parted d (ks++[k]) (ys,zs++[k]):=by
 constructor
 .show ys.Perm (jL _ _)
  rw [l4];have e:jL (λk=>cL k d==0) [k]=[]:=by simp [hb]
  rw [e,bC];exact h.1
 .show(zs++[k]).Perm (jL _ _)
  rw [l4];have e:jL (λk=>cL k d != 0) [k]=[k]:=by simp [hb]
  rw [e];exact h.2.append_right _
def wparted_S{A A':zt}{c c':Nat}(P ks Z:zy)(d:Nat)(hd:d<256)(hat:KeyAt A A' c' P.length ks.length)(hks:∀k∈ks,k.length=32):Spec 111 [.slice A' ks.length c',.int .u8 (d:Int)] [KyS A c (P++ks++Z)] (λ_=>True)
  { ret:=λx:{ x // Parted d ks x }=>.t [.c (.v (.slice A' x.1.1.length c')),.c (.v (.slice (cutK 32 A' c' x.1.1.length) x.1.2.length (c'-x.1.1.length)))],own:=λx=>[KyS A c (P++(x.1.1++x.1.2)++Z)] }:=by
 refine zQ [.c (.v (.slice A' ks.length c')),.c (.v (.int .u8 (d:Int)))] 40 func111 rfl (by rw [ntmps111];rfl) (two_ok trivial trivial) λb=>?_;have hle:=hat.le;have hmax:=hat.max;have hnil:=hat.nil;refine zA rfl (zA rfl (zM λK hK=>zA rfl (zN ?_)))
 let F:zy×zy×zy->Env:=λ⟨ys,zs,r⟩=>⟨[(11,.v (.int .i64 ((ys.length+zs.length:Nat):Int))),(10,.v (.int .i64 (ks.length:Int))),(9,.v (.slice A' ks.length c')),(0,.v (.slice A' ks.length c')),(1,.v (.int .u8 (d:Int))),(6,.v (.int .i64 (ys.length:Int)))],[],[KyS A c (P++(ys++zs++r)++Z)],λ_=>True,λ_=>True⟩
 refine c_weak (e':=F ([],[],ks)) ⟨zE rfl, trivial, .refl _,λ_ _ _=>trivial, zU⟩ (s_loop (λy=>y.2.2.length) F (λy=>∃done,ks=done++y.2.2/\Parted d done (y.1,y.2.1)) ?_ ([],[],ks) ⟨[],rfl,.refl _,.refl _⟩)
 rintro⟨ys,zs,r⟩ ⟨done,hdone,hpt⟩
 dsimp only at hdone hpt
 have hlen:=hpt.len
 have hkl:ks.length=done.length+r.length:=by rw [hdone,aA]
 dsimp only at hlen
 refine zA rfl (zM λK1 hK1=>?_);refine zW (((ys.length+zs.length:Nat):Int)<(ks.length:Int)) rfl (λhlt=>?_) (λhge=>?_)
 .cases r with
  | nil=>rw [mF] at hkl;omega
  | cons k r =>
  rw [a6] at hkl;have hk:k.length=32:=hks k (by rw [hdone];simp);obtain⟨g,rfl,rfl⟩:=hat.at_ (by omega);have hok:∀G S w,View G S [] [KyS (some ⟨g,0,none⟩) c (P++(ys++zs++k::r)++Z)] (λ_=>True) (λ_=>True) w->Rd 32 (eY 32) (some ⟨g,32*P.length,none⟩) c' (ys++zs++k::r) w:=λG S w hv=>(rd_own 0 rfl G S w hv).sub (by simp;omega) hmax;have hn1:(ys++zs++k::r).length=ks.length:=by simp;omega
  refine zO (hK1 _ (zM λK2 hK2=>zN (zC rfl λK3 hK3=>?_)));refine l_elem (l:=ys++zs++k::r) zY rfl rfl rfl (ys.length+zs.length) rfl (by rw [bN (by rw [aA];exact aF _),aA,fL];rfl) hn1.symm rfl hok ?_;refine zB rfl (zJ (hK3 _ (zC rfl λK4 hK4=>z6 [(eY 32 k).den,.int .u8 (d:Int)] own_wbit rfl (wbit_S hk d hd) (λ_ _ _=>trivial) λ_=>zB rfl (zJ (hK4 _ ?_)))));have hdone2:ks=(done++[k])++r:=by rw [hdone];simp
  have hzs:zs.length<=9223372036854775807:=by omega
  refine zW (((cL k d:Nat):Int)=0) rfl (λhb=>?_) (λhb=>?_)
  .have hb:cL k d=0:=by omega
   refine s_own 0 rfl λhokF _ _=>?_;obtain⟨hh1,hh2⟩:=hokF _ (aR (hdKey_at (P:=P) (ys:=ys) (zs:=zs) (r:=r) (Z:=Z) (k:=k)));have hkF:=eY_ok (n:=32) hk;have hhat:=hdKey_at (P:=[]) (ys:=ys) (zs:=zs) (r:=r) (Z:=[]) (k:=k);rw [cR,bC,mF,aY] at hhat;have hswap:=swap_list (P:=P) (ys:=ys) (zs:=zs) (r:=r) (Z:=Z) (k:=k);have hlx:(P++(ys++zs++k::r)++Z).length=P.length+(ys.length+zs.length+(1+r.length))+Z.length:=by simp;omega
   obtain⟨u1,hu1⟩:∃u,(P++(ys++zs++k::r)++Z)[P.length+(ys.length+zs.length)]?=some u:=⟨_,aJ (by omega)⟩;obtain⟨u2,hu2⟩:∃u,((P++(ys++zs++k::r)++Z).set (P.length+(ys.length+zs.length)) (hdKey zs k))[P.length+ys.length]?=some u:=⟨_,aJ (by rw [bV];omega)⟩;have hc1:=(hokF _ (aR hu1)).2;have hc2:(eY 32 u2).cl.length=32:=by
    rcases sT (aR hu2) with h|rfl
    .exact(hokF _ h).2
    .exact hh2
   generalize hdKey zs k=hd at *;generalize hxs:P++(ys++zs++k::r)++Z=xs at *;refine s_keep [0,1,6,7,8,9,10,11] [8] rfl rfl ?_;refine s_locs λG=>?_;have hsub:∀u∈([⟨8,some (G 8),47,[.agg 32 (By k).toArray]⟩]:ze),u∈withG G [⟨8,none,47,[.agg 32 (By k).toArray]⟩]/\u.g.isSome=true:=λu hu=>⟨hu,by rw [aD.1 hu];rfl⟩;refine zM λK5 hK5=>?_;refine s_anyP [0,1,2,3,4,5,6,8] 11 2 (InvL [⟨8,some (G 8),47,[.agg 32 (By k).toArray]⟩]) (by kernel_rfl) rfl (inv_of hsub) ?_;refine z7 0 (by kernel_rfl) rfl (λx hx=>(hsub x hx).1) (λ_ h=>h) ?_;refine z7 1 (by kernel_rfl) rfl (λx hx=>(hsub x hx).1) (λ_ h=>h) ?_;refine z7 2 (by kernel_rfl) rfl (λx hx=>(hsub x hx).1) (λ_ h=>h) ?_;refine z7 3 (by kernel_rfl) rfl (λx hx=>(hsub x hx).1) (λ_ h=>h) ?_;refine z7 4 (by kernel_rfl) rfl (λx hx=>(hsub x hx).1) (λ_ h=>h) ?_;refine z7 5 (by kernel_rfl) rfl (λx hx=>(hsub x hx).1) (λ_ h=>h) ?_;refine p_frontO (.v (.pointer (some ⟨g,32*P.length+32*ys.length,none⟩))) trivial 6 (by kernel_rfl) rfl rfl rfl rfl rfl (runO_ixS ys.length rfl underlying38 (by kernel_rfl) rfl rfl (by omega)) ?_;refine z7 8 (by kernel_rfl) rfl (λx hx=>(hsub x hx).1) (λ_ h=>h) ?_;refine p_step 7 (by kernel_rfl) rfl λK6 hK6=>?_;refine l_opV (.q (eY 32 hd)) hh1 rfl rfl rfl (run_ldEl (k':=32) (c:=c') (j:=ys.length) (off:=0) (g:=g) (a:=32*P.length) (fe:=eY 32) (l:=ys++zs++k::r) (y:=hd) zY rfl rfl hhat rfl hh1 λG' S' w hv=>(rd_own (lo:=0) (e:=47) (k:=32) (fe:=eY 32) (A:=some ⟨g,0,none⟩) (c:=c) (l:=P++(ys++zs++k::r)++Z) 0 (by rw [hxs];rfl) G' S' w hv).sub (by rw [hn1];exact hle) hmax) ?_;refine zJ (hK6 _ (inv_of hsub) ?_);refine p_step 9 (by kernel_rfl) rfl λK7 hK7=>?_;refine l_op (.v (.pointer (some ⟨g,32*P.length+32*(ys.length+zs.length),none⟩))) trivial rfl rfl rfl (runO_ixS (ys.length+zs.length) rfl underlying38 (by kernel_rfl) rfl rfl (by omega)) ?_;refine zJ (hK7 _ (inv_of hsub) ?_);refine p_step 10 (by kernel_rfl) rfl λK8 hK8=>?_;refine l_eq 29 (.v (.pointer (some ⟨g,32*(P.length+(ys.length+zs.length))+0,none⟩))) rfl (by rw [mD 32 P.length,cD]) ?_;refine l_stFd 0 (P.length+(ys.length+zs.length)) 0 32 u1 hd rfl rfl rfl rfl rfl rfl hu1 (by kernel_rfl) hh2 (SQ.cl_one hh1) (by rw [cT (by rw [hc1];exact aF _)];simp) (by decide) ⟨hh1,hh2⟩ ?_;refine zJ (hK8 _ (inv_of hsub) ?_);refine p_tail [11,12] (by kernel_rfl) rfl ?_;refine l_op (.v (.pointer (some ⟨g,32*P.length+32*ys.length,none⟩))) trivial rfl rfl rfl (runO_ixS ys.length rfl underlying38 (by kernel_rfl) rfl rfl (by omega)) ?_;refine l_eq 30 (.v (.pointer (some ⟨g,32*(P.length+ys.length)+0,none⟩))) rfl (by rw [mD 32 P.length,cD]) ?_;refine l_stFd 0 (P.length+ys.length) 0 32 u2 k rfl rfl rfl rfl rfl rfl hu2 (by kernel_rfl) hkF.2 (SQ.cl_one hkF.1) (by rw [cT (by rw [hc2];exact aF _)];simp;rfl) (by decide) hkF ?_;refine zJ (hK5 _ (zD rfl (hK2 _ (zD rfl ?_))));have hrl:=rot_len zs;exact zX (ys++[k],rotK zs,r) ⟨done++[k],hdone2,hpt.zero hb⟩ (by show r.length<(k::r).length;simp) ⟨⟨congrArg some (congrArg SV.v (congrArg (cG .i64) (wrapI (by simp;omega) (by omega) (by simp;omega)))),rfl,rfl,rfl,rfl,congrArg some (congrArg SV.v (congrArg (cG .i64) (wrapI (by simp) (by omega) (by simp;omega)))),trivial⟩,trivial,.of_eq (congrArg (λx=>[KyS (some ⟨g,0,none⟩) c x]) hswap),λ_ _ _=>trivial, zU⟩
  .have hb:cL k d≠0:=by omega
   refine zO (hK2 _ (zD rfl ?_));exact zX (ys,zs++[k],r) ⟨done++[k],hdone2,hpt.one hb⟩ (by show r.length<(k::r).length;simp) ⟨⟨congrArg some (congrArg SV.v (congrArg (cG .i64) (wrapI (by simp;omega) (by omega) (by simp;omega)))),rfl,rfl,rfl,rfl,rfl,trivial⟩,trivial,.of_eq (congrArg (λx=>[KyS (some ⟨g,0,none⟩) c x]) (by simp:P++(ys++zs++k::r)++Z=P++(ys++(zs++[k])++r)++Z)),λ_ _ _=>trivial, zU⟩
 .refine s_exit (zS (zS (k_out ?_)))
  refine hK _ ?_;obtain rfl:r=[]:=bE (by omega);have e2:ks.length-ys.length=zs.length:=by rw [hkl,mF];omega
  have hpt2:Parted d ks (ys,zs):=by rw [hdone,bC];exact hpt
  have hyl:ys.length<=ks.length:=by omega
  refine s_regD 8 (by decide) (by kernel_rfl) (by kernel_rfl) λK4 hK4 G S w0 hst=>?_;refine g_autoS zY hst rfl ?_;refine g_opS (.v (.slice A' ys.length c')) trivial rfl rfl rfl (run_cutHi (sz:=32) (by kernel_rfl) (by omega) hnil rfl underlying38 rfl rfl) ?_;refine g_autoS zY hst rfl ?_;refine g_opS (.v (.slice (cutK 32 A' c' ys.length) (ks.length-ys.length) (c'-ys.length))) trivial rfl rfl rfl (run_cutLoK (sz:=32) (by kernel_rfl) hyl hle hnil rfl underlying38 rfl rfl) ?_;refine g_autoS zY hst rfl (g_endS hst (zJ (hK4 _ ?_)));refine zP (zR zY ⟨(ys,zs),hpt2⟩ rfl (by decide) rfl (by rw [e2];rfl) (by show [KyS A c (P++(ys++zs)++Z)]=[KyS A c (P++(ys++zs++[])++Z)];rw [bC]) (λ_ _ _=>trivial) zU)
theorem withG_is{G:zk}:∀{L:ze},∀u∈withG G L,u∈withG G L/\u.g.isSome=true
 | [],_,h=>by cases h
 | _::_,_,h=>by
  rcases aH.1 h with rfl|h
  .exact⟨aM,rfl⟩
  .exact⟨aK _ (withG_is _ h).1,(withG_is _ h).2⟩
abbrev dirP(ep:Int)(K:zu->zy)(x:DirV)(w:yp):Prop:=x.F w/\x.Ok/\x.ep=ep/\∀k,bO x.l k=K k
def seg_32{s:HSeg}{w:yp}(h:s.rd w):∀k∈s.l,k.length=32:=λk hk=>by obtain⟨i,hi⟩:=List.getElem?_of_mem hk;exact pick_key h hi
structure WiS where
  seen:Array Nat
  done:List (zu×HSeg)
  n:Nat
  h:zu->Option HSeg
  t:TA
def wiL(d:DirV)(x:WiS):zc:=iP d.l (x.done.map entD)
structure WiI(d:DirV)(g:zu->Option HSeg)(es:Array MapEntry)(n:Nat)(x:WiS):Prop where
  did:DidM TH ok32 es g x.seen x.done
  dir:DirOk (wiL d x)
  small:SmallD (wiL d x)
  tells:Tells x.h (wiL d x)
  tree:TOk 256 (pairsD (wiL d x)) x.t
  len:(wiL d x).length<=d.l.length+x.done.length
  left:x.done.length+(leftOf es x.seen).size<=n
def wiL_next(d:DirV)(x:WiS)(q:zu)(v:HSeg)(seen:Array Nat)(n:Nat)(h:zu->Option HSeg)(t:TA):wiL d ⟨seen,x.done++[(q,v)],n,h,t⟩=if v.l=[] then wiL d x else j7 (wiL d x) q v.l:=by unfold wiL;rw [bX];exact buildD_one _ _ _
def sharesD0{l:za}:dY (256-256) l:=λ_ _ _ _ _ h=>absurd h (gH _)
def dwith_S{d:DirV}(hd:d.Ok)(ep:Int)(mh n:Nat)(g:zu->Option HSeg)(hsz:d.l.length+n<=1000)(h64:∀k s,g k=some s->s.l.length<=64) :
  Spec 38 [(eDv d).den,.int .i64 ep,.map (some mh)] [MapG TH ok32 mh n g] (λw=>Ta w/\d.F w/\∀k s,g k=some s->s.rd w) { ret:=λx:DirV=>.q (eDv x),own:=λ_=>[MapG TH ok32 mh n g],p:=dirP ep (overK g d.l) }:=by
 refine zQ [.p d.parts,.c (.v (.int .i64 ep)),.c (.v (.map (some mh)))] 51 func38 rfl (by rw [ntmps38];rfl) (more_ok d.parts_ok (two_ok trivial trivial)) λb=>?_;refine s_pure (∀k s,g k=some s->∀x∈s.l,x.length=32) (λw h _ k s hs=>seg_32 (h.2.2 k s hs)) λh32=>?_;refine zA rfl (zA rfl (zM λK hK=>zC rfl λK1 hK1=>l_opV (.v (.int .i64 (n:Int))) trivial rfl rfl rfl (runO_lenA TH_ok (map_own 0 rfl) rfl rfl) (zB rfl (zJ (hK1 _ ?_)))));refine zW ((n:Int)=0) rfl (λh0=>?_) (λ_=>?_)
 .obtain rfl:n=0:=by omega
  refine zA rfl (zP (k_openG 0 rfl λes clock hH=>k_closeG TH 0 rfl hH ?_));have hz:∀k,g k=none:=λk=>hH.zero k;exact zG ({ d with ep:=ep }:DirV) rfl (λw h _=>⟨h.2.1,⟨hd.dir,hd.small,hd.tells,hd.tree,hd.map⟩,rfl,λk=>(over_none hz d.l k).symm⟩) zU
 refine zO (hK _ (zC rfl λK2 hK2=>l_opV (.v (.int .i64 (d.cnt:Int))) trivial rfl rfl rfl (runO_lenD hd (λ_ _ _ h=>h.fact.2.1) rfl rfl) (zB rfl (l_opV (.v (.int .i64 (n:Int))) trivial rfl rfl rfl (runO_lenA TH_ok (map_own 0 rfl) rfl rfl) (zB rfl (l_mkGn TH ok32 TH_ok rfl rfl rfl rfl rfl λm=>zB rfl (zJ (hK2 _ (zC rfl λK3 hK3=>?_)))))))));refine zI (own:=[MapG TH ok32 m 0 λ_=>none]) (R':=[MapG TH ok32 mh n g]) [.map (some m),.map d.mv] (λ_ _=>by go_simp) rfl (mcopy_S hd m) (λ_ h _=>h.2.1) λn2=>?_;refine l_R [MapG TH ok32 m n2 d.h,MapG TH ok32 mh n g] rfl (zJ (hK3 _ (zM λK4 hK4=>zC rfl λK5 hK5=>l_openG 1 rfl λes clock hH=>l_rangeM rfl rfl rfl rfl underlying28 rfl (es:=es) (clock:=clock) (mapE_own 1 rfl) λr=>zJ (hK5 _ (zN ?_)))))
 let Fs:WiS->Env:=λx=>⟨[(28,.v (.pointer (some ⟨r,0,none⟩))),(7,.v (.map (some m))),(3,.a 3 0),(6,.a 6 0)],[⟨6,none,33,zDirV.parts⟩,⟨3,none,33,[.one (.v (.int .i64 ep)),.one (.v (.map d.mv)),.agg 2 #[x.t.val,.int .u8 0]]⟩],[ItR (some mh) r clock x.seen,MapG TH ok32 m x.n x.h,MapB mh es clock],λw=>(Ta w/\∀k s,g k=some s->s.rd w)/\TF x.t w/\∀k s,x.h k=some s->s.rd w,λ_=>True⟩
 have hl0:(leftOf es #[]).size<=n:=by have h1:=hH.size;unfold leftOf;exact bM (Array.size_filter_le ..) (kA h1)
 refine c_weak (e':=Fs ⟨#[],[],n2,d.h,d.t⟩) ⟨zE rfl, zL rfl rfl, .refl _,λ_ h _=>⟨⟨h.2.1,h.2.2.2⟩,h.2.2.1.2.2,h.2.2.1.2.1⟩, zU⟩ (s_loop (λx=>(leftOf es x.seen).size) Fs (WiI d g es n) ?_ ⟨#[],[],n2,d.h,d.t⟩ ⟨DidM.nil,hd.dir,hd.small,hd.tells,hd.tree,aF _,by show 0+(leftOf es #[]).size<=n;omega⟩)
 rintro x hx
 obtain⟨hD,hdir,hsm,hte,htr,hlen,hleft⟩:=id hx;refine zC rfl λK6 hK6=>?_;refine l_nextM hH hD (λ_ h=>eY_all h) eHs_all 0 rfl rfl rfl rfl rfl rfl (mapE_own 2 rfl) (λh0=>?_) λq v seen' hq hv hne hlt hla hD'=>?_
 .refine zB rfl ?_
  refine zJ (hK6 _ (zM λK7 hK7=>s_no rfl (s_exit (zS (zS (k_out (k_drop 0 rfl (k_openG 0 rfl λes' clock' hH'=>k_freeB 0 rfl (k_closeG TH 0 rfl hH (hK4 _ (zA rfl (zA rfl (zP ?_)))))))))))));refine zG (⟨ep,some m,es',clock',x.n,x.h,x.t,wiL d x⟩:DirV) rfl (λw h _=>⟨⟨λm' e=>?_,h.2.2.2,h.2.2.1⟩,⟨hdir,hsm,hte,htr,hH'⟩,rfl,?_⟩) zU
  .have e:some m=some m':=e;injection e with e;rw [<-e];exact h.1
  .exact over_done hD.nodup (λd hd=>(hD.in_ d hd).2) λk s hg=>hD.all TH_ok hH h0 hg
 refine zB rfl (zJ (hK6 _ (zM λK7 hK7=>s_yes rfl (zO (hK7 _ (zN (zC rfl λK8 hK8=>l_opV (.t [eY 32 q,eHs v]) (two_ok (eY_all hq) trivial) rfl rfl rfl (runO_entry hH 0 rfl hla (mapE_own 2 rfl) rfl rfl) (zB rfl (zJ (hK8 _ (zA rfl ?_)))))))))))
 have hlt':x.done.length+1+(leftOf es seen').size<=n:=by omega
 refine zW ((v.l.length:Int)>0) rfl (λhpos=>?_) (λhn0=>?_)
 .have hvn:v.l≠[]:=λe=>by rw [e] at hpos;exact absurd hpos (by decide)
  have hv64:=h64 q v hv;refine zM λK9 hK9=>?_;refine s_locs λG=>?_;refine s_anyP [0,1,2] 4 1 (InvL (withG G [⟨8,none,47,[.agg 32 (By q).toArray]⟩,⟨6,none,33,zDirV.parts⟩,⟨3,none,33,[.one (.v (.int .i64 ep)),.one (.v (.map d.mv)),.agg 2 #[x.t.val,.int .u8 0]]⟩])) (by kernel_rfl) rfl (inv_of withG_is) ?_;refine z9 0 (by kernel_rfl) rfl (λ_ h=>h) ?_;refine z9 1 (by kernel_rfl) rfl (λ_ h=>h) ?_;refine z9 2 (by kernel_rfl) rfl (λ_ h=>h) ?_;refine p_step 3 (by kernel_rfl) rfl λKa hKa=>?_;refine z6 [.slice v.A v.l.length v.c] (λ_ _=>by go_simp) rfl (wclone_S v.l (by omega)) (λ_ h _=>h.1.2 q v hv) λy=>?_;refine l_free 0 rfl (zJ (hKa _ (inv_of withG_is) ?_));refine p_tail [4] (by kernel_rfl) rfl ?_;refine l_updG TH_ok 1 rfl q ⟨y.1,y.2,v.l⟩ hq rfl rfl rfl rfl rfl rfl (zJ (k_noloc (hK9 _ ?_)));obtain⟨va,hva⟩:∃va,valH v.l=va:=⟨_,rfl⟩;have hvl:va.length=32:=by rw [<-hva];exact dig_len _
  have hval:=hvalue_S (A:=v.A) (c:=v.c) v.l;rw [hva] at hval;have hpl:(pairsD (wiL d x)).length=(wiL d x).length:=aX ..;have hput:=tPut_S 256 (pairsD (wiL d x)) x.t (q,va) ⟨hq,hvl⟩ (aF _) htr (DirOk.pairs hdir).1 (DirOk.pairs hdir).2 sharesD0 (by omega);refine s_locs λG=>?_;refine s_anyP [0,1,2,3] 6 2 (InvL (withG G [⟨8,none,47,[.agg 32 (By q).toArray]⟩,⟨6,none,33,zDirV.parts⟩,⟨3,none,33,[.one (.v (.int .i64 ep)),.one (.v (.map d.mv)),.agg 2 #[x.t.val,.int .u8 0]]⟩])) (by kernel_rfl) rfl (inv_of withG_is) ?_;refine z9 0 (by kernel_rfl) rfl (λ_ h=>h) ?_;refine z9 1 (by kernel_rfl) rfl (λ_ h=>h) ?_;refine z9 2 (by kernel_rfl) rfl (λ_ h=>h) ?_;refine z9 3 (by kernel_rfl) rfl (λ_ h=>h) ?_;refine p_step 4 (by kernel_rfl) rfl λKa hKa=>?_;refine z6 [.slice v.A v.l.length v.c] (λ_ _=>by go_simp) rfl hval (λ_ h _=>⟨h.2.2.1.1,h.2.2.1.2 q v hv⟩) λ_=>?_;refine zJ (hKa _ (inv_of withG_is) ?_);refine p_step 5 (by kernel_rfl) rfl λKb hKb=>?_;refine z6 [(eTr x.t ((256-256)%256)).den,(eY 32 q).den,(eY 32 va).den] (λ_ _=>by go_simp) rfl hput (λ_ h _=>⟨h.2.2.2.2.1,h.2.2.2.1.1.sh⟩) λ⟨t',ht'⟩=>?_;refine zJ (hKb _ (inv_of withG_is) ?_);refine p_tail [6,7] (by kernel_rfl) rfl ?_;refine zB rfl ?_;have e1:wiL d ⟨seen',x.done++[(q,v)],if (x.h q).isSome then x.n else x.n+1,putF x.h q ⟨y.1,y.2,v.l⟩,t'⟩=j7 (wiL d x) q v.l:=by rw [wiL_next,if_neg hvn]
  refine zJ (k_noloc (zX ⟨seen',x.done++[(q,v)],if (x.h q).isSome then x.n else x.n+1,putF x.h q ⟨y.1,y.2,v.l⟩,t'⟩ ⟨hD',?_,?_,?_,?_,?_,?_⟩ hlt ⟨zE rfl, zL rfl rfl, .refl _,λw h _=>⟨h.2.2.2.2.1,h.1,λk s e=>?_⟩,λ_ h=>trivial⟩))
  .rw [e1];exact hdir.put hq hvn (h32 q v hv)
  .rw [e1];exact hsm.put hv64
  .rw [e1];exact hte.put q ⟨y.1,y.2,v.l⟩ hvn
  .rw [e1,pairsD_put,hva];exact ht'
  .rw [e1,aA];have:=putD_len (wiL d x) q v.l;show _<=_+(_+1);omega
  .rw [aA];exact hlt'
  .have e:putF x.h q ⟨y.1,y.2,v.l⟩ k=some s:=e
   unfold putF at e;split at e
   .injection e with e;rw [<-e];exact h.2.2.1
   .exact h.2.2.2.2.2.2 k s e
 .have hvn:v.l=[]:=bE (by omega)
  have e1:wiL d ⟨seen',x.done++[(q,v)],x.n,x.h,x.t⟩=wiL d x:=by rw [wiL_next,if_pos hvn]
  refine zO (zX ⟨seen',x.done++[(q,v)],x.n,x.h,x.t⟩ ⟨hD',?_,?_,?_,?_,?_,?_⟩ hlt ⟨zE rfl, zL rfl rfl, .refl _,λ_ h _=>h,λ_ h=>h⟩)
  .rw [e1];exact hdir
  .rw [e1];exact hsm
  .rw [e1];exact hte
  .rw [e1];exact htr
  .rw [e1,aA];exact bM hlen (Nat.add_le_add_left (qS _) _)
  .rw [aA];exact hlt'
theorem SmallD.apply:∀{us:yx} {l:zc},SmallD l->SmallD (cM l (us.map udH))
 | [],_,h=>h
 | u::us,l,h=>SmallD.apply (us:=us) (l:=fR l (udH u)) (h.step u)
def us_ok{us:yx}(h:∀u∈us,u.Ok):wO (us.map udH):=⟨λx hx=>by
 obtain⟨u,hu,rfl⟩:=aZ.1 hx;exact(h u hu).id,λx hx=>by
 obtain⟨u,hu,rfl⟩:=aZ.1 hx;exact(h u hu).key⟩
def take_apply{us:yx}{i:Nat}{u:UV}(h:us[i]?=some u)(l:zc):cM l ((us.take (i+1)).map udH)=fR (cM l ((us.take i).map udH)) (udH u):=by
 have:us.take (i+1)=us.take i++[u]:=by rw [List.take_add_one,h];rfl
 rw [this,bX,tF];rfl
theorem applyD_len:∀(us:List UD) (l:zc),(cM l us).length<=l.length+us.length
 | [],_=>aF _
 | u::us,l=>by have h1:=applyD_len us (fR l u);have h2:=stepD_len l u;show(cM (fR l u) us).length<=_;rw [a6];omega
structure GrownD(g:zu->Option HSeg)(l z:zc):Prop where
  keys:∀k,bO z k=(match g k with|some s=>s.l|none=>bO l k)
  some:∀k s,g k=some s->s.l≠[]
def GrownD.nil(l:zc):GrownD (λ_=>none) l l:=⟨λ_=>rfl,λ_ _ h=>(by cases h)⟩
def GrownD.put{g:zu->Option HSeg}{l z:zc}(h:GrownD g l z)(k:zu)(s:HSeg)(hs:s.l≠[]):GrownD (putF g k s) l (j7 z k s.l):=⟨λx=>by
 rw [jP];unfold putF;by_cases c:x=k
 .rw [if_pos c,if_pos c]
 .rw [if_neg c,if_neg c];exact h.keys x,λx s' e=>by
 unfold putF at e;split at e
 .injection e with e;rw [<-e];exact hs
 .exact h.some x s' e⟩
theorem GrownD.over{g:zu->Option HSeg}{l z:zc}(h:GrownD g l z)(k:zu):overK g l k=bO z k:=by
 rw [h.keys];unfold overK;cases hg:g k with
 | none=>rfl
 | some s=>exact if_neg (h.some k s hg)
def step_not{l:zc}{u:UV}(h:¬(signB u=true/\u.ver=((bO l u.id).length:Int)+1)):fR l (udH u)=l:=if_neg λh2=>h (okD_iff.1 h2)
def step_ok{l:zc}{u:UV}(h:signB u=true/\u.ver=((bO l u.id).length:Int)+1):fR l (udH u)=j7 l u.id (bO l u.id++[u.key]):=if_pos (okD_iff.2 h)
structure ApS where
  i:Nat
  n:Nat
  g:zu->Option HSeg
structure ApI(l:zc)(us:yx)(x:ApS):Prop where
  i:x.i<=us.length
  n:x.n<=x.i
  g:GrownD x.g l (cM l ((us.take x.i).map udH))
def nxE_zeroD{l:zy}{u:UV}:nxE l u=0↔(signB u=true/\u.ver=(l.length:Int)+1):=by
 unfold nxE;split
 .rename_i h;split<;>simp_all
 .rename_i h;simp [h]
def dapply_S{d:DirV}(hd:d.Ok){A:zt}{c:Nat}{us:yx}(hus:∀u∈us,u.Ok)(hsz:d.l.length+us.length<=1000) :
  Spec 11 [(eDv d).den,.slice A us.length c] [] (λw=>Ta w/\d.F w/\Rd 129 eU A c us w) { ret:=λx:DirV=>.q (eDv x),p:=λx w=>x.F w/\x.Ok/\x.ep=IntKind.i64.wrap (d.ep+1)/\x.l=cM d.l (us.map udH) }:=by
 refine zQ [.p d.parts,.c (.v (.slice A us.length c))] 58 func11 rfl (by rw [ntmps11];rfl) (two_ok d.parts_ok trivial) λb=>?_;refine zA rfl (zC rfl λK1 hK1=>l_mkG TH ok32 rfl rfl rfl rfl λm=>zB rfl (zJ (hK1 _ (zM λK hK=>zA rfl (zN ?_)))))
 let Fs:ApS->Env:=λx=>⟨[(15,.v (.int .i64 (x.i:Int))),(14,.v (.int .i64 (us.length:Int))),(13,.v (.slice A us.length c)),(5,.v (.map (some m))),(2,.a 2 0),(4,.a 4 0)],[⟨4,none,33,zDirV.parts⟩,⟨2,none,33,d.parts⟩],[MapG TH ok32 m x.n x.g],λw=>(Ta w/\d.F w/\Rd 129 eU A c us w)/\∀k s,x.g k=some s->s.rd w,λ_=>True⟩
 refine c_weak (e':=Fs ⟨0,0,λ_=>none⟩) ⟨zE rfl, zL rfl rfl, .refl _,λ_ h _=>⟨h,λ_ _ e=>by cases e⟩, zU⟩ (s_loop (λx=>us.length-x.i) Fs (ApI d.l us) ?_ ⟨0,0,λ_=>none⟩ ⟨aL _,aF _,GrownD.nil _⟩)
 rintro⟨i,n,g⟩ ⟨hi,hn,hg⟩
 dsimp only at hi hn hg
 have hsm:SmallD (cM d.l ((us.take i).map udH)):=hd.small.apply;refine zA rfl (zM λK5 hK5=>?_);refine zW ((i:Int)<(us.length:Int)) rfl (λhlt=>?_) (λhge=>?_)
 .have hlt:i<us.length:=by omega
  obtain⟨u,hu⟩:∃u,us[i]?=some u:=⟨_,aJ hlt⟩;have huo:=hus u (aR hu);have htk:=take_apply hu d.l;refine zO (hK5 _ (zM λK10 hK10=>?_));have hgo:∀n' g',n'<=i+1->GrownD g' d.l (cM d.l ((us.take (i+1)).map udH))->∀e,Weak e ⟨[(15,.v (.int .i64 (i:Int))),(14,.v (.int .i64 (us.length:Int))),(13,.v (.slice A us.length c)),(5,.v (.map (some m))),(2,.a 2 0),(4,.a 4 0)],[⟨4,none,33,zDirV.parts⟩,⟨2,none,33,d.parts⟩],[MapG TH ok32 m n' g'],λw=>(Ta w/\d.F w/\Rd 129 eU A c us w)/\∀k s,g' k=some s->s.rd w,λ_=>True⟩->kS b K10 58 e:=by intro n' g' hn' hg' e hw;refine k_weak hw (hK10 _ (zD rfl ?_));exact zX ⟨i+1,n',g'⟩ ⟨hlt,hn',hg'⟩ (by show us.length-(i+1)<us.length-i;omega) ⟨⟨congrArg (λz=>some (SV.v (.int .i64 z))) (wrapI (m:=(i:Int)+1) (r:=((i+1:Nat):Int)) (by omega) (by omega) (by omega)),rfl,rfl,rfl,rfl,rfl,trivial⟩,zL rfl rfl, .refl _,λ_ h _=>h,λ_ h=>h⟩
  refine zN (zC rfl λK11 hK11=>l_elem zY rfl rfl rfl i rfl hu rfl rfl (rd_fact λ_ h _=>h.1.2.2) (zB rfl (zJ (hK11 _ ?_))));obtain⟨z,hz⟩:∃z,cM d.l ((us.take i).map udH)=z:=⟨_,rfl⟩;rw [hz] at hg hsm htk;have hk64:=hsm.keys u.id;refine zC rfl λK12 hK12=>l_opV (.t [eHs ((g u.id).getD nilH),.c (.b (g u.id).isSome)]) (two_ok trivial trivial) rfl rfl rfl (runO_grown (map_own 0 rfl) u.id huo.id rfl rfl rfl) (zB rfl (zJ (hK12 _ (zM λK13 hK13=>?_))));have hrest:∀s:HSeg,s.l=bO z u.id->∀e,Weak e ⟨[(8,.q (eHs s)),(7,.a 7 0),(15,.v (.int .i64 (i:Int))),(14,.v (.int .i64 (us.length:Int))),(13,.v (.slice A us.length c)),(5,.v (.map (some m))),(2,.a 2 0),(4,.a 4 0)],[⟨7,none,69,u.parts⟩,⟨4,none,33,zDirV.parts⟩,⟨2,none,33,d.parts⟩],[MapG TH ok32 m n g],λw=>s.rd w/\(Ta w/\d.F w/\Rd 129 eU A c us w)/\∀k s,g k=some s->s.rd w,λ_=>True⟩->kS b K13 58 e:=by
   intro s hsl e hw;refine k_weak hw (hK13 _ ?_);rw [<-hsl] at hk64;have hwr:IntKind.i64.wrap ((s.l.length:Int)+1)=(s.l.length:Int)+1:=wrapI rfl (by omega) (by omega);refine zM λK14 hK14=>zA rfl ?_;refine zW (u.ver≠IntKind.i64.wrap ((s.l.length:Int)+1)) rfl (λhne=>?_) (λheq=>?_)
   .rw [hwr] at hne;refine s_exit (zS (k_out (hgo n g (by omega) ?_ _ ⟨zE rfl, zL rfl rfl, .refl _,λ_ h _=>h.2, zU⟩)));rw [htk,step_not (λh=>hne (by rw [hsl];exact h.2))];exact hg
   rw [hwr] at heq;have heq:u.ver=(s.l.length:Int)+1:=Decidable.of_not_not heq;refine zO (hK14 _ ?_);obtain⟨ee,hee⟩:∃ee,nxE s.l u=ee:=⟨_,rfl⟩;obtain⟨kk,hkk⟩:∃kk,nxK s.l u=kk:=⟨_,rfl⟩;have hnx:=hnext_Q (A:=s.A) (c:=s.c) hee hkk huo (by omega);refine zC rfl λK15 hK15=>?_;refine z6 [.slice s.A s.l.length s.c,(eU u).den] (λ_ _=>by go_simp) rfl hnx (λ_ h _=>⟨h.2.1.1,h.1⟩) λ⟨X,c2⟩=>?_;refine zB rfl (zJ (hK15 _ (zA rfl ?_)));refine zW ((ee:Int)=0) rfl (λh0=>?_) (λh0=>?_)
   .have h0:nxE s.l u=0:=by omega
    have hk2:kk=s.l++[u.key]:=by rw [<-hkk];unfold nxK;rw [if_pos h0]
    have hst:=step_ok (l:=z) (u:=u) (by rw [<-hsl];exact nxE_zeroD.1 h0);rw [<-hsl,<-hk2] at hst;refine s_lit (zB rfl (l_updG TH_ok 0 rfl u.id ⟨X,c2,kk⟩ huo.id rfl rfl rfl rfl rfl rfl ?_));refine zJ (hgo (if (g u.id).isSome then n else n+1) (putF g u.id ⟨X,c2,kk⟩) (by split<;>omega) ?_ _ ⟨zE rfl, zL rfl rfl, .refl _,λw h _=>⟨h.2.2.1,λk s' e=>?_⟩, zU⟩)
    .rw [htk,hst];exact hg.put u.id ⟨X,c2,kk⟩ (by rw [hk2];simp)
    .unfold putF at e
     split at e
     .injection e with e;rw [<-e];exact h.1
     .exact h.2.2.2 k s' e
   .refine zO (hgo n g (by omega) ?_ _ ⟨zE rfl, zL rfl rfl, .refl _,λ_ h _=>h.2.2, zU⟩);rw [htk,step_not (λh=>h0 (by rw [<-hee,nxE_zeroD.2 (by rw [hsl];exact h)];rfl))];exact hg
  have hkz:=hg.keys u.id;refine zA rfl ?_;refine s_if (!(g u.id).isSome) rfl (λh=>?_) (λh=>?_)
  .have hs:g u.id=none:=by
    cases e:g u.id with
    | none=>rfl
    | some s=>rw [e] at h;cases h
   rw [hs] at hkz;refine s_lit (zB rfl (l_opV (.q (eHs (d.seg u.id))) trivial rfl rfl rfl (runO_hist hd (λ_ _ _ h=>h.fact.1.2.1) u.id huo.id rfl rfl rfl) (zB rfl ?_)));exact zJ (hrest (d.seg u.id) (by rw [hkz,hd.seg_l]) _ ⟨zE rfl, zL rfl rfl, .refl _,λ_ h _=>⟨h.1.2.1.seg_rd _,h⟩, zU⟩)
  .cases hs:g u.id with
   | none=>rw [hs] at h;cases h
   | some s =>
    rw [hs] at hkz;exact zO (hrest s hkz.symm _ ⟨zE rfl, zL rfl rfl, .refl _,λ_ h _=>⟨h.2 _ _ hs,h⟩, zU⟩)
 .obtain rfl:us.length=i:=by omega
  rw [List.take_length] at hg hsm;refine s_exit (zS (zS (k_out (hK _ ?_))));have h64:∀k s,g k=some s->s.l.length<=64:=λk s e=>by have h1:=hg.keys k;rw [e] at h1;have h2:=hsm.keys k;rw [h1] at h2;exact h2
  have hlz:=applyD_len (us.map udH) d.l;rw [aX] at hlz;refine zC rfl λK16 hK16=>?_;refine zI (own:=[MapG TH ok32 m n g]) (R':=[]) [(eDv d).den,.int .i64 (IntKind.i64.wrap (d.ep+1)),.map (some m)] (λ_ _=>by go_simp) rfl (dwith_S hd (IntKind.i64.wrap (d.ep+1)) m n g (by omega) h64) (λ_ h _=>⟨h.1.1,h.1.2.1,h.2⟩) λx=>?_;refine zB rfl (zJ (hK16 _ (zP (k_drop 0 rfl ?_))));exact zG x rfl (λw h _=>⟨h.1.1,h.1.2.1,h.1.2.2.1,DirOk.ext h.1.2.1.dir (hd.dir.apply (us_ok hus)) λk=>(h.1.2.2.2 k).trans (hg.over k)⟩) zU
noncomputable def tookD(id:zu):zc->yx->yx
  | _,[]=>[]
  | l,u::us=>if okD l (udH u)=true/\u.id=id then u::tookD id (fR l (udH u)) us else tookD id (fR l (udH u)) us
def tookD_cons(id:zu)(l:zc)(u:UV)(us:yx):tookD id l (u::us)=if okD l (udH u)=true/\u.id=id then u::tookD id (fR l (udH u)) us else tookD id (fR l (udH u)) us:=rfl
theorem keys_took(id:zu):∀(us:yx) (l:zc),bO (cM l (us.map udH)) id=bO l id++(tookD id l us).map (·.key)
 | [],l=>by simp [cM,tookD]
 | u::us,l=>by
  show bO (cM (fR l (udH u)) (us.map udH)) id=_;rw [keys_took id us,qA,tookD_cons];by_cases h:okD l (udH u)=true/\u.id=id
  .rw [if_pos h,if_pos ⟨h.1,h.2.symm⟩,bA,aT];show bO l u.id++([u.key]++_)=_;rw [h.2];rfl
  .rw [if_neg h,if_neg λh2=>h ⟨h2.1,h2.2.symm⟩]
theorem took_in(id:zu):∀{us:yx} {l:zc} {u:UV},u∈tookD id l us->u∈us/\u.id=id/\signB u=true
 | [],_,_,h=>by cases h
 | v::us,l,u,h=>by
  rw [tookD_cons] at h;split at h
  .rename_i hv
   rcases aH.1 h with rfl|h
   .exact⟨.head _,hv.2,(okD_iff.1 hv.1).1⟩
   .obtain⟨h1,h2⟩:=took_in id h;exact⟨.tail _ h1,h2⟩
  .obtain⟨h1,h2⟩:=took_in id h;exact⟨.tail _ h1,h2⟩
theorem took_ver(id:zu):∀{us:yx} {l:zc} {i:Nat} {u:UV},(tookD id l us)[i]?=some u->u.ver=((bO l id).length:Int)+(i:Int)+1
 | [],_,_,_,h=>by simp [tookD] at h
 | v::us,l,i,u,h=>by
  rw [tookD_cons] at h;have hk:=qA l (udH v) id;split at h
  .rename_i hv
   rw [if_pos ⟨hv.1,hv.2.symm⟩] at hk;cases i with
   | zero =>
    obtain rfl:v=u:=by simpa using h
    have:=(okD_iff.1 hv.1).2;rw [hv.2] at this;rw [this]
    show _=_+(0:Int)+1
    omega
   | succ i =>
    have h2:=took_ver id (show(tookD id (fR l (udH v)) us)[i]?=some u by simpa using h)
    have hl:(bO (fR l (udH v)) id).length=(bO l id).length+1:=by have e:(udH v).id=id:=hv.2;rw [hk,e,aA];rfl
    rw [h2,hl]
    omega
  .rename_i hv;rw [if_neg λh2=>hv ⟨h2.1,h2.2.symm⟩] at hk;rw [took_ver id h,hk]
structure GrD where
  id:zu
  keys:zy
  more:yx
noncomputable def grewD(l:zc)(us:yx):List GrD:=(cM l (us.map udH)).filterMap λe=>if tookD e.1 l us=[] then none else some ⟨e.1,bO l e.1,tookD e.1 l us⟩
def grew_mem{l:zc}{us:yx}{g:GrD}(h:g∈grewD l us):(∃e∈cM l (us.map udH),e.1=g.id)/\g.keys=bO l g.id/\g.more=tookD g.id l us/\g.more≠[]:=by
 obtain⟨e,he,h⟩:=List.mem_filterMap.1 h;split at h
 .cases h
 .rename_i hn;obtain rfl:=bQ h;exact⟨⟨e,he,rfl⟩,rfl,rfl,hn⟩
def grew_has{l:zc}{us:yx}{id:zu}(hn:tookD id l us≠[]):(⟨id,bO l id,tookD id l us⟩:GrD)∈grewD l us:=by
 have h1:bO (cM l (us.map udH)) id≠[]:=by rw [keys_took];intro e;have:=(nL.1 e).2;exact hn (o9.1 this)
 exact List.mem_filterMap.2 ⟨_,keysD_mem h1,by show(if tookD id l us=[] then none else _)=_;rw [if_neg hn]⟩
def grew_sort{l:zc}{us:yx}(h:DirOk (cM l (us.map udH))):(grewD l us).Pairwise λa b=>dG a.id b.id=true:=by
 unfold grewD;refine List.pairwise_filterMap.2 (h.sort.imp λ{a b} hab x hx y hy=>?_);have e1:x.id=a.1:=by
  split at hx
  .cases hx
  .exact congrArg GrD.id (bQ hx).symm
 have e2:y.id=b.1:=by
  split at hy
  .cases hy
  .exact congrArg GrD.id (bQ hy).symm
 rw [e1,e2];exact hab
abbrev GrD.ent(g:GrD):EntD:=(g.id,g.keys++g.more.map (·.key))
def grew_build{l:zc}{us:yx}(hl:DirOk l)(hus:∀u∈us,u.Ok):iP l ((grewD l us).map GrD.ent)=cM l (us.map udH):=by
 have ha:DirOk (cM l (us.map udH)):=hl.apply (us_ok hus);have hp:((grewD l us).map GrD.ent).Pairwise λa b=>a.1≠b.1:=List.pairwise_map.2 ((grew_sort ha).imp λhab=>(oJ hab).symm);have hm:∀e∈(grewD l us).map GrD.ent,e∈cM l (us.map udH):=λe he=>by obtain⟨g,hg,rfl⟩:=aZ.1 he;obtain⟨⟨x,hx,hxi⟩,h1,h2,h3⟩:=grew_mem hg;have h4:=mX (ha.sort.imp λhab=>(oJ hab).symm) hx;rw [hxi,keys_took,<-h1,<-h2] at h4;show(g.id,g.keys++g.more.map (·.key))∈_;rw [h4,<-hxi];exact hx
 refine DirOk.ext (hl.build (λe he=>ha.ids e (hm e he)) λe he=>ha.keys e (hm e he)) ha λx=>?_;rw [mY hp];by_cases hn:tookD x l us=[]
 .rw [if_pos (o8 λe he hex=>?_),keys_took,hn]
  .simp
  .obtain⟨g,hg,rfl⟩:=aZ.1 he;obtain⟨_,_,h2,h3⟩:=grew_mem hg;have hex:g.id=x:=hex;rw [hex] at h2;exact h3 (h2.trans hn)
 .have h5:bO ((grewD l us).map GrD.ent) x=bO l x++(tookD x l us).map (·.key):=mX hp (e:=GrD.ent ⟨x,bO l x,tookD x l us⟩) (aZ.2 ⟨_,grew_has hn,rfl⟩);rw [h5,if_neg (λe=>hn (o9.1 (nL.1 e).2)),keys_took]
def pairs_ok{l:zc}(h:DirOk l):∀p∈pairsD l,OkT2 p:=λp hp=>by obtain⟨e,he,rfl⟩:=aZ.1 hp;exact⟨h.ids e he,dig_len _⟩
def own_dkeys:Own 22:=λ_ _=>by go_simp
abbrev keysP(l:zy):Post PX:={ ret:=λx=>.v (.slice x.1 l.length x.2),own:=λx=>[KyS x.1 x.2 l] }
def dkeys_S{d:DirV}(hd:d.Ok){k:zu}(hk:k.length=32):Spec 22 [(eDv d).den,(eY 32 k).den] [] d.F (keysP (bO d.l k)):=by have h64:=hd.small.keys k;rw [<-hd.seg_l k] at h64 ⊢;refine zQ [.p d.parts,eY 32 k] 10 func22 rfl (by rw [ntmps22];rfl) (two_ok d.parts_ok (eY_ok hk).1) λb=>?_;refine zA rfl (zC rfl λK hK=>l_opV (.q (eHs (d.seg k))) trivial rfl rfl rfl (runO_hist hd (λ_ _ _ h=>h.fact) k hk rfl rfl rfl) ?_);refine z6 [.slice (d.seg k).A (d.seg k).l.length (d.seg k).c] (λ_ _=>by go_simp) rfl (wclone_S (d.seg k).l (by omega)) (λ_ h _=>h.seg_rd k) λx=>?_;refine zB rfl (zJ (hK _ ?_));exact zP (zG x rfl (λ_ _ _=>trivial) zU)
def droot_S{d:DirV}(hd:d.Ok):Spec 13 [(eDv d).den] [] d.F (one (.q (eY 32 (fS 256 (pairsD d.l))))):=by rw [<-hd.tree.root];refine zQ [.p d.parts] 6 func13 rfl (by rw [ntmps13];rfl) (one_ok d.parts_ok) λb=>?_;refine zA rfl (zC rfl λK hK=>z6 [(eTr d.t 0).den] own_tRoot rfl (tRoot_S d.t 0) (λ_ h _=>h.2.2) λ_=>zB rfl (zJ (hK _ ?_)));exact zP (zG () rfl (λ_ _ _=>trivial) zU)
def dtree_S(d:DirV):Spec 29 [(eDv d).den] [] (λ_=>True) (one (.q (.p [.agg 2 #[d.t.val,.int .u8 0]]))):=by refine zQ [.p d.parts] 5 func29 rfl (by rw [ntmps29];rfl) (one_ok d.parts_ok) λb=>?_;refine zA rfl (zA rfl ?_);exact zP (zG () rfl (λ_ _ _=>trivial) zU)
def Spec.tell{f:FuncId}{args:zq}{F:zv}{α β:Type}{ret:α->RV}{lo e k:Nat}{fe:β->SQ}{A:α->zt}{c:α->Nat}{l:List β}(h:Spec f args [] F { ret:=ret,own:=λx=>[OwnS lo e k fe (A x) (c x) l] }):Spec f args [] F { ret:=ret,p:=λx=>Rd k fe (A x) (c x) l }:=λw S X hs hX hF=>by
 refine(h w S X hs hX hF).mono ?_;rintro e w' ⟨x,S',h1,h2,h3,⟨S1,S2,h4,h8,h9,h10⟩,h5,h6,h7⟩;refine⟨x,λ_=>False,h1,h2,h3,λ_ h=>h,λ_ h=>h.elim,λw2 hw=>(OwnS.rd h4).keep hw.size λg hg hlt=>hw.block g hlt ?_, zU⟩;rintro(hk|hk)
 .have hS1:S1 g:=(h4.2.2 g).2 hg;exact hs g (h5 g ((h9 g).2 (.inl hS1)) (hX g hk).1)
 .exact hk
def wcut_nil(n d:Nat)(ks:zy):PW.cut n d [] ks = .empty:=by cases n<;>rfl
theorem wcut_hid(n d:Nat){l:za}(h:l≠[]):PW.cut n d l [] = .hid (fS (256-d) l):=by
 cases l with
 | nil=>exact absurd rfl h
 | cons p l=>cases n<;>rfl
theorem wcut_leaf(n d:Nat)(p:PairT){ks:zy}(h:ks≠[]):PW.cut n d [p] ks = .leaf p:=by
 cases ks with
 | nil=>exact absurd rfl h
 | cons k ks=>cases n<;>rfl
theorem wcut_inner(n d:Nat){l:za}{ks:zy}(h2:2<=l.length)(h:ks≠[]):PW.cut (n+1) d l ks = .inner (PW.cut n (d+1) (cJ d l) (PW.keyL d ks)) (PW.cut n (d+1) (bU d l) (PW.keyR d ks)):=by
 match l,ks,h2,h with
 | [],_,h2,_=>exact absurd h2 (by decide)
 | [_],_,h2,_=>exact absurd h2 (by simp)
 | _::_::_,[],_,h=>exact absurd rfl h
 | _::_::_,_::_,_,_=>rfl
theorem wcut_perm:∀(n d:Nat) (l:za) {ks ks':zy},ks.Perm ks'->PW.cut n d l ks=PW.cut n d l ks'
 | n,d,[],_,_,_=>by rw [wcut_nil,wcut_nil]
 | n,d,p::l,ks,ks',h=>by
  by_cases e:ks=[]
  .subst e;rw [h.nil_eq]
  .have e':ks'≠[]:=λh2=>e (by subst h2;exact h.eq_nil)
   cases l with
   | nil=>rw [wcut_leaf n d p e,wcut_leaf n d p e']
   | cons q l =>
    cases n with
    | zero =>
     cases ks with
     | nil=>exact absurd rfl e
     | cons=>cases ks' with
      | nil=>exact absurd rfl e'
      | cons=>rfl
    | succ n =>
     rw [wcut_inner n d (by simp) e,wcut_inner n d (by simp) e',wcut_perm n (d+1) _ (h.filter _),wcut_perm n (d+1) _ (h.filter _)]
def withG_some{G:zk}:∀{L:ze},∀u∈withG G L,u∈withG G L/\u.g.isSome=true:=λu hu=>⟨hu,by obtain⟨y,_,rfl⟩:=withG_mem hu;rfl⟩
def l_pureV{P:ym}{b:Base}{ops:zp}{Q:zx}{N:Nat}{E:SE}{L:ze}{R:zd}{F M:zv}{l:zo}(φ:Prop)(h:∀G S w,View G S L R F M w->φ)(hn:φ->lS P b ops Q N l ⟨E,L,R,F,M⟩):lS P b ops Q N l ⟨E,L,R,F,M⟩:=λa w ⟨G,S,h1,h2,h3⟩=>hn (h G S w h3.view) a w ⟨G,S,h1,h2,h3⟩
def OwnS.start{α:Type}{lo e k c:Nat}{fe:α->SQ}{A:zt}{l:List α}{w:yp}{S:zm}(h:(OwnS lo e k fe A c l).holds w S)(h0:0<l.length):∃g,A=some ⟨g,0,none⟩:=by
 obtain⟨h1,h2,h3⟩:=h;rcases h2.2 with⟨h4,h5⟩|⟨g,cap,cur,hv,_⟩
 .omega
 .injection hv with h6 h7 h8;exact⟨g,h6⟩
theorem wcut_S{A:zt}{c:Nat}:∀(r:Nat) (l:za) (t:TA) (P ks Z:zy) (A':zt) (c':Nat),r<=256->TOk r l t->SortT l->gX l->dY (256-r) l->KeyAt A A' c' P.length ks.length->(∀k∈ks,k.length=32) ->
  Spec 70 [(eTr t ((256-r)%256)).den,.slice A' ks.length c',.int .u8 (((256-r)%256:Nat):Int)] [KyS A c (P++ks++Z)] (TF t) { ret:=λ_:{ ks':zy // ks'.Perm ks }=>.v (PW.cut r (256-r) l ks).val,own:=λx=>[KyS A c (P++x.1++Z)] }:=by
 intro r
 induction r using rU with
 | ind r ih =>
 intro l t P ks Z A' c' hr ht hs hk hsh hat hks
 obtain⟨D,hD⟩:∃D,(256-r)%256=D:=⟨_,rfl⟩;rw [hD];refine zQ [eTr t D,.c (.v (.slice A' ks.length c')),.c (.v (.int .u8 (D:Int)))] 67 func70 rfl (by rw [ntmps70];rfl) (more_ok (trPs_ok t _) (two_ok trivial trivial)) λb=>?_;refine zA rfl (zM λK hK=>zC rfl λK1 hK1=>?_);refine z6 [(eTr t D).den] (λ_ _=>by go_simp) rfl (tLen_S t D) (λ_ h _=>h) λ_=>?_;refine zB rfl (zJ (hK1 _ ?_));have hlen:=ht.len;have hroot:=ht.root
 by_cases hl0:l=[]
 .subst hl0;refine zW ((t.len:Int)=0) rfl (λ_=>?_) (λh=>absurd (by rw [hlen];rfl) h);refine zC rfl λK2 hK2=>l_op (.v PW.empty.val) trivial rfl rfl rfl (run_mkI rfl underlying199 rfl rfl) (zB rfl (zJ (hK2 _ ?_)));exact zP (zR zY ⟨ks,.refl _⟩ rfl (by decide) rfl (by rw [wcut_nil];rfl) rfl (λ_ _ _=>trivial) zU)
 have hlpos:0<l.length:=List.length_pos_iff.2 hl0;refine zW ((t.len:Int)=0) rfl (λh=>absurd h (by omega)) (λ_=>?_);refine zO (hK _ (zM λK2 hK2=>zA rfl ?_))
 by_cases hk0:ks=[]
 .subst hk0;refine zW ((([]:zy).length:Int)=0) rfl (λ_=>?_) (λh=>absurd rfl h);refine zC rfl λK3 hK3=>z6 [(eTr t D).den] own_tRoot rfl (tRoot_S t D) (λ_ h _=>h.2) λ_=>zB rfl (l_op (.v (PW.hid t.root).val) trivial rfl rfl rfl (run_mkI (q:=.p (PW.hid t.root).ps) rfl underlying201 rfl rfl) (zB rfl (zJ (hK3 _ ?_))));exact zP (zR zY ⟨[],.refl _⟩ rfl (by decide) rfl (by rw [wcut_hid _ _ hl0,show 256-(256-r)=r by omega,<-hroot];rfl) rfl (λ_ _ _=>trivial) zU)
 have hkpos:0<ks.length:=List.length_pos_iff.2 hk0;refine zW ((ks.length:Int)=0) rfl (λh=>absurd h (by omega)) (λ_=>?_);refine zO (hK2 _ (zM λK3 hK3=>zC rfl λK4 hK4=>?_));refine z6 [(eTr t D).den] (λ_ _=>by go_simp) rfl (tLeaf_S t D) (λ_ h _=>h.2) λ_=>?_
 cases t with
 | nil=>exact absurd ht.nil_inv hl0
 | leaf g0 h0 p =>
  obtain rfl:=ht.leaf_inv;refine zB rfl (zJ (hK4 _ (zA rfl (s_yes rfl ?_))));refine s_regD 7 (by decide) (by kernel_rfl) (by kernel_rfl) λK5 hK5 G S w0 hst=>?_;refine g_autoS zY hst rfl (g_callS (F':=TF (.leaf g0 h0 p)) hst [(eTr (.leaf g0 h0 p) D).den] rfl rfl rfl own_tRoot rfl rfl (λ_=>rfl) (tRoot_S (.leaf g0 h0 p) D) (eY_ok (n:=32) (digest256_len _)).1 (λ_ _ _ hv=>hv.fact.2.2) (g_autoS zY hst rfl (g_opS (.v (PW.leaf p).val) trivial rfl rfl rfl (run_mkI (q:=.p (PW.leaf p).ps) rfl underlying205 rfl rfl) (g_autoS zY hst rfl (g_endS hst (zJ (hK5 _ ?_)))))));exact zP (zR zY ⟨ks,.refl _⟩ rfl (by decide) rfl (by rw [wcut_leaf _ _ _ hk0];rfl) rfl (λ_ _ _=>trivial) zU)
 | node g0 x y =>
  obtain⟨r,rfl⟩:∃q,r=q+1:=⟨r-1,by
   cases r with
   | zero=>exact ht.elim
   | succ r=>rfl⟩
  obtain rfl:255-r=D:=by omega
  rw [show 256-(r+1)=255-r by omega] at hsh;obtain⟨d,hdr⟩:∃d,255-r=d:=⟨_,rfl⟩;obtain⟨e8,he8⟩:∃e,(256-r)%256=e:=⟨_,rfl⟩
  have hd:d<256:=by omega
  have hw8:IntKind.u8.wrap ((d:Int)+1)=(e8:Int):=wrapB2 ⟨hdr.symm,by omega⟩ he8;have ih2:=λl t P ks Z A' c' ht hs hk hsh=>ih r (by omega) l t P ks Z A' c' (by omega) ht hs hk hsh;simp only [he8] at ih2;clear ih;rw [hdr] at hsh ⊢;obtain⟨hl2,hx0,hy0⟩:=ht;rw [hdr] at hx0 hy0;have hshL:=hsh.left;have hshR:=hsh.right;rw [show d+1=256-r by omega] at hshL hshR;refine zB rfl (zJ (hK4 _ (zA rfl (s_no rfl (zO (hK3 _ (s_keep [1,2,3] [3] rfl rfl (zC rfl λK5 hK5=>?_))))))));refine z6 [(eTr (.node g0 x y) d).den] (λ_ _=>by go_simp) rfl (tSides_S (.node g0 x y) d e8 hw8) (λ_ h _=>h.2.2) λ_=>?_;refine zB rfl (zJ (hK5 _ (zC rfl λK6 hK6=>l_R ([KyS A c (P++ks++Z)]++[]) rfl ?_)));refine zI [.slice A' ks.length c',.int .u8 (d:Int)] (λ_ _=>by go_simp) rfl (wparted_S P ks Z d hd hat hks) (λ_ _ _=>trivial) λu=>?_;obtain⟨⟨ys,zs⟩,hpt⟩:=u;refine zB rfl (zJ (hK6 _ ?_));have hplen:=hpt.len
  dsimp only at hplen
  have hysl:∀k∈ys,k.length=32:=λk h=>hks k ((hpt.perm.mem_iff).1 (List.mem_append_left _ h));have hzsl:∀k∈zs,k.length=32:=λk h=>hks k ((hpt.perm.mem_iff).1 (List.mem_append_right _ h));have hsL:SortT (cJ d l):=hs.filter _;have hsR:SortT (bU d l):=hs.filter _;have hkL:gX (cJ d l):=hk.filter _;have hkR:gX (bU d l):=hk.filter _;have hcall1:=ih2 (cJ d l) x P ys (zs++Z) A' c' hx0 hsL hkL hshL (hat.left (by omega)) hysl
  have hcall2:=λys':{ q:zy // q.Perm ys }=>ih2 (bU d l) y (P++ys'.1) zs Z (cutK 32 A' c' ys.length) (c'-ys.length) hy0 hsR hkR hshR (by have:=hat.right (m:=ys.length) (by omega);rw [show ks.length-ys.length=zs.length by omega] at this;rw [aA,ys'.2.length_eq];exact this) hzsl
  have hX:(PW.cut r (256-r) (cJ d l) ys).root=x.root:=by rw [(PW.cut_of r ys (by omega) hsL hkL hshL).root,hx0.root,show 256-(256-r)=r by omega]
  have hY:(PW.cut r (256-r) (bU d l) zs).root=y.root:=by rw [(PW.cut_of r zs (by omega) hsR hkR hshR).root,hy0.root,show 256-(256-r)=r by omega]
  have hfin:PW.cut (r+1) (256-(r+1)) l ks = .inner (PW.cut r (256-r) (cJ d l) ys) (PW.cut r (256-r) (bU d l) zs):=by rw [show 256-(r+1)=d by omega,wcut_inner r d hl2 hk0,show d+1=256-r by omega,wcut_perm r _ _ hpt.1,wcut_perm r _ _ hpt.2]
  have hroot2:gN x.root y.root=gN (PW.cut r (256-r) (cJ d l) ys).root (PW.cut r (256-r) (bU d l) zs).root:=by rw [hX,hY]
  generalize PW.cut r (256-r) (cJ d l) ys=X at *;generalize PW.cut r (256-r) (bU d l) zs=Y at *;refine s_keep [2,3,10,11,13,14] [3,10,11] rfl rfl ?_;refine s_locs λG=>?_;refine zM λK7 hK7=>?_;refine s_anyP [0,2,3,4,5,7,8,9,10] 11 5 (InvL (withG G [⟨11,none,31,trPs y e8⟩,⟨10,none,31,trPs x e8⟩,⟨3,none,31,trPs (.node g0 x y) d⟩])) (by kernel_rfl) rfl (inv_of withG_some) ?_;refine z7 0 (by kernel_rfl) rfl (λx hx=>hx) (λ_ h=>h) ?_;refine z7 2 (by kernel_rfl) rfl (λx hx=>hx) (λ_ h=>h) ?_;refine z7 3 (by kernel_rfl) rfl (λx hx=>hx) (λ_ h=>h) ?_;refine z7 4 (by kernel_rfl) rfl (λx hx=>hx) (λ_ h=>h) ?_;refine z7 5 (by kernel_rfl) rfl (λx hx=>hx) (λ_ h=>h) ?_;refine z7 7 (by kernel_rfl) rfl (λx hx=>hx) (λ_ h=>h) ?_;refine z7 8 (by kernel_rfl) rfl (λx hx=>hx) (λ_ h=>h) ?_;refine z7 9 (by kernel_rfl) rfl (λx hx=>hx) (λ_ h=>h) ?_;refine z7 10 (by kernel_rfl) rfl (λx hx=>hx) (λ_ h=>h) ?_;refine p_step 1 (by kernel_rfl) rfl λK8 hK8=>?_;refine z6 [(eTr (.node g0 x y) d).den] own_tRoot rfl (tRoot_S (.node g0 x y) d) (λ_ h _=>h.2.2.2.2) λ_=>zJ (hK8 _ (inv_of withG_some) ?_);refine p_step 6 (by kernel_rfl) rfl λK9 hK9=>?_;refine l_num 57 (e8:Int) rfl hw8 (l_R [KyS A c (P++(ys++zs)++Z)] rfl ?_);refine l_R ([KyS A c (P++ys++(zs++Z))]++[]) (congrArg (λq=>[KyS A c q]) (by simp:P++(ys++zs)++Z=P++ys++(zs++Z))) ?_;refine zI [(eTr x e8).den,.slice A' ys.length c',.int .u8 (e8:Int)] (λ_ _=>by go_simp) rfl hcall1 (λ_ h _=>h.2.2.2.2.2.2.1) λys'=>?_;refine zJ (hK9 _ (inv_of withG_some) ?_);refine p_tail [11,12,13,14,15] (by kernel_rfl) rfl ?_;refine l_num 62 (e8:Int) rfl hw8 (l_R [KyS A c (P++ys'.1++(zs++Z))] rfl ?_);refine l_R ([KyS A c (P++ys'.1++zs++Z)]++[]) (congrArg (λq=>[KyS A c q]) (by simp:P++ys'.1++(zs++Z)=P++ys'.1++zs++Z)) ?_;refine zI [(eTr y e8).den,.slice (cutK 32 A' c' ys.length) zs.length (c'-ys.length),.int .u8 (e8:Int)] (λ_ _=>by go_simp) rfl (hcall2 ys') (λ_ h _=>h.2.2.2.2.2.2.2.2) λzs'=>?_;refine l_op (.p (sdW X Y)) (sdW_ok _ _) rfl rfl rfl (run_sides rfl rfl rfl) (l_eq 53 (.q (eY 32 (gN X.root Y.root))) rfl (congrArg (λq=>SV.q (eY 32 q)) hroot2) (zB rfl (l_op (.v (PW.inner X Y).val) trivial rfl rfl rfl (run_mkI (q:=.p (PW.inner X Y).ps) rfl underlying212 rfl rfl) ?_)))
  refine zB rfl (zJ (hK7 _ ?_));exact zP (zR zY ⟨ys'.1++zs'.1,(ys'.2.append zs'.2).trans hpt.perm⟩ rfl (by decide) rfl (congrArg (λq:PW=>RV.v q.val) hfin) (congrArg (λq=>[KyS A c q]) (by simp:P++(ys'.1++zs'.1)++Z=P++ys'.1++zs'.1++Z)) (λ_ _ _=>trivial) zU)
def wCut_S{A:zt}{c:Nat}(l:za)(t:TA)(ks:zy)(ht:TOk 256 l t)(hs:SortT l)(hk:gX l)(hl:ks.length<=1000000)(hks:∀k∈ks,k.length=32) :
  Spec 28 [(eTr t 0).den,.slice A ks.length c] [] (λw=>TF t w/\Rd 32 (eY 32) A c ks w) (one (.q (prQ (PW.cut 256 0 l ks)))):=by
 obtain⟨W,hW⟩:∃W,PW.cut 256 0 l ks=W:=⟨_,rfl⟩;rw [hW];refine zQ [eTr t 0,.c (.v (.slice A ks.length c))] 10 func28 rfl (by rw [ntmps28];rfl) (two_ok (trPs_ok t _) trivial) λb=>?_;refine zA rfl ?_;refine s_locs λG=>?_;refine zM λK hK=>?_;refine s_anyP [0,1] 3 3 (InvL (withG G [⟨4,none,87,[.one (.v .nilIface)]⟩,⟨2,none,31,trPs t 0⟩])) (by kernel_rfl) rfl (inv_of withG_some) ?_;refine z7 0 (by kernel_rfl) rfl (λx hx=>hx) (λ_ h=>h) ?_;refine z7 1 (by kernel_rfl) rfl (λx hx=>hx) (λ_ h=>h) ?_;refine p_step 2 (by kernel_rfl) rfl λK1 hK1=>?_;refine z6 [.slice A ks.length c] (λ_ _=>by go_simp) rfl (wclone_S ks hl) (λ_ h _=>h.2) λx=>?_;obtain⟨A1,c1⟩:=x;refine zJ (hK1 _ (inv_of withG_some) ?_);refine p_tail [3,4,5] (by kernel_rfl) rfl ?_;refine l_R [KyS A1 c1 ks] rfl ?_;refine l_pureV (KeyAt A1 A1 c1 0 ks.length) (λG S w hv=>?_) λhat=>?_
 .obtain⟨S1,S2,hh,_⟩:=hv.res;have hr:=OwnS.rd hh;exact⟨hr.1,hr.2.1,hr.2.2.1,λh0=>by obtain⟨g,hg⟩:=OwnS.start hh h0;exact⟨g,hg,hg⟩⟩
 have hcut:=wcut_S (A:=A1) (c:=c1) 256 l t [] ks [] A1 c1 (aF _) ht hs hk (λ_ _ _ _ _ h=>absurd h (gH _)) hat hks;replace hcut:Spec 70 [(eTr t 0).den,.slice A1 ks.length c1,.int .u8 0] [KyS A1 c1 ([]++ks++[])] (TF t) { ret:=λ_:{ ks':zy // ks'.Perm ks }=>.v (PW.cut 256 0 l ks).val,own:=λx=>[KyS A1 c1 ([]++x.1++[])] }:=hcut;rw [hW] at hcut;refine l_R ([KyS A1 c1 ([]++ks++[])]++[]) (congrArg (λq=>[KyS A1 c1 q]) (by simp:ks=[]++ks++[])) ?_;refine zI [(eTr t 0).den,.slice A1 ks.length c1,.int .u8 0] (λ_ _=>by go_simp) rfl hcut (λ_ h _=>h.2.1) λys=>?_;refine z6 [W.val] (λ_ _=>by go_simp) rfl (wpart_S W) (λ_ _ _=>trivial) λ_=>?_;refine zB rfl (zJ (hK _ (zP (k_drop 0 rfl ?_))));exact zG () rfl (λ_ _ _=>trivial) zU
abbrev newP(l:zu):Post PX:={ ret:=λx=>.v (.slice x.1 l.length x.2),own:=λ_=>[],p:=λx=>Rd 1 eB x.1 x.2 l }
instance{l:zu}{x:PX}:Pst ((newP l).p x):=inferInstanceAs (Pst (Rd 1 eB x.1 x.2 l))
structure PartT(o:za)(ks:zy)(W:PW):Prop where
  of:PW.Of 0 o ks W
  right:W.Right []
def shares0(l:za):dY 0 l:=λ_ _ _ _ _ h=>absurd h (gH _)
def partT_cut{o:za}(hs:SortT o)(hp:∀y∈o,OkT2 y)(ks:zy):PartT o ks (PW.cut 256 0 o ks):=by have h1:PW.Of ([]:zj).length o ks (PW.cut 256 0 o ks):=PW.cut_of 256 ks rfl hs (λy hy=>(hp y hy).1) (shares0 o);exact⟨h1,h1.right λy hy=>⟨(hp y hy).1,(hp y hy).2,Leads.nil _⟩⟩
def PartT.put{o:za}{ks:zy}{W:PW}(h:PartT o ks W){p:PairT}(hp:OkT2 p)(hk:p.1∈ks)(hs:SortT o)(hkk:gX o):PartT (dQ o p) ks (PW.put p 0 W) :=
 ⟨h.of.puts hk hs hkk hp.1 (aL _) (shares0 _),(PW.Right.put hp (n:=256) (way:=[]) rfl h.right (Leads.nil _)).1⟩
def PartT.tells{o:za}{ks:zy}{W:PW}(h:PartT o ks W){k:zu}(hk:k∈ks)(hs:SortT o):PW.tell k (PW.find k 0 W)=(match nV o k with|some v=>(v,true,false)|none=>(eC,false,false)):=h.of.tells hk hs
def GrD.pair(g:GrD):PairT:=(g.id,valH (g.keys++g.more.map (·.key)))
def valH_len(ks:zy):(valH ks).length=32:=dig_len _
def itS(f:Rds->Rds)(s:Rds):Nat->Rds
  | 0=>s
  | i+1=>f (itS f s i)
section
variable{f:Rds->Rds}{s:Rds}
theorem itS_stick(hf:∀s:Rds,s.2≠0->f s=s){i:Nat}(h:(itS f s i).2≠0):∀d,itS f s (i+d)=itS f s i
 | 0=>rfl
 | d+1=>by have h1:=itS_stick hf h d;show f (itS f s (i+d))=_;rw [h1,hf _ h]
def itS_ok(hf:∀s:Rds,s.2≠0->f s=s){n i:Nat}(h:(itS f s n).2=0)(hi:i<=n):(itS f s i).2=0:=by
 by_cases h1:(itS f s i).2=0
 .exact h1
 .have h2:=itS_stick hf h1 (n-i);rw [show i+(n-i)=n by omega] at h2;rw [h2] at h;exact absurd h h1
theorem itS_yes{o:Rds->zu}(hf:∀s:Rds,s.2≠0->f s=s)(hy:∀s:Rds,(f s).2=0->s.1=o s++(f s).1){n:Nat}(h:(itS f s n).2=0):s.1=((dV n).map λi=>o (itS f s i)).flatten++(itS f s n).1:=by
 induction n with
 | zero=>rfl
 | succ n ih =>
  have h2:=ih (itS_ok hf h (qS n));have g2:=hy (itS f s n) h;rw [pI,bX,List.flatten_append];simp only [bA,iK,List.flatten_cons,List.flatten_nil,bC];rw [aT]
  show s.1=_++(o (itS f s n)++(f (itS f s n)).1)
  rw [<-g2];exact h2
def itS_stop(hf:∀s:Rds,s.2≠0->f s=s){k n:Nat}(hk:k<=n)(h:(itS f s k).2≠0\/k=n):itS f s n=itS f s k:=by
 rcases h with h|rfl
 .have h1:=itS_stick hf h (n-k)
  rwa [show k+(n-k)=n by omega] at h1
 .rfl
end
def ha_stick(s:Rds)(h:s.2≠0):haS s=s:=(tk_stick h).2
def gkN(s:Rds):Nat:=moO 65536 (haS s)
def gkS(s:Rds):Rds:=moS 65536 (haS s)
def ksI(s:Rds)(n:Nat):zy:=(dV n).map λi=>haO (itS haS s i)
def ksI_len(s:Rds)(n:Nat):(ksI s n).length=n:=by simp [ksI]
def ksI_next(s:Rds)(n:Nat):ksI s (n+1)=ksI s n++[haO (itS haS s n)]:=by unfold ksI;rw [pI,bX];rfl
def ksI_32(s:Rds)(n:Nat):∀k∈ksI s n,k.length=32:=λk hk=>by obtain⟨i,_,rfl⟩:=aZ.1 hk;exact haO_len _
def gbS(s:Rds):Rds:=itS haS (gkS s) (gkN s)
def grS(s:Rds):Rds:=byS (gbS s)
structure GbD where
  id:zu
  keys:zy
  more:zu
def grO(s:Rds):GbD:=⟨haO s,ksI (gkS s) (gkN s),byO (gbS s)⟩
def GbD.bytes(g:GbD):zu:=g.id++(be8 g.keys.length++(g.keys.flatten++(be8 g.more.length++g.more)))
def gr_yes{s:Rds}(h:(grS s).2=0):s.2=0/\s.1=(grO s).bytes++(grS s).1:=by
 obtain⟨h1,e1⟩:=by_yes h;have h2:(gkS s).2=0:=itS_ok ha_stick (i:=0) h1 (aL _);have e2:=itS_yes (o:=haO) ha_stick (λs h=>(ha_yes h).2) (s:=gkS s) (n:=gkN s) h1;obtain⟨h3,_,_,e3⟩:=mo_yes h2;obtain⟨h4,e4⟩:=ha_yes h3;refine⟨h4,?_⟩;unfold GbD.bytes grO;dsimp only;rw [ksI_len];have e5:s.1=haO s++(be8 (gkN s)++((ksI (gkS s) (gkN s)).flatten++(gbS s).1)):=by have e6:(gkS s).1=(ksI (gkS s) (gkN s)).flatten++(gbS s).1:=e2;rw [<-e6];rw [e4];congr 1
 rw [e5,e1];simp only [aT];rfl
def gb_stick{s:Rds}(h:(gkS s).2≠0):gbS s=gkS s:=by have h1:=itS_stick ha_stick (s:=gkS s) (i:=0) h (gkN s);rw [aY] at h1;exact h1
def mo_same{m:Nat}{s:Rds}(h:s.2≠0):moS m s=s/\moO m s=0:=by
 have h1:nuO s=0:=by unfold nuO;rw [(tk_stick h).1];rfl
 have h2:¬m<nuO s:=by rw [h1];exact gH _
 unfold moS moO;rw [if_neg h2,if_neg h2];exact⟨(tk_stick h).2,h1⟩
def gr_stick(s:Rds)(h:s.2≠0):grS s=s:=by
 have h1:gkS s=s:=by unfold gkS;rw [ha_stick s h];exact(mo_same h).1
 have h2:gbS s=s:=by rw [gb_stick (by rw [h1];exact h),h1]
 unfold grS byS;rw [h2,(mo_same h).1];exact(tk_stick h).2
def firstE:zj->Nat
  | []=>0
  | e::l=>if e=0 then firstE l else e
theorem firstE_zero:∀{l:zj},firstE l=0->∀e∈l,e=0
 | [],_,_,h=>by cases h
 | x::l,h,e,he=>by
  unfold firstE at h;split at h
  .rename_i hx
   rcases aH.1 he with rfl|he
   .exact hx
   .exact firstE_zero h e he
  .rename_i hx;exact absurd h hx
def apP(b:zu):zu:=byO (b,0)
def apN(b:zu):Nat:=moO 65536 (byS (b,0))
def apM(b:zu):Rds:=moS 65536 (byS (b,0))
def apR(b:zu):Rds:=itS grS (apM b) (apN b)
def apL(b:zu):List GbD:=(dV (apN b)).map λi=>grO (itS grS (apM b) i)
def prtE(b:zu):Nat:=match PW.parse b with
  | .ok _=>0
  | .error e=>e
def stpE(b:zu):Nat:=if endE (apR b)=0 then(if prtE (apP b)=0 then firstE ((apL b).map λg=>hpE g.more) else prtE (apP b)) else endE (apR b)
def stpG(b:zu):List GrD:=if stpE b=0 then(apL b).map λg=>⟨g.id,g.keys,hpU g.more⟩ else []
def stpB(part:zu)(gs:List GrD):zu:=be8 part.length++(part++(be8 gs.length++(gs.map λg=>GbD.bytes ⟨g.id,g.keys,batB g.more⟩).flatten))
def stpE_ok{b:zu}(h:stpE b=0):endE (apR b)=0/\prtE (apP b)=0/\∀g∈apL b,hpE g.more=0:=by
 unfold stpE at h;by_cases h1:endE (apR b)=0
 .rw [if_pos h1] at h
  by_cases h2:prtE (apP b)=0
  .rw [if_pos h2] at h;exact⟨h1,h2,λg hg=>firstE_zero h _ (aZ.2 ⟨g,hg,rfl⟩)⟩
  .rw [if_neg h2] at h;exact absurd h h2
 .rw [if_neg h1] at h;exact absurd h h1
def stp_back{b:zu}(h:stpE b=0):stpB (apP b) (stpG b)=b:=by
 obtain⟨h1,_,h3⟩:=stpE_ok h;obtain⟨h4,h5⟩:=end_ok h1;have e1:=itS_yes (o:=λs=>(grO s).bytes) gr_stick (λs h=>(gr_yes h).2) (s:=apM b) (n:=apN b) h4;have h6:(apM b).2=0:=itS_ok gr_stick (i:=0) h4 (aL _);obtain⟨h7,_,_,e2⟩:=mo_yes h6;obtain⟨_,e3⟩:=by_yes h7;have e4:(itS grS (apM b) (apN b)).1=[]:=h5;rw [e4,bC] at e1;have e5:((stpG b).map λg=>GbD.bytes ⟨g.id,g.keys,batB g.more⟩)=(dV (apN b)).map λi=>(grO (itS grS (apM b) i)).bytes:=by unfold stpG;rw [if_pos h,dB];unfold apL;rw [dB];refine fN λi hi=>?_;simp only [Function.comp_apply];have h8:=h3 (grO (itS grS (apM b) i)) (aZ.2 ⟨i,hi,rfl⟩);generalize grO (itS grS (apM b) i)=g at h8;obtain⟨g1,g2,g3⟩:=g;exact congrArg (λx=>GbD.bytes ⟨g1,g2,x⟩) (backH h8)
 have e6:(stpG b).length=apN b:=by unfold stpG apL;rw [if_pos h,aX,aX,List.length_range]
 unfold stpB;rw [e5,e6,<-e1];have e7:(byS (b,0)).1=be8 (apN b)++(apM b).1:=e2;rw [<-e7,<-aT];exact e3.symm
noncomputable def upsE(id:zu):zy->yx->Nat
  | _,[]=>0
  | ks,u::us=>if u.id≠id\/signB u=false then 110 else if u.ver≠(ks.length:Int)+1 then 111 else upsE id (ks++[u.key]) us
theorem upsE_ok{id:zu}:∀{us:yx} {ks:zy},(∀(i:Nat) (u:UV),us[i]?=some u->u.id=id/\signB u=true/\u.ver=(ks.length:Int)+(i:Int)+1)->upsE id ks us=0
 | [],_,_=>rfl
 | u::us,ks,h=>by obtain⟨h1,h2,h3⟩:=h 0 u rfl;unfold upsE;rw [if_neg (by rw [h2];simp [h1]),if_neg (by rw [h3];simp)];refine upsE_ok λi v hv=>?_;obtain⟨g1,g2,g3⟩:=h (i+1) v (by simpa using hv);refine⟨g1,g2,?_⟩;rw [g3,aA];show _=(((ks.length+1:Nat)):Int)+_+1;omega
def riseB:Option zu->zu->Bool
  | some x,id=>dG x id
  | none,_=>true
noncomputable def oneE(W:PW)(was:Option zu)(g:GrD):Nat :=
  if riseB was g.id=false\/g.more=[] then 81
  else if (PW.tell g.id (PW.find g.id 0 W)).2.2=true then 100
  else if (PW.tell g.id (PW.find g.id 0 W)).2.1≠decide (g.keys≠[])\/((PW.tell g.id (PW.find g.id 0 W)).2.1=true/\(PW.tell g.id (PW.find g.id 0 W)).1≠valH g.keys) then 130
  else upsE g.id g.keys g.more
noncomputable def chkE(to:zu):PW->Option zu->List GrD->Nat
  | W,_,[]=>if W.root=to then 0 else 130
  | W,was,g::gs=>if oneE W was g=0 then chkE to (PW.put g.pair 0 W) (some g.id) gs else oneE W was g
def oneE_ok{z:zc}{ids:zy}{W:PW}(hz:DirOk z)(hW:PartT (pairsD z) ids W){was:Option zu}{g:GrD}(hid:g.id∈ids)(hwas:riseB was g.id=true)(hk:bO z g.id=g.keys)(hm:g.more≠[])(hu:upsE g.id g.keys g.more=0):oneE W was g=0:=by
 have ht:=hW.tells hid (DirOk.pairs hz).1;rw [getT_pairs hz,hk] at ht;unfold oneE;rw [if_neg λh=>?_]
 .by_cases h0:g.keys=[]
  .rw [if_pos h0] at ht;rw [ht,if_neg (by simp),if_neg (by simp [h0]),hu]
  .rw [if_neg h0] at ht;rw [ht,if_neg (by simp),if_neg (by simp [h0]),hu]
 .rcases h with h|h
  .rw [hwas] at h;cases h
  .exact hm h
theorem chkE_ok{ids:zy}{to:zu}:∀{gs:List GrD} {z:zc} {W:PW} {was:Option zu},DirOk z->PartT (pairsD z) ids W ->
  (∀g∈gs,g.id.length=32/\g.id∈ids/\(∀k∈g.keys++g.more.map (·.key),k.length=32)/\bO z g.id=g.keys/\g.more≠[]/\upsE g.id g.keys g.more=0/\riseB was g.id=true) ->
  gs.Pairwise (λa b=>dG a.id b.id=true)->fS 256 (pairsD (iP z (gs.map GrD.ent)))=to->chkE to W was gs=0
 | [],z,W,was,hz,hW,_,_,hto=>by show(if W.root=to then 0 else 130)=0;rw [if_pos (hW.of.root.trans hto)]
 | g::gs,z,W,was,hz,hW,h,hs,hto=>by
  obtain⟨g1,g2,g3,g4,g5,g6,g7⟩:=h g (.head _);have hs':=List.pairwise_cons.1 hs;have hne:g.keys++g.more.map (·.key)≠[]:=λe=>g5 (o9.1 (nL.1 e).2);show(if oneE W was g=0 then _ else _)=0;rw [if_pos (oneE_ok hz hW g2 g7 g4 g5 g6)];refine chkE_ok (ids:=ids) (z:=j7 z g.id (g.keys++g.more.map (·.key))) (hz.put g1 hne g3) ?_ (λx hx=>?_) hs'.2 ?_
  .rw [pairsD_put];exact hW.put (p:=g.pair) ⟨g1,valH_len _⟩ g2 (DirOk.pairs hz).1 (DirOk.pairs hz).2
  .obtain⟨x1,x2,x3,x4,x5,x6,_⟩:=h x (.tail _ hx);have hlt:=hs'.1 x hx;refine⟨x1,x2,x3,?_,x5,x6,hlt⟩;rw [jP,if_neg (oJ hlt),x4]
  .rw [<-hto]
   have e:iP z ((g::gs).map GrD.ent)=iP (j7 z g.id (g.keys++g.more.map (·.key))) (gs.map GrD.ent):=by show iP (if g.keys++g.more.map (·.key)=[] then z else _) _=_;rw [if_neg hne]
   rw [e]
def tk_fwd{k:Nat}{x r:zu}(h:x.length=k):tkO k (x++r,0)=x/\tkS k (x++r,0)=(r,0):=by obtain⟨h1,h2⟩:=tk_take (k:=k) (s:=(x++r,0)) rfl (by show k<=(x++r).length;rw [aA];omega);rw [h1,h2];subst h;exact⟨List.take_left,by rw [List.drop_left]⟩
def nu_fwd{n:Nat}{r:zu}(h:n<18446744073709551616):nuO (be8 n++r,0)=n/\nuS (be8 n++r,0)=(r,0):=by obtain⟨h1,h2⟩:=tk_fwd (k:=8) (x:=be8 n) (r:=r) (be8_len n);unfold nuO nuS;rw [h1,h2];exact⟨val_be8 n h,rfl⟩
def mo_fwd{m n:Nat}{r:zu}(h:n<=m)(hm:m<18446744073709551616):moO m (be8 n++r,0)=n/\moS m (be8 n++r,0)=(r,0):=by
 obtain⟨h1,h2⟩:=nu_fwd (r:=r) (dC h hm);have h3:¬m<nuO (be8 n++r,0):=by rw [h1];omega
 unfold moO moS;rw [if_neg h3,if_neg h3];exact⟨h1,h2⟩
def by_fwd{x r:zu}(h:x.length<=1048576):byO (be8 x.length++(x++r),0)=x/\byS (be8 x.length++(x++r),0)=(r,0):=by obtain⟨h1,h2⟩:=mo_fwd (r:=x++r) h (by decide);unfold byO byS;rw [h1,h2];exact tk_fwd rfl
def ha_fwd{x r:zu}(h:x.length=32):haO (x++r,0)=x/\haS (x++r,0)=(r,0):=by obtain⟨h1,h2⟩:=tk_fwd (r:=r) h;refine⟨?_,h2⟩;unfold haO;rw [h1];simp [pad32,h]
def sg_fwd{x r:zu}(h:x.length=64):sgO (x++r,0)=x/\sigS (x++r,0)=(r,0):=by obtain⟨h1,h2⟩:=tk_fwd (r:=r) h;refine⟨?_,h2⟩;unfold sgO;rw [h1];exact pad_self h
theorem itS_shift(f:Rds->Rds)(s:Rds):∀n,itS f s (n+1)=itS f (f s) n
 | 0=>rfl
 | n+1=>by show f (itS f s (n+1))=f (itS f (f s) n);rw [itS_shift f s n]
theorem it_fwd{α β:Type}{f:Rds->Rds}{o:Rds->α}{e:β->zu}{v:β->α}(h:∀(x:β) (r:zu),o (e x++r,0)=v x/\f (e x++r,0)=(r,0)):∀(xs:List β) (r:zu),
  itS f ((xs.map e).flatten++r,0) xs.length=(r,0)/\((dV xs.length).map λi=>o (itS f ((xs.map e).flatten++r,0) i))=xs.map v
 | [],r=>⟨rfl,rfl⟩
 | x::xs,r=>by
  obtain⟨h1,h2⟩:=h x ((xs.map e).flatten++r);obtain⟨h3,h4⟩:=it_fwd h xs r;have e0:((x::xs).map e).flatten++r=e x++((xs.map e).flatten++r):=by simp
  rw [e0];refine⟨?_,?_⟩
  .show itS f _ (xs.length+1)=_;rw [itS_shift,h2,h3]
  .show(dV (xs.length+1)).map _=_;rw [List.range_succ_eq_map,bA,dB,bA,<-h4];refine congr (congrArg _ h1) (fN λi _=>?_);show o (itS f _ (i+1))=_;rw [itS_shift,h2]
def ks_fwd{ks:zy}(h:∀k∈ks,k.length=32)(r:zu):itS haS (ks.flatten++r,0) ks.length=(r,0)/\ksI (ks.flatten++r,0) ks.length=ks:=by
 have h1:=it_fwd (β:={ k:zu // k.length=32 }) (f:=haS) (o:=haO) (e:=λk=>k.1) (v:=λk=>k.1) (λx r=>ha_fwd x.2) (ks.attach.map λk=>⟨k.1,h k.1 k.2⟩) r;have e1:((ks.attach.map λk=>(⟨k.1,h k.1 k.2⟩:{ k:zu // k.length=32 })).map λk=>k.1)=ks:=by rw [dB];exact rW ks
 rw [e1,aX,pO] at h1;exact h1
def up_fwd{u:UV}(hu:u.Ok)(h1:0<=u.ver)(h2:u.ver<9223372036854775808)(r:zu):upO (updB u++r,0)=u/\upS (updB u++r,0)=(r,0)/\(upV (updB u++r,0):Int)=u.ver:=by
 have e0:updB u++r=u.id++(be8 (u64N u.ver)++(u.key++(u.sig++r))):=by simp [updB,bodyH]
 have hv:(u64N u.ver:Int)=u.ver:=by unfold u64N;have:IntKind.u64.wrap u.ver=u.ver:=wrapU rfl h1 (by omega);rw [this];omega
 obtain⟨a1,a2⟩:=ha_fwd (r:=be8 (u64N u.ver)++(u.key++(u.sig++r))) hu.id;obtain⟨b1,b2⟩:=nu_fwd (r:=u.key++(u.sig++r)) (u64N_lt u.ver);obtain⟨c1,c2⟩:=ha_fwd (r:=u.sig++r) hu.key;obtain⟨d1,d2⟩:=sg_fwd (r:=r) hu.sig;rw [e0];unfold upO upS upV;rw [a1,a2,b1,b2,c1,c2,d1,d2,hv];refine⟨?_,rfl,rfl⟩;have:IntKind.i64.wrap u.ver=u.ver:=wrapI rfl (by omega) (by omega);rw [this]
theorem stU_it(s:Rds):∀i,stU s i=itS upS s i
 | 0=>rfl
 | i+1=>congrArg upS (stU_it s i)
def att_map{α β:Type}(l:List α)(f:α->β):l.attach.map (λx=>f x.1)=l.map f:=by
 have e:l.map f=(l.attach.map Subtype.val).map f:=by rw [rW]
 rw [e,dB];rfl
structure UV.Fit(u:UV):Prop where
  ok:u.Ok
  pos:0<=u.ver
  le:u.ver<=64
def us_fwd{us:yx}(h:∀u∈us,u.Fit)(r:zu):stU ((us.map updB).flatten++r,0) us.length=(r,0)/\usI ((us.map updB).flatten++r,0) us.length=us/\mxI ((us.map updB).flatten++r,0) us.length<=64:=by
 have h1:=it_fwd (β:={ u:UV // u.Fit }) (f:=upS) (o:=λs=>(upO s,upV s)) (e:=λu=>updB u.1) (v:=λu=>(u.1,u.1.ver.toNat)) (λx r=>by obtain⟨g1,g2,g3⟩:=up_fwd x.2.ok x.2.pos (Int.lt_of_le_of_lt x.2.le (by decide)) r;refine⟨Prod.ext g1 ?_,g2⟩;show upV _=x.1.ver.toNat;omega) (us.attach.map λu=>⟨u.1,h u.1 u.2⟩) r;have e1:((us.attach.map λu=>(⟨u.1,h u.1 u.2⟩:{ u:UV // u.Fit })).map λu=>updB u.1)=us.map updB:=by rw [dB];exact att_map us updB
 have e2:((us.attach.map λu=>(⟨u.1,h u.1 u.2⟩:{ u:UV // u.Fit })).map λu=>(u.1,u.1.ver.toNat))=us.map λu=>(u,u.ver.toNat):=by rw [dB];exact att_map us λu=>(u,u.ver.toNat)
 rw [e1,e2,aX,pO] at h1;obtain⟨h2,h3⟩:=h1;generalize ((us.map updB).flatten++r,0)=s at h2 h3 ⊢;refine⟨by rw [stU_it,h2],?_,?_⟩
 .have h4:=congrArg (List.map Prod.fst) h3;rw [dB,dB] at h4;have e3:us.map (Prod.fst ∘ λu:UV=>(u,u.ver.toNat))=us:=List.map_id us;rw [e3] at h4;rw [<-h4];unfold usI;rw [h4];refine Eq.trans (fN λi _=>?_) h4;show upO (stU s i)=upO (itS upS s i);rw [stU_it]
 .have h5:∀i,i<us.length->upV (stU s i)<=64:=λi hi=>by
   have h6:=congrArg (λl=>l[i]?) h3;simp only [List.getElem?_map] at h6;rw [List.getElem?_range hi,aJ hi] at h6;have h7:=congrArg Prod.snd (bQ h6);have h8:upV (itS upS s i)=us[i].ver.toNat:=h7;have h9:=(h us[i] (iF hi)).le;rw [stU_it,h8];omega
  have h6:∀n,n<=us.length->mxI s n<=64:=λn=>by
   induction n with
   | zero=>exact λ_=>aL _
   | succ n ih =>
    intro hn
    have:=ih (by omega);have:=h5 n (by omega)
    show max _ _<=64
    omega
  exact h6 _ (aF _)
def hp_fwd{us:yx}(h:∀u∈us,u.Fit)(hl:us.length<=65536):hpE (batB us)=0/\hpU (batB us)=us:=by
 obtain⟨h1,h2⟩:=mo_fwd (r:=(us.map updB).flatten) hl (by decide);obtain⟨h3,h4,h5⟩:=us_fwd h [];rw [bC] at h3 h4 h5;have e1:hpN (batB us)=us.length:=h1;have e2:hpS (batB us)=((us.map updB).flatten,0):=h2;have e3:hpR (batB us)=([],0):=by unfold hpR;rw [e1,e2];exact h3
 have e4:hpE (batB us)=0:=by
  unfold hpE;rw [e3,e1,e2];have:endE (([],0):Rds)=0:=by decide
  rw [if_pos this,if_neg (by omega)]
 refine⟨e4,?_⟩;unfold hpU;rw [if_pos e4,e1,e2];exact h4
structure GrD.Fit(g:GrD):Prop where
  id:g.id.length=32
  keys:∀k∈g.keys,k.length=32
  few:g.keys.length<=65536
  more:∀u∈g.more,u.Fit
  num:g.more.length<=7000
def GrD.Fit.batch{g:GrD}(h:g.Fit):(batB g.more).length<=1048576:=by rw [batB_len λu hu=>(h.more u hu).ok];have:=h.num;omega
abbrev GrD.raw(g:GrD):GbD:=⟨g.id,g.keys,batB g.more⟩
def gr_fwd{g:GrD}(h:g.Fit)(r:zu):grO (g.raw.bytes++r,0)=g.raw/\grS (g.raw.bytes++r,0)=(r,0):=by
 have e0:g.raw.bytes++r=g.id++(be8 g.keys.length++(g.keys.flatten++(be8 (batB g.more).length++(batB g.more++r)))):=by simp [GbD.bytes]
 obtain⟨a1,a2⟩:=ha_fwd (r:=be8 g.keys.length++(g.keys.flatten++(be8 (batB g.more).length++(batB g.more++r)))) h.id;obtain⟨b1,b2⟩:=mo_fwd (r:=g.keys.flatten++(be8 (batB g.more).length++(batB g.more++r))) h.few (by decide);obtain⟨c1,c2⟩:=ks_fwd h.keys (be8 (batB g.more).length++(batB g.more++r));obtain⟨d1,d2⟩:=by_fwd (r:=r) h.batch;rw [e0];have g1:∀s,s=(g.id++(be8 g.keys.length++(g.keys.flatten++(be8 (batB g.more).length++(batB g.more++r)))),0)->gkN s=g.keys.length/\gkS s=(g.keys.flatten++(be8 (batB g.more).length++(batB g.more++r)),0):=λs hs=>by subst hs;unfold gkN gkS;rw [a2];exact⟨b1,b2⟩
 generalize (g.id++(be8 g.keys.length++(g.keys.flatten++(be8 (batB g.more).length++(batB g.more++r)))),0)=s at a1 g1;obtain⟨g2,g3⟩:=g1 s rfl;have g4:gbS s=(be8 (batB g.more).length++(batB g.more++r),0):=by unfold gbS;rw [g2,g3];exact c1
 unfold grO grS;rw [g4,g2,g3,a1,c2,d1,d2];exact⟨rfl,rfl⟩
def stp_fwd{part:zu}{gs:List GrD}(hp:part.length<=1048576)(hpe:prtE part=0)(h:∀g∈gs,g.Fit)(hl:gs.length<=65536):stpE (stpB part gs)=0/\stpG (stpB part gs)=gs/\apP (stpB part gs)=part:=by
 obtain⟨a1,a2⟩:=by_fwd (r:=be8 gs.length++(gs.map λg=>g.raw.bytes).flatten) hp;obtain⟨b1,b2⟩:=mo_fwd (r:=(gs.map λg=>g.raw.bytes).flatten) hl (by decide);have h1:=it_fwd (β:={ g:GrD // g.Fit }) (f:=grS) (o:=grO) (e:=λg=>g.1.raw.bytes) (v:=λg=>g.1.raw) (λx r=>gr_fwd x.2 r) (gs.attach.map λg=>⟨g.1,h g.1 g.2⟩) [];have e1:((gs.attach.map λg=>(⟨g.1,h g.1 g.2⟩:{ g:GrD // g.Fit })).map λg=>g.1.raw.bytes)=gs.map λg=>g.raw.bytes:=by rw [dB];exact att_map gs λg=>g.raw.bytes
 have e2:((gs.attach.map λg=>(⟨g.1,h g.1 g.2⟩:{ g:GrD // g.Fit })).map λg=>g.1.raw)=gs.map GrD.raw:=by rw [dB];exact att_map gs GrD.raw
 rw [e1,e2,aX,pO,bC] at h1;obtain⟨h2,h3⟩:=h1;have e3:apP (stpB part gs)=part:=a1;have e4:byS (stpB part gs,0)=(be8 gs.length++(gs.map λg=>g.raw.bytes).flatten,0):=a2;have e5:apN (stpB part gs)=gs.length:=by unfold apN;rw [e4];exact b1
 have e6:apM (stpB part gs)=((gs.map λg=>g.raw.bytes).flatten,0):=by unfold apM;rw [e4];exact b2
 have e7:apR (stpB part gs)=([],0):=by unfold apR;rw [e5,e6];exact h2
 have e8:apL (stpB part gs)=gs.map GrD.raw:=by unfold apL;rw [e5,e6];exact h3
 have hb:∀g∈gs,hpE (batB g.more)=0/\hpU (batB g.more)=g.more:=λg hg=>hp_fwd (h g hg).more (bM (h g hg).num (by decide));have hz:∀l:zj,(∀e∈l,e=0)->firstE l=0:=λl=>by
  induction l with
  | nil=>exact λ_=>rfl
  | cons e l ih =>
   intro hl
   unfold firstE
   rw [if_pos (hl e (.head _))];exact ih λx hx=>hl x (.tail _ hx)
 have e9:stpE (stpB part gs)=0:=by
  unfold stpE;rw [e7,e3,e8];have:endE (([],0):Rds)=0:=by decide
  rw [if_pos this,if_pos hpe];refine hz _ λe he=>?_;rw [dB] at he;obtain⟨g,hg,rfl⟩:=aZ.1 he;exact(hb g hg).1
 refine⟨e9,?_,e3⟩;unfold stpG;rw [if_pos e9,e8,dB];refine Eq.trans (fN λg hg=>?_) (List.map_id gs);show(⟨g.id,g.keys,hpU (batB g.more)⟩:GrD)=g;rw [(hb g hg).2]
end Go.Proofs.Q
