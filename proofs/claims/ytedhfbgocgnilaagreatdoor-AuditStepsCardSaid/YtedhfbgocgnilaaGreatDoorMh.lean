import Derived.Test.YtedhfbgocgnilaaGreatDoorMe
import Derived.Test.YtedhfbgocgnilaaGreatDoorMg
import Derived.Test.YtedhfbgocgnilaaGreatDoorMb
import Derived.Test.YtedhfbgocgnilaaGreatDoorMc
import Derived.Test.YtedhfbgocgnilaaGreatDoorMd
import Derived.Test.YtedhfbgocgnilaaGreatDoorRows
import Derived.Test.YtedhfbgocgnilaaGreatDoorMa
import Derived.ProofKit
import Derived.OpenShut
import Derived.SizedLaws
import Derived.Deep.Slices
import Derived.LaidMore
import Derived.SevenTiedAt
import Derived.Stop.Joined
import Derived.Test.YtedhfbgocgnilaaGreatDoorCards
import Derived.Test.YtedhfbgocgnilaaGreatDoorTie
open Option.some renaming inj->jm
open Go.Proofs.YtedhfbgocgnilaaGreatDoor
open Go renaming World->yp
set_option linter.defProp false
open Go.Proofs.Tryz
set_option maxRecDepth 100000
set_option maxHeartbeats 4000000
open Classical renaming not_not->pJ
open Go.DataW renaming trod->jX,trod_int->oU
open Go.Lib renaming compareBytes->dF
open Go.Value renaming cells->nW,bool->oE
open Go.World renaming block_lt_of_cell?->nE
open List renaming replicate->aB,range->dV,length->jQ,Perm->kR,sum_cons->lA,exists_mem_of_ne_nil->tK,getElem?_set_self->vM,append_nil->fj,eq_nil_of_length_eq_zero->lB,length_append->aV,mem_singleton->bU,getElem?_eq_getElem->da,mem_cons->bT,getElem?_eq_some_iff->eY,mem_cons_of_mem->dS,mem_of_getElem?->eg,length_take->du,append_assoc->ei,mem_map->dv,length_cons->fL,map_cons->eZ,mem_append->iA,getElem?_append_right->rz,take_append_drop->oN,length_drop->k7,nil_append->lD,getElem?_append_left->uk,getElem?_take->uq,map_set->oW,set_cons_succ->Ah,getElem?_drop->Fg,nodup_cons->AF,cons_append->AO,length_map->dL,take_of_length_le->kE,length_set->jO,map_append->jl,length_replicate->nb,take_length->kW,take_add_one->qw,flatten_cons->wE,flatten_append->Ag,drop_of_length_le->um,drop_eq_getElem_cons->z9,set_append_right->yF,getElem?_map->lC,getElem?_of_mem->Dq,map_map->qB,map_congr_left->Ab,mem_of_mem_take->HI,range_succ->LW
open List.Perm renaming swap->lM
open Nat renaming mul_le_mul_left->jI,lt_succ_iff_lt_or_eq->uV,succ_pos->vQ,zero_add->dI,le_refl->aQ,zero_le->bl,lt_of_le_of_lt->nc,add_assoc->kZ,add_zero->jP,add_sub_cancel_left->xD,le_trans->fo,sub_self->si,not_lt_zero->Ds
open UInt8 renaming ofNat->bX,toNat_ofNat'->Aj
namespace Go.Proofs.Q
open Go.RowKit Go.IntWalk Nums
structure zP where
  who:Int
  ver:Int
  key:Int
  wr:Bool
  cut:Bool
def zP.parts(a:zP):cJ:=[.one (.v (.int .i64 a.who)),.one (.v (.int .i64 a.ver)),.one (.v (.int .i64 a.key)),.one (.b a.wr),.one (.b a.cut)]
abbrev Aa(a:zP):aL:=.p a.parts
structure oI where
  A:aO
  c:Nat
  B:aO
  d:Nat
  l:cS
def xz(p:oI):aL:=.c (.v (.slice p.A p.l.length p.c))
def CY(p:oI):aL:=.c (.v (.slice p.B p.l.length p.d))
def JJ(p:oI):ch (xz p).fA/\(xz p).cp.length=1:=⟨λx hx=>by rw [bU.1 hx];exact⟨trivial,rfl,rfl⟩,rfl⟩
def Se(p:oI):ch (CY p).fA/\(CY p).cp.length=1:=⟨λx hx=>by rw [bU.1 hx];exact⟨trivial,rfl,rfl⟩,rfl⟩
def oI.rd(p:oI)(w:yp):Prop:=ar 129 dT p.A p.c p.l w/\ar 1 ps p.B p.d (p.l.map eV) w
instance aHT{p:oI}:dc p.rd:=⟨λ_ _ h hb=>⟨h.1.later hb,h.2.later hb⟩⟩
def Bn(u:UV):Prop:=u.aI/\∃w:Nat,w<4/\u.id=o8 (vo (bX w) 77)
abbrev mr(ai:List oI):cS:=(ai.map (·.l)).flatten
def Jr(ai:List oI)(p:oI):mr (ai++[p])=mr ai++p.l:=by simp [mr]
abbrev Ef:nK Int Int:={ t:=70,kt:=3,vt:=3,kv:=Ep,vv:=Ep }
abbrev Ir(n:Int):Prop:=(Lit.int .i64 n).wf=true
def RD:Ef.aI Ir:=auL underlying70 LY rfl
theorem aHN:∀w,(zeroValue Ef.vt).run prog w = .ok (Ef.V 0) w:=λw=>by
 have hi:(prog.info? 3).bind (·.zero)=some (.int .i64 0):=by kernel_rfl
 unfold zeroValue typeInfo;cases h:prog.info? 3 with
 | none=>rw [h] at hi;cases hi
 | some i =>
  rw [h] at hi;have hi:i.zero=some (.int .i64 0):=hi
  simp [h,hi]
  rfl
theorem VK{N:Nat}{E:aG}{L:aH}{R:bF}{F M:aE}{o:Oper}{x y:Operand}{m n:Nat}{f:Int->Option Int}(hA:∀G S w,View G S L R F M w->yz Ef Ir m n f w)(k:Int)(hk:Ir k)(ho:o.op = .lookup Ef.t x y false)(hx:aP E x=some (.v (.map (some m))))(hy:aP E y=some (.q (Ep k))) :
  ∀(G:aK) (S:cn) (a:Act) (w:yp),Fr N (bG G E) a->View G S L R F M w->(execOp a.eval o).run prog w = .ok (.value ((aq.q (Ep ((f k).getD 0))).den G)) w:=by
 cases hs:f k with
 | none=>exact af9 RD hA k 0 hk hs aHN ho hx hy
 | some s=>exact af7 RD hA k s hk hs ho hx hy
def aGS(a:UInt8):∃y:UInt8,bits .xor .u8 (a.toNat:Int) 2=(y.toNat:Int):=by
 have key:∀m:Nat,m<256->0<=bits .xor .u8 (m:Int) 2/\bits .xor .u8 (m:Int) 2<256:=by decide +kernel
 exact⟨bX (bits .xor .u8 (a.toNat:Int) 2).toNat,by have:=key a.toNat a.toNat_lt;rw [Aj];omega⟩
def aE1{u:UV}(hu:u.aI){j:Nat}{s:UInt8}(hs:u.sig[j]?=some s):(a7 u.parts)[65+j]?=some (.int .u8 (s.toNat:Int)):=by rw [<-Array.getElem?_toList,Q6,rz (by rw [dH,hu.id];omega),dH,hu.id,show 65+j-32=32+j+1 by omega,List.getElem?_cons_succ,rz (by rw [dH,hu.key];omega),dH,hu.key,xD];show(u.sig.map λx=>Value.int .u8 (x.toNat:Int))[j]?=_;rw [lC,hs];rfl
def aE3{u:UV}(hu:u.aI)(j:Nat)(y:UInt8):(a7 ({ u with sig:=u.sig.set j y }:UV).parts).toList=(a7 u.parts).toList.set (65+j) (.int .u8 (y.toNat:Int)):=by rw [Q6,Q6,yF _ _ (by rw [dH,hu.id];omega),dH,hu.id,show 65+j-32=32+j+1 by omega,Ah,yF _ _ (by rw [dH,hu.key];omega),dH,hu.key,xD];show _++_::(_++(u.sig.set j y).map _)=_++_::(_++(u.sig.map _).set j _);rw [oW]
structure Ea where
  i:Nat
  ai:List oI
  X:ly
  Y:ly
  l:cS
  U:ly
  V:ly
  n:Nat
  f:Int->Option Int
structure BtI(k:Nat)(s:Ea):Prop where
  i:s.i<=k
  i12:s.i<=12
  mS:(mr s.ai).length+s.l.length<=s.i
  num:s.ai.length<=s.i
  dn:∀u∈mr s.ai,Bn u
  goodl:∀u∈s.l,Bn u
structure zR where
  ai:List oI
  X:ly
  Y:ly
structure zR.aI(x:zR):Prop where
  mS:(mr x.ai).length<=12
  num:x.ai.length<=13
  dn:∀u∈mr x.ai,Bn u
  pos:0<x.ai.length
def zR.F(x:zR)(w:yp):Prop:=ar 1 xz x.X.1 x.X.2 x.ai w/\ar 1 CY x.Y.1 x.Y.2 x.ai w/\∀p∈x.ai,p.rd w
def alA{A:aO}{c:Nat}(acts:List zP):Spec 6 [.slice A acts.length c] [] (λw=>eI w/\ar 5 Aa A c acts w) { ret:=λx:{ x:zR // x.aI }=>.t [.c (.v (.slice x.1.X.1 x.1.ai.length x.1.X.2)),.c (.v (.slice x.1.Y.1 x.1.ai.length x.1.Y.2))],p:=λx=>x.1.F }:=by
 refine bA [.c (.v (.slice A acts.length c))] 99 func6 rfl λb=>?_;refine lQ (acts.length<=9223372036854775807) (λw h _=>fo h.2.1 h.2.2.1) λEU=>?_;refine ag rfl (ag rfl (ag rfl (ag rfl (ag rfl (aA rfl λK0 jf=>Ut Ef Ir rfl rfl rfl rfl λm=>aj rfl (ah (jf _ (ao λK hK=>ag rfl (a8 (pF 0 43 1 CY (pF 0 41 1 xz (pF 0 4 1 ps (pF 0 68 129 dT ?_)))))))))))));let Es:Ea->aG:=λs=>[(18,.aT s.i),(17,.aT acts.length),(16,.v (.slice A acts.length c)),(4,.v (.slice s.X.1 s.ai.length s.X.2)),(5,.v (.slice s.Y.1 s.ai.length s.Y.2)),(6,.v (.slice s.U.1 s.l.length s.U.2)),(7,.v (.slice s.V.1 s.l.length s.V.2)),(8,.v (.map (some m)))];let Rs:Ea->bF:=λs=>[bL 0 68 129 dT s.U.1 s.U.2 s.l,bL 0 4 1 ps s.V.1 s.V.2 (s.l.map eV),bL 0 41 1 xz s.X.1 s.X.2 s.ai,bL 0 43 1 CY s.Y.1 s.Y.2 s.ai,iZ Ef Ir m s.n s.f];let Ff:Ea->aE:=λs w=>(eI w/\ar 5 Aa A c acts w)/\∀p∈s.ai,p.rd w;let Fs:Ea->Env:=λs=>⟨Es s,[],Rs s,Ff s,λ_=>True⟩;refine cI (e':=Fs ⟨0,[],(none,0),(none,0),[],(none,0),(none,0),0,λ_=>none⟩) ⟨dB rfl, trivial, .refl _,λ_ h _=>⟨h,(λ_ h=>(by cases h))⟩, au⟩ (cY (λs=>acts.length-s.i) Fs (BtI acts.length) ?_ ⟨0,[],(none,0),(none,0),[],(none,0),(none,0),0,λ_=>none⟩ ⟨bl _,bl _,aQ _,aQ _,(λ_ h=>(by cases h)),(λ_ h=>(by cases h))⟩);rintro s ⟨hi,aqB,aaA,aIF,uz,ZO⟩;have n7:∀e',gj e' (Fs s)->cl b K 99 e':=by
  intro e' hw;refine ft hw (hK _ (aA rfl λK1 aS=>lq an 2 (⟨s.U.1,s.U.2,s.V.1,s.V.2,s.l⟩:oI) rfl rfl rfl rfl rfl rfl rfl (JJ _) (by show(s.ai.length+1)*24<=_;omega) (by omega) (bl _) λX1 x1=>aj rfl (lq an 3 (⟨s.U.1,s.U.2,s.V.1,s.V.2,s.l⟩:oI) rfl rfl rfl rfl rfl rfl rfl (Se _) (by show(s.ai.length+1)*24<=_;omega) (by omega) (bl _) λY1 y1=>aj rfl (iU 0 rfl (iU 0 rfl (iU 0 rfl (iU 0 rfl (ah (aS _ (aJ (lN 0 rfl ?_)))))))))));refine bE ⟨⟨s.ai++[(⟨s.U.1,s.U.2,s.V.1,s.V.2,s.l⟩:oI)],(X1,x1),(Y1,y1)⟩,?_⟩ rfl (λw h _=>⟨h.2.1,h.1,λp hp=>?_⟩) au
  .refine⟨?_,?_,λu hu=>?_,by show 0<(s.ai++[_]).length;rw [aV];exact vQ _⟩
   .show(mr (s.ai++[_])).length<=12;rw [Jr,aV];exact fo aaA aqB
   .show(s.ai++[_]).length<=13;rw [aV];show s.ai.length+1<=13;omega
   .have hu:u∈mr (s.ai++[_]):=hu
    rw [Jr] at hu;rcases iA.1 hu with hu|hu
    .exact uz u hu
    .exact ZO u hu
  .have hp:p∈s.ai++[_]:=hp
   rcases iA.1 hp with hp|hp
   .exact h.2.2.2.2.2 p hp
   .rw [bU.1 hp];exact⟨h.2.2.2.1,h.2.2.1⟩
 refine ag rfl (ao λK5 bN=>?_);refine bn ((s.i:Int)<(acts.length:Int)) rfl (λal=>?_) (λcW=>?_)
 .have al:s.i<acts.length:=by omega
  obtain⟨a,ha⟩:∃a,acts[s.i]?=some a:=⟨_,da al⟩;refine aR (bN _ (ao λK6 cr=>a8 (aA rfl λK7 df=>jh an rfl rfl rfl s.i rfl ha rfl rfl (dX λ_ h _=>h.1.2) (aj rfl (ah (df _ (ao λK8 gw=>ag rfl ?_)))))));refine bn ((s.i:Int)>=12) rfl (λh12=>?_) (λh12=>?_)
  .exact cG (a6 (Ul rfl (a6 (a6 (cF (n7 _ (hv rfl rfl rfl)))))))
  refine aR (gw _ ?_);obtain⟨w4,Ch,_,hww⟩:=aG0 a.who 4 (by decide) (by decide);have HA:Ir (w4:Int):=by show(Lit.int .i64 (w4:Int)).wf=true;simp [Lit.wf,IntKind.min,IntKind.max,IntKind.signed,IntKind.bits];omega
  refine aA rfl λK9 l5=>ca 11 (w4:Int) rfl (by rw [show(IntKind.u64.wrap a.who).tmod 4=(IntKind.u64.wrap a.who).tmod ((4:Nat):Int) from rfl,hww]) (ah (l5 _ ?_));have hF:∀t:Ea,t.i=s.i->(mr t.ai).length+t.l.length<=s.i+1->t.ai.length<=s.i+1->(∀u∈mr t.ai,Bn u)->(∀u∈t.l,Bn u)->∀e',gj e' (Fs t)->cl b K6 99 e':=by intro t ht h1 h2 h3 h4 e' hw;refine ft hw (cr _ (cE rfl ?_));exact cH ({ t with i:=s.i+1 }:Ea) ⟨al,(by show s.i+1<=12;omega),h1,h2,h3,h4⟩ (by show acts.length-(s.i+1)<acts.length-s.i;omega) ⟨⟨by rw [ht];exact congrArg (λz=>some (aq.v (.int .i64 z))) (jv (m:=(s.i:Int)+1) (r:=((s.i+1:Nat):Int)) (by omega) (by omega) (by omega)),rfl,rfl,rfl,rfl,rfl,rfl,rfl,trivial⟩,trivial,.refl _,λ_ h _=>h,λ_ h=>h⟩
  refine ag rfl (ao λK10 nV=>?_);have hV:∀v:Int,∀e',gj e' ⟨(12,.v (.int .i64 v))::(11,.aT w4)::(10,.a 10 0)::(9,.aT s.i)::Es s,[⟨10,none,72,a.parts⟩],Rs s,Ff s,λ_=>True⟩->cl b K10 99 e':=by
   intro v e' hw;refine ft hw (nV _ ?_);obtain⟨kb,hkb⟩:∃kb:UInt8,IntKind.u8.wrap a.key=(kb.toNat:Int):=RY (by show 0<=a.key%256/\a.key%256<256;omega);obtain⟨ib,hib⟩:∃ib:UInt8,IntKind.u8.wrap (s.i:Int)=(ib.toNat:Int):=RY (by show 0<=(s.i:Int)%256/\(s.i:Int)%256<256;omega);have OB:IntKind.u8.wrap (w4:Int)=((bX w4).toNat:Int):=by rw [Aj];show(w4:Int)%256=_;omega
   have hm:=Z7 (seed:=vo (bX w4) 77) (key:=vo kb ib) v rfl rfl;have sv:Bn (uO (vo (bX w4) 77) v (vo kb ib)):=⟨abY _ _ rfl,w4,Ch,rfl⟩;generalize uO (vo (bX w4) 77) v (vo kb ib)=u at *;refine aA rfl λK11 p8=>ca 39 ((bX w4).toNat:Int) rfl OB (Lc [(0,.v (.int .u8 ((bX w4).toNat:Int))),(1,.v (.int .u8 77))] 32 (vo (bX w4) 77) rfl rfl rfl rfl rfl (aj rfl (ca 44 (kb.toNat:Int) rfl hkb (ca 46 (ib.toNat:Int) rfl hib (Lc [(0,.v (.int .u8 (kb.toNat:Int))),(1,.v (.int .u8 (ib.toNat:Int)))] 32 (vo kb ib) rfl rfl rfl rfl rfl (bY [.agg (By (vo (bX w4) 77)).toArray,.int .i64 v,.agg (By (vo kb ib)).toArray] rfl hm (λ_ h _=>h.1.1) λ_=>aj rfl (ah (p8 _ (ao λK12 sl=>?_)))))))));have hW:∀u:UV,Bn u->∀e',gj e' ⟨(13,.a 13 0)::(12,.v (.int .i64 v))::(11,.aT w4)::(10,.a 10 0)::Es s,[⟨13,none,68,u.parts⟩,⟨10,none,72,a.parts⟩],Rs s,Ff s,λ_=>True⟩->cl b K12 99 e':=by
    intro u sv e' hw;refine ft hw (sl _ (aA rfl λK13 wJ=>bY [(dT u).den] rfl (TJ sv.1) (λ_ h _=>h.1.1) λ_=>aj rfl (ah (wJ _ (ao λK14 xJ=>?_)))));have hX:∀n f,∀e',gj e' ⟨(14,.b (eV u))::(13,.a 13 0)::(10,.a 10 0)::Es s,[⟨13,none,68,u.parts⟩,⟨10,none,72,a.parts⟩],Rs { s with n:=n,f:=f },Ff s,λ_=>True⟩->cl b K14 99 e':=by
     intro n f e' hw;refine ft hw (xJ _ ?_);have e1:s.l.map eV++[eV u]=(s.l++[u]).map eV:=by rw [jl];rfl
     refine aA rfl λK15 yR=>lq an 0 u (fe:=dT) rfl rfl rfl rfl rfl rfl rfl (GM sv.1) (by show(s.l.length+1)*136<=_;omega) (by show s.l.length<_;omega) (bl _) λU1 u1=>aj rfl (lq an 1 (eV u) (fe:=ps) rfl rfl rfl rfl rfl rfl (dL ..).symm (anF _) (by rw [dL];show(s.l.length+1)*1<=_;omega) (by rw [dL];show s.l.length<_;omega) (bl _) λV1 v1=>?_);rw [e1,dL];refine aj rfl (ah (yR _ (ag rfl ?_)));have mC:∀u2∈s.l++[u],Bn u2:=λu2 h2=>by
      rcases iA.1 h2 with h2|h2
      .exact ZO u2 h2
      .rw [bU.1 h2];exact sv
     have Ap:(s.l++[u]).length=s.l.length+1:=aV;refine pD a.cut rfl (λ_=>?_) (λ_=>?_)
     .refine aA rfl λK16 GX=>?_
      refine lq an 2 (⟨U1,u1,V1,v1,s.l++[u]⟩:oI) rfl rfl rfl rfl rfl rfl rfl (JJ _) (by show(s.ai.length+1)*24<=_;omega) (by show s.ai.length<_;omega) (bl _) λX1 x1=>aj rfl (lq an 3 (⟨U1,u1,V1,v1,s.l++[u]⟩:oI) rfl rfl rfl rfl rfl rfl rfl (Se _) (by show(s.ai.length+1)*24<=_;omega) (by show s.ai.length<_;omega) (bl _) λY1 y1=>aj rfl (iU 0 rfl (iU 0 rfl (ah (GX _ (pF 0 4 1 ps (pF 0 68 129 dT (cE rfl ?_))))))));refine hF ⟨s.i,s.ai++[⟨U1,u1,V1,v1,s.l++[u]⟩],(X1,x1),(Y1,y1),[],(none,0),(none,0),n,f⟩ rfl ?_ ?_ ?_ (λ_ h=>by cases h) _ ⟨dB rfl, trivial, .refl _,λw h _=>⟨h.2.2.1,λp hp=>?_⟩,λ_ h=>h⟩
      .show(mr (s.ai++[_])).length+0<=_;rw [Jr,aV,Ap];omega
      .show(s.ai++[_]).length<=_;rw [aV];show s.ai.length+1<=_;omega
      .intro u2 h2
       have h2:u2∈mr (s.ai++[_]):=h2;rw [Jr] at h2;rcases iA.1 h2 with h2|h2
       .exact uz u2 h2
       .exact mC u2 h2
      .have hp:p∈s.ai++[_]:=hp
       rcases iA.1 hp with hp|hp
       .exact h.2.2.2 p hp
       .rw [bU.1 hp];exact⟨h.2.1,h.1⟩
     .exact aR (hF ⟨s.i,s.ai,s.X,s.Y,s.l++[u],(U1,u1),(V1,v1),n,f⟩ rfl (by show(mr s.ai).length+(s.l++[u]).length<=_;rw [Ap];omega) (by show s.ai.length<=_;omega) uz mC _ (hv rfl rfl rfl))
    cases qV:eV u with
    | false =>
     refine aA rfl λK15 yR=>pd 60 false rfl rfl (aj rfl (aaV 14 (.b (eV u)) rfl (λ_=>by rw [qV];rfl) trivial (ah (yR _ (dY rfl ?_)))));exact aR (hX s.n s.f _ (fC rfl rfl rfl λ_ h _=>h.2))
    | true =>
     refine aA rfl λK15 yR=>pd 60 true rfl rfl (aj rfl (jq (.q (Ep ((s.f (w4:Int)).getD 0))) rfl (VK (FH 4 rfl) (w4:Int) HA rfl rfl rfl) (aj rfl (aaV 14 (.b (eV u)) rfl (λ_=>by rw [qV];rfl) trivial (ah (yR _ ?_))))));refine bn (v=IntKind.i64.wrap ((s.f (w4:Int)).getD 0+1)) rfl (λ_=>?_) (λ_=>?_)
     .refine ef ?_;refine aj rfl (jq (.q (Ep ((s.f (w4:Int)).getD 0))) rfl (VK (FH 4 rfl) (w4:Int) HA rfl rfl rfl) (aj rfl (Lg RD 4 rfl (w4:Int) (IntKind.i64.wrap ((s.f (w4:Int)).getD 0+1)) HA rfl rfl rfl rfl rfl rfl ?_)));exact ah (hX (if (s.f (w4:Int)).isSome then s.n else s.n+1) (nt s.f (w4:Int) (IntKind.i64.wrap ((s.f (w4:Int)).getD 0+1))) _ (fC rfl rfl rfl λ_ h _=>h.2))
     .exact aR (hX s.n s.f _ (fC rfl rfl rfl λ_ h _=>h.2))
   refine ag rfl ?_;refine pD a.wr rfl (λ_=>?_) (λ_=>?_)
   .obtain⟨dw,qV⟩:∃dw,u.sig[1]?=some dw:=⟨_,da (by rw [sv.1.sig];decide)⟩;obtain⟨y,hy⟩:=aGS dw;have Dh:({ u with sig:=u.sig.set 1 y }:UV).aI:=⟨sv.1.id,sv.1.key,by show(u.sig.set 1 y).length=64;rw [jO];exact sv.1.sig⟩;refine ef (aj rfl (b6 (.a 13 (65+1*1)) rfl (eO 1 rfl AZ rfl rfl rfl (by decide)) (jq (.v (.int .u8 (dw.toNat:Int))) rfl (jV _ rfl rfl rfl (aE1 sv.1 qV) nu rfl) (b6 (.v (.int .u8 (bits .xor .u8 (dw.toNat:Int) 2))) rfl (afQ rfl rfl rfl) (ca 54 (y.toNat:Int) rfl hy (aj rfl (b6 (.a 13 (65+1*1)) rfl (eO 1 rfl AZ rfl rfl rfl (by decide)) (tC ({ u with sig:=u.sig.set 1 y }:UV).parts rfl rfl rfl rfl rfl rfl rfl rfl rfl (by rw [ch.size sv.1.ig];show _<129;decide) Dh.ig (aE3 sv.1 1 y) ?_))))))));exact ah (hW { u with sig:=u.sig.set 1 y } ⟨Dh,sv.2⟩ _ (fC rfl rfl rfl λ_ h _=>h.2))
   .exact aR (hW u sv _ (fC rfl rfl rfl λ_ h _=>h.2))
  refine ag rfl ?_;refine bn (a.ver=0) rfl (λ_=>?_) (λ_=>?_)
  .refine ef ?_;refine aj rfl (jq (.q (Ep ((s.f (w4:Int)).getD 0))) rfl (VK (FH 4 rfl) (w4:Int) HA rfl rfl rfl) (aj rfl ?_));exact ah (hV _ _ (hv rfl rfl rfl))
  .exact aR (hV _ _ (hv rfl rfl rfl))
 .exact cG (a6 (a6 (cF (n7 _ (hv rfl rfl rfl)))))
section
variable{b:bO}{ops:aZ}{Q:bK}{N fuel:Nat}{p:Nat->Bool}{Fin:et->fg}{listed:et}{E:aG}{L:aH}{R:bF}{F M:aE}{Inv:aE}{o:Oper}{k:Nat}
def LP(v:aq)(i:Nat)(ho:ops[i]?=some o)(hq:di o k N)(hs:pM o.op=true)
 (ab:∀(G:aK) (S:cn) (a:Act) (w:yp),Fr N (bG G E) a->View G S [] [] Inv (λ_=>True) w->(execOp a.eval o).run prog w = .ok (.value (v.den G)) w)
 (hn:mf prog b Q N ops Inv p Fin fuel (listed.setIfInBounds i true) ⟨(k,v)::E,L,R,F,M⟩)(hc:vm ops p i listed=true:=by kernel_rfl)(wQ:v.aI:=by exact trivial):mf prog b Q N ops Inv p Fin (fuel+1) listed ⟨E,L,R,F,M⟩ :=
 adA v wQ i hc ho hq hs (λG a w hF hI=>ab G (λ_=>False) a w hF ⟨(λ_ h=>(by cases h)),λ_ h=>h,hI,trivial⟩) hn
end
def RH{ai:List oI}{j:Nat}{p:oI}(h:ai[j]?=some p):mr (ai.take (j+1))=mr (ai.take j)++p.l:=by rw [qw,h];exact Jr _ _
def Xy(ai:List oI)(j:Nat):(mr (ai.take j)).length<=(mr ai).length:=by
 have h:mr ai=mr (ai.take j)++mr (ai.drop j):=by unfold mr;rw [<-Ag,<-jl,oN]
 rw [h,aV];omega
def zR.aI.batch{x:zR}(h:x.aI){j:Nat}{p:oI}(hp:x.ai[j]?=some p):(∀u∈p.l,Bn u)/\(mr (x.ai.take j)).length+p.l.length<=12:=by have h1:=Xy x.ai (j+1);rw [RH hp,aV] at h1;refine⟨λu hu=>h.dn u ?_,fo h1 h.mS⟩;exact List.mem_flatten.2 ⟨p.l,dv.2 ⟨p,eg hp,rfl⟩,hu⟩
abbrev Xi:=fU×fR
def DzF(z:Xi)(w:yp):Prop:=z.1.F w/\z.2.F w
instance aHX{z:Xi}:dc (DzF z):=⟨λ_ _ h hb=>⟨dc.later (p:=z.1.F) _ _ h.1 hb,dc.later (p:=z.2.F) _ _ h.2 hb⟩⟩
instance aHU{x:zR}:dc x.F:=⟨λ_ _ h hb=>⟨h.1.later hb,h.2.1.later hb,λp hp=>dc.later (p:=p.rd) _ _ (h.2.2 p hp) hb⟩⟩
def aD5{α:Type}{k:Nat}{fe:α->aL}{z:pP}{l:List α}{w:yp}(h:∃y:pP,(cM.v (.slice z.1 l.length z.2)).den=(cM.v (.slice y.1 l.length y.2)).den/\ar k fe y.1 y.2 l w):ar k fe z.1 z.2 l w:=by obtain⟨y,h1,h2⟩:=h;have h1:Value.slice z.1 l.length z.2 = .slice y.1 l.length y.2:=h1;injection h1 with e1 _ e2;rw [e1,e2];exact h2
abbrev UN(l:ae):fm pP:={ ret:=λx=>.v (.slice x.1 l.length x.2),p:=λx=>ar 1 aY x.1 x.2 l }
def Spec.aD4{f:FuncId}{args:cU}{F:aE}{l:ae}(h:Spec f args [] F (LB l)):Spec f args [] F (UN l):=λw S X hs hX hF=>by
 refine(h w S X hs hX hF).mono ?_;rintro e w' ⟨x,S',h1,h2,h3,h4,h5,h6,h7⟩;refine⟨x,S',h1,h2,h3,h4,h5,h7.less λk _ hk=>?_, au⟩;rcases hk with hk|hk
 .exact .inl (hX k hk).1
 .exact .inr hk
section
variable{a:Act}{G:aK}{P:Program}{ro:j5}{n:Nat}{Q:bK}{ops:aZ}{K:fg}{l':aN}{b:bO}{N:Nat}{e:Env}{E:aG}{L:aH}{R R':bF}{F M:aE}{l:aN}{id:Nat}
theorem UA[s7 Q](hK:∀a w,K a w->wpListIn (yw ro) n P ops Q l' a w):∀{p:aN} {a:Act} {w:yp},zt p=true->wpList P ops (Exit.then K Q) p a w->wpListIn (yw ro) n P ops Q (p++l') a w
 | [],a,w,_,h=>hK a w h
 | o::p,a,w,hd,h=>by
  have hd':zt p=true:=by unfold zt at hd ⊢;rw [List.all_cons,Bool.and_eq_true] at hd;exact hd.2
  unfold wpList at h;show wpListIn (yw ro) n P ops Q (o::(p++l')) a w;unfold wpListIn;split
  .rename_i hw;rw [if_pos hw] at h;have h:o.wp P a w (λa' w'=>wpList P ops (Exit.then K Q) p a' w') Q\/(o.asks P a w/\LetsOut Q):=h;exact acU (acC hd List.mem_cons_self) (h.imp (Oper.wp_mono λa' w' h'=>UA hK hd' h') id)
  .rename_i hw;rw [if_neg hw] at h;exact⟨λ_ _=>trivial,UA hK hd' h⟩
def ayF[s7 Q](m:Nat)(l':aN)(hl:l.drop m=l')(hd:zt (l.take m)=true)(h:∀K:fg,(∀e',D2 ro n b l.toArray Q N l' e'->cl b K N e')->a9 prog b l.toArray (Exit.then K Q) N (l.take m) e):DX ro n b (.region id l.toArray false) Q N e:=λa w hs=>by
 refine wpIn_region_lit ?_;have h1:=h (λa w=>wpListIn (yw ro) n prog l.toArray Q l' a w) (λ_ h' a w hs'=>h' a w hs') a w hs;have h2:=UA (ro:=ro) (n:=n) (l':=l') (λ_ _ h=>h) hd h1
 rwa [<-hl,oN] at h2
def asA{σ:Type}{p:σ->Prop}{r:σ->fS}(s:σ)(hs:p s)(h:cl b K N ⟨E,L,I9 p r::R,F,M⟩):cl b K N ⟨E,L,r s::R,F,M⟩:=λa w ⟨G,S,h1,h2,h3⟩=>by obtain⟨S1,S2,a1,a2,a3⟩:=h3.res;exact h a w ⟨G,S,h1,h2,{ h3 with res:=⟨S1,S2,⟨s,hs,a1⟩,a2,a3⟩ }⟩
end
abbrev xk:=ae×cD
def Rv(f:ae->Option cD)(t:List xk)(y:cD)(t':List xk):Prop:=∃q,f q=some y/\(∀d∈t,d.1≠q)/\t'=t++[(q,y)]
structure Gq(f:ae->Option cD)(t:List xk):Prop where
  tB:∀d∈t,f d.1=some d.2
  nd:(t.map (·.1)).Nodup
  all:∀k v,f k=some v->(k,v)∈t
def aEJ(m:Nat):Spec 57 [.map (some m)] [] (λ_=>True) { ret:=λg:Nat=>.v (.func (.func 100) #[] #[eE g]),own:=λ_=>[],p:=λg=>ij g nL.t [.one (.v (.map (some m)))] }:=by refine bA [.c (.v (.map (some m)))] 4 func57 rfl λb=>?_;refine aA rfl λK hK=>OU 1 (E':=[]) rfl trivial λg=>OX 0 rfl (aj rfl (ah (hK _ (aA rfl λK2 aM=>b6 (.v (.func (.func 100) #[] #[eE g])) rfl (VR rfl rfl (λ_=>rfl)) (aj rfl (ah (aM _ ?_)))))));exact aJ (bE g rfl (λ_ h _=>h.1) au)
theorem aEI(l gb:Nat)(Fy:aE)(JR:List xk->fS)(JX:fS){m clock k:Nat}{es:Array MapEntry}{f:ae->Option cD}(hH:mo nL iF es clock k f)(hy:∀t y t',Rv f t y t'->M3 l [(fN y).den] Fy (Jm ([]++[JR t])) (JR t') JX) :
  Spec 100 [.func (.yield l) #[] #[],eE gb] [JR []] (λw=>(ij gb nL.t [.one (.v (.map (some m)))] w/\vb m es clock w)/\Fy w) (Ys (I9 (Gq f) JR) JX):=by
 refine bA [.c (.v (.func (.yield l) #[] #[])),.c (.v (eE gb))] 15 func100 rfl λb=>aA rfl λK hK=>gE rfl (kP λ_ h _=>h.1.1) (Uw rfl rfl rfl rfl underlying126 rfl (es:=es) (clock:=clock) (λ_ _ _ h=>h.fact.1.2) λr=>ah (hK _ (a8 ?_)))
 let Fs:Array Nat×List xk->Env:=λx=>⟨[(6,.v (eE r)),(0,.v (.func (.yield l) #[] #[]))],[],[ue (some m) r clock x.1,JR x.2],λw=>vb m es clock w/\Fy w,λ_=>True⟩
 refine cI (e':=Fs (#[],[])) ⟨dB rfl, trivial, .refl _,λ_ h _=>⟨h.1.2,h.2⟩, au⟩ (cY (λx=>(leftOf es x.1).size) Fs (λx=>ud nL iF es f x.1 x.2) ?_ (#[],[]) ud.nil)
 rintro⟨seen,done⟩ hD
 dsimp only at hD
 refine aA rfl λK2 aM=>?_;refine Uu hH hD (λ_ h=>GN h) Yj 0 rfl rfl rfl rfl rfl rfl (λ_ _ _ h=>h.fact.1) (λh0=>?_) λq v seen' hq ab b8 al hl hD'=>?_
 .refine aj rfl ?_;refine ah (aM _ (ao λK3 bu=>dY rfl (cG (a6 (a6 (cF (lN 0 rfl (asA (p:=Gq f) done ⟨λd hd=>(hD.tB d hd).2,hD.nodup,λk v h=>hD.all M0 hH h0 h⟩ ?_))))))));exact bE true rfl aD au
 refine aj rfl (ah (aM _ (ao λK3 bu=>ir rfl (aR (bu _ (a8 (aA rfl λK4 bW=>jq (.t [aw 32 q,fN v]) (ab:=dZ (GN hq) (Yj v)) rfl (VL hH 0 rfl hl (λ_ _ _ h=>h.fact.1) rfl rfl) (aj rfl (ah (bW _ (ao λK5 bN=>aAU (ayF 2 _ rfl rfl λK6 cr=>aj rfl (ah (cr _ ?_))))))))))))));have hyv:=hy done v (done++[(q,v)]) ⟨q,ab,b8,rfl⟩;refine aCV (e':=⟨[(11,.v (.func (.yield l) #[] #[])),(12,.q (fN v)),(6,.v (eE r)),(0,.v (.func (.yield l) #[] #[]))],[],[JR done,ue (some m) r clock seen'],λw=>vb m es clock w/\Fy w,λ_=>True⟩) ⟨⟨rfl,rfl,rfl,rfl,trivial⟩,trivial,lM _ _ _,λ_ h _=>h, au⟩ (aCU (R1:=[JR done]) (aCW (R':=[ue (some m) r clock seen']) [(fN v).den] rfl rfl rfl rfl rfl rfl (λ_=>rfl) hyv (λ_ h _=>h.2) λt=>aCT rfl ?_))
 cases t with
 | true =>
  refine aj rfl (ah (bN _ (dY rfl ?_)));exact aR (cH (seen',done++[(q,v)]) hD' al ⟨⟨rfl,rfl,trivial⟩,trivial,lM _ _ _,λ_ h _=>h,λ_ h=>h⟩)
 | false =>
  refine aj rfl (ah (bN _ (ir rfl ?_)));exact aJ (lN 1 rfl (bE false rfl aD au))
abbrev Bg(gb:Nat):Value:=.func (.func 100) #[] #[eE gb]
abbrev Jl(gb m clock:Nat)(es:Array MapEntry)(w:yp):Prop:=ij gb nL.t [.one (.v (.map (some m)))] w/\vb m es clock w
abbrev XX(f:ae->Option cD):fm ({ t:List xk // Gq f t }×pP):={ ret:=λx=>.v (.slice x.2.1 (x.1.1.map (·.2)).length x.2.2),own:=λx=>[jw x.2.1 x.2.2 (x.1.1.map (·.2))] }
structure MR where
  vs:fJ
  A:aO
  c:Nat
def aoI{N:Nat}{G:aK}{E:aG}{a:Act}{k:Tmp}{q:aL}(hk:Nat.blt k N=true)(h:Fr N (bG G E) a):Fr N (bG G ([(k,.q q)]++E)) { tmps:=(#[k].zip [q.den].toArray).foldl (λtm (t,v)=>tm.setIfInBounds t v) a.tmps,defers:=[] }:=by
 have e:({ tmps:=a.tmps,defers:=[] }:Act)=a:=by have:=h.defers;cases a;simp only at this;rw [this]
 have Tl:Fr N (bG G E) { tmps:=a.tmps,defers:=[] }:=by rw [e];exact h
 have h:=Tl.put hk q.den;have e1:(#[k].zip [q.den].toArray).foldl (λtm (t,v)=>tm.setIfInBounds t v) a.tmps=a.tmps.setIfInBounds k q.den:=by simp
 show Fr N _ { tmps:=_,defers:=[] };rw [e1];exact h
abbrev Xj(f:ae->Option cD):Prop:=∀t:List xk,(t.map (·.1)).Nodup->(∀d∈t,f d.1=some d.2)->t.length<=1000
structure MQ(f:ae->Option cD)(t:List xk)(s:MR):Prop where
  e:s.vs=t.map (·.2)
  tB:∀d∈t,f d.1=some d.2
  nd:(t.map (·.1)).Nodup
def MQ.next{f:ae->Option cD}{t t':List xk}{s:MR}{y:cD}(h:MQ f t s)(hn:Rv f t y t')(A:aO)(c:Nat):MQ f t' ⟨s.vs++[y],A,c⟩:=by
 obtain⟨q,hq,b8,rfl⟩:=hn;obtain⟨e,h1,h2⟩:=h;refine⟨by rw [e];simp,λd hd=>?_,?_⟩
 .rcases iA.1 hd with hd|hd
  .exact h1 d hd
  .rw [bU.1 hd];exact hq
 .rw [jl];refine List.nodup_append.2 ⟨h2,by simp,λa ha b hb e=>?_⟩;obtain⟨d,hd,rfl⟩:=dv.1 ha;exact b8 d hd (e.trans (by simpa using hb))
def akS(gb:Nat){m clock k:Nat}{es:Array MapEntry}{f:ae->Option cD}(hH:mo nL iF es clock k f)(Hb:Xj f):Spec 135 [.slice none 0 0,Bg gb] [] (Jl gb m clock es) (XX f):=by
 refine aBT [.c (.v (.slice none 0 0)),.c (.v (Bg gb))] 13 func135 rfl (by rw [ntmps135];rfl) (dZ trivial trivial) λb=>amQ an rfl (amU λK hK=>X8 an rfl λK1 aS=>Le 0 60 34 fN (X6 (aS _ (amR ?_))));let E0:aG:=[(6,.v (Bg gb)),(2,.a 2 0)];let Lf:MR->aH:=λs=>[⟨2,none,54,[.one (.v (.slice s.A s.vs.length s.c))]⟩];let Rf:MR->bF:=λs=>[jw s.A s.c s.vs];refine amV (e':=⟨E0,Lf ⟨[],none,0⟩,Rf ⟨[],none,0⟩,Jl gb m clock es,λ_=>True⟩) (fC rfl rfl rfl λ_ h _=>h) ?_;refine amS (β:=cD) #[7] (λy=>[(fN y).den]) (λy=>[(7,.q (fN y))]) (λ_=>[]) (Rv f) (Gq f) [] Lf Rf (MQ f) (λ_ _=>False) ⟨[],none,0⟩ (Jl gb m clock es) (lb:=[eE gb]) rfl (λ_ _=>by go_simp) (λ_=>rfl) (λ_ y _ _ hE=>hE.cons (v:=.q (fN y)) y.ig) (λ_=>rfl) (λy G a ha=>aoI rfl ha) (λ_ h _=>h) (λy Fy JR JX hy=>aEI y gb Fy JR JX hH hy) ⟨rfl,λ_ h=>(by cases h),List.nodup_nil⟩ ?_ ?_ (λ_ _ _ h=>h.elim)
 .rintro G l D n ready busy b1 t ⟨vs,A,c⟩ y t' _ hI hn K6 cr
  have hl:vs.length<=1000:=by rw [show vs=t.map (·.2) from hI.e,dL];exact Hb t hI.nd hI.tB
  refine ayD rfl an rfl (cr _ _ _ _ _ (ayE (aeE rfl (aj rfl (lq an 2 y (fe:=fN) rfl rfl rfl rfl rfl rfl rfl (yH y) (by show(vs.length+1)*80<=_;omega) (by show vs.length<_;omega) (bl _) λA' c'=>aj rfl (ah ?_))))));exact asC (Ix:=λ_ _=>False) ⟨vs++[y],A',c'⟩ (hI.next hn A' c') ⟨trivial,⟨rfl,rfl,trivial⟩,.refl _,aD, au⟩
 .rintro t ⟨vs,A,c⟩ D Td hI;obtain rfl:vs=t.map (·.2):=hI.e;refine hK _ _ (X8 an rfl λK2 aM=>X6 (aM _ ?_));exact amT (aaR [D] (R:=_) (bE (⟨t,Td⟩,A,c) rfl (λ_ h _=>trivial) au))
def amK(gb:Nat){m clock k:Nat}{es:Array MapEntry}{f:ae->Option cD}(hH:mo nL iF es clock k f)(Hb:Xj f):Spec 98 [Bg gb] [] (Jl gb m clock es) (XX f):=by refine bA [.c (.v (Bg gb))] 5 func98 rfl λb=>?_;refine ag rfl (aA rfl λK hK=>er (own:=[]) (R':=[]) [.slice none 0 0,Bg gb] rfl (akS gb hH Hb) (λ_ h _=>h) λx=>aj rfl (ah (hK _ ?_)));exact aJ (bE x rfl aD au)
abbrev ajL(f:ae->Option cD)(gl:fJ):Prop:=(∀g,g∈gl↔∃k,f k=some g)/\gl.Pairwise uN
def Gq.mem{f:ae->Option cD}{t:List xk}(h:Gq f t)(g:cD):g∈t.map (·.2)↔∃k,f k=some g:=by
 rw [dv];constructor
 .rintro⟨d,hd,rfl⟩;exact⟨d.1,h.tB d hd⟩
 .rintro⟨k,hk⟩;exact⟨(k,g),h.all k g hk,rfl⟩
def aBS(gb:Nat){m clock k:Nat}{es:Array MapEntry}{f:ae->Option cD}(hH:mo nL iF es clock k f)(hid:∀q g,f q=some g->g.id=q)(Hb:∀t:List xk,(t.map (·.1)).Nodup->(∀d∈t,f d.1=some d.2)->t.length<=12):Spec 56 [Bg gb,sc] [] (Jl gb m clock es) { ret:=λx:{ gl:fJ // ajL f gl }×pP=>.v (.slice x.2.1 x.1.1.length x.2.2),own:=λx=>[jw x.2.1 x.2.2 x.1.1] }:=by
 refine bA [.c (.v (Bg gb)),.c (.v sc)] 12 func56 rfl λb=>ag rfl (aA rfl λK hK=>er (own:=[]) (R':=[]) [Bg gb] rfl (amK gb hH λt h1 h2=>fo (Hb t h1 h2) (by decide)) (λ_ h _=>h) λ⟨⟨t,ht⟩,A,c⟩=>aj rfl (ah (hK _ ?_)));have iC:((t.map (·.2)).map cD.id).Nodup:=by rw [qB];have e:t.map (cD.id ∘ λd=>d.2)=t.map (·.1):=Ab λd hd=>hid _ _ (ht.tB d hd);rw [e];exact ht.nd
 have h12:(t.map (·.2)).length<=12:=by rw [dL];exact Hb t ht.nd ht.tB
 refine aA rfl λK2 aM=>dz [jw A c (t.map (·.2))] rfl ?_;have h9:=aBR (A:=A) (c:=c) (t.map (·.2)) iC h12;obtain⟨vs,vD⟩:∃vs,t.map (·.2)=vs:=⟨_,rfl⟩;rw [vD] at h9;refine me 8 (.v (.slice A vs.length c)) rfl (by rw [<-vD];rfl) (dz [jw A c vs] (by rw [<-vD]) (er (own:=[jw A c vs]) (R':=[]) [.slice A vs.length c,sc] rfl h9 aD λ⟨gl,mC⟩=>?_));obtain⟨hp,hs⟩:=mC;refine ah (aM _ (ag rfl (aJ (ft (e':=⟨[(4,.v (.slice A gl.length c))],[],[jw A c gl],λ_=>True,λ_=>True⟩) ⟨⟨by show some (aq.v (.slice A (t.map (·.2)).length c))=some (aq.v (.slice A gl.length c));rw [vD,hp.length_eq],trivial⟩,trivial,.refl _,aD, au⟩ ?_))));exact bE (⟨gl,λg=>(hp.mem_iff).trans (by rw [<-vD];exact ht.mem g),hs⟩,A,c) rfl aD au
theorem LD:∀{l m:aX},l.Nodup->(∀x∈l,x∈m)->l.length<=m.length
 | [],_,_,_=>bl _
 | x::l,m,hd,h=>by obtain⟨h1,h2⟩:=AF.1 hd;have hx:=h x (.head _);have h3:=LD (l:=l) (m:=m.erase x) h2 λy hy=>(List.mem_erase_of_ne (λe=>h1 (by rw [<-e];exact hy))).2 (h y (.tail _ hy));rw [List.length_erase_of_mem hx] at h3;have:=List.length_pos_of_mem hx;rw [fL];omega
theorem Ms(id:ae):∀(us:cS) (l:bZ),(dA id l us).length<=us.length
 | [],_=>aQ _
 | u::us,l=>by
  have:=Ms id us (kJ l (cy u));rw [Ge];split
  .rw [fL,fL];omega
  .rw [fL];omega
def qq.Sp{l:bZ}{us:cS}{gs:fJ}{f:ae->Option cD}(h:qq l us gs f):∀t:List xk,(t.map (·.1)).Nodup->(∀d∈t,f d.1=some d.2)->t.length<=(fq l us).length:=λt h1 h2=>by
 have:=LD (m:=(fq l us).map cZ.id) h1 λk hk=>by obtain⟨d,hd,rfl⟩:=dv.1 hk;obtain⟨g1,g2⟩:=(h.iff_ _ _).1 (h2 d hd);obtain⟨_,a3,a4⟩:=h.ok _ g1;rw [a3,g2] at a4;exact dv.2 ⟨_,JV a4,rfl⟩
 rwa [dL,dL] at this
abbrev xn(g:cD):fS:=bL 0 68 129 dT g.U g.u g.more
section
variable{b:bO}{N:Nat}{E:aG}{L:aH}{R:bF}{M:aE}{K:fg}
theorem aaQ:∀(gs:fJ) {F:aE},cl b K N ⟨E,L,R,λw=>(∀g∈gs,ar 129 dT g.U g.u g.more w)/\F w,M⟩->cl b K N ⟨E,L,gs.map xn++R,F,M⟩
 | [],F,h=>λa w ⟨G,S,h1,h2,h3⟩=>h a w ⟨G,S,h1,h2,h3.imp (λ_ h _=>⟨λ_ h=>(by cases h),h⟩) λ_ h=>h⟩
 | p::ai,F,h=>λa w ⟨G,S,h1,h2,h3⟩=>by
  obtain⟨S',h4⟩:=h3.free (i:=0) rfl;refine aaQ ai (F:=λw=>ar 129 dT p.U p.u p.more w/\F w) (λa w ⟨G,S,h1,h2,h3⟩=>h a w ⟨G,S,h1,h2,?_⟩) a w ⟨G,S',h1,h2,h4⟩;refine h3.imp (λw h _=>⟨λq hq=>?_,h.2.2⟩) λ_ h=>h;rcases bT.1 hq with rfl|hq
  .exact h.2.1
  .exact h.1 q hq
end
structure GhS where
  i:Nat
  gs:fJ
  f:ae->Option cD
abbrev Y3(l:bZ)(us:cS):fm ({ gl:fJ // gl.map cD.pl=fq l us }×pP):={ ret:=λx=>.v (.slice x.2.1 x.1.1.length x.2.2),p:=λx w=>ar 34 fN x.2.1 x.2.2 x.1.1 w/\∀g∈x.1.1,g.rd w }
def apA{d:fU}(hd:d.aI){A:aO}{c:Nat}{us:cS}(ic:∀u∈us,u.aI)(gT:us.length<=1000)(h12:(fq d.l us).length<=12) :
  Spec 22 [(nU d).den,.slice A us.length c] [] (λw=>eI w/\d.F w/\ar 129 dT A c us w) (Y3 d.l us):=by
 refine bA [.p d.parts,.c (.v (.slice A us.length c))] 62 func22 rfl (ab:=dZ d.ig trivial) λb=>ag rfl (aA rfl λK1 aS=>Ut nL iF rfl rfl rfl rfl λm=>aj rfl (ah (aS _ (ao λK hK=>ag rfl (a8 ?_)))))
 let Es:Nat->aG:=λi=>[(13,.aT i),(12,.aT us.length),(11,.v (.slice A us.length c)),(5,.v (.map (some m))),(2,.a 2 0)]
 let Ls:aH:=[⟨2,none,33,d.parts⟩]
 let Ff:fJ->aE:=λgs w=>(eI w/\d.F w/\ar 129 dT A c us w)/\∀g∈gs,g.k.rd w
 let Fs:GhS->Env:=λx=>⟨Es x.i,Ls,iZ nL iF m x.gs.length x.f::x.gs.map xn,Ff x.gs,λ_=>True⟩
 refine cI (e':=Fs ⟨0,[],λ_=>none⟩) ⟨dB rfl, c8 rfl rfl, .refl _,λ_ h _=>⟨h,λ_ h=>by cases h⟩, au⟩ (cY (λx=>us.length-x.i) Fs (λx=>x.i<=us.length/\qq d.l (us.take x.i) x.gs x.f) ?_ ⟨0,[],λ_=>none⟩ ⟨bl _,qq.nil _⟩)
 rintro⟨i,gs,f⟩ ⟨hi,hg⟩
 dsimp only at hi hg
 refine ag rfl (ao λK5 bN=>?_);refine bn ((i:Int)<(us.length:Int)) rfl (λal=>?_) (λcW=>?_)
 .have al:i<us.length:=by omega
  obtain⟨u,hu⟩:∃u,us[i]?=some u:=⟨_,da al⟩;have fT:=ic u (eg hu);have h64:=hd.small.keys u.id;have qg:=Ms u.id (us.take i) d.l;rw [du] at qg;refine aR (bN _ (ao λK10 nV=>?_));have su:∀gs' f',qq d.l (us.take (i+1)) gs' f'->∀e,gj e ⟨Es i,Ls,iZ nL iF m gs'.length f'::gs'.map xn,Ff gs',λ_=>True⟩->cl b K10 62 e:=by intro gs' f' hg' e hw;refine ft hw (nV _ (cE rfl ?_));exact cH ⟨i+1,gs',f'⟩ ⟨al,hg'⟩ (by show us.length-(i+1)<us.length-i;omega) ⟨⟨rO i us.length (by omega) al,rfl,rfl,rfl,rfl,trivial⟩,⟨rfl,rfl,trivial⟩,.refl _,λ_ h _=>h,λ_ h=>h⟩
  refine a8 (aA rfl λK11 p8=>jh an rfl rfl rfl i rfl hu rfl rfl (dX λ_ h _=>h.1.2.2) (aj rfl (ah (p8 _ (aA rfl λK12 sl=>jq (.t [fN ((f u.id).getD FK),.c (.b (f u.id).isSome)]) (ab:=dZ (cD.ig _) trivial) rfl (azO (FH 0 rfl) u.id fT.id rfl rfl rfl) (aj rfl (ah (sl _ (ao λK13 wJ=>?_)))))))));have ll:∀(g:cD) (r:fJ),g.id=u.id->g.k.l=cB d.l u.id->g.more=dA u.id d.l (us.take i)->(∀x,x∈r↔x∈gs/\x.id≠u.id)->(r.map cD.id).Nodup->((f u.id=none/\r=gs)\/(f u.id=some g/\gs.Perm (g::r)))->∀e,gj e ⟨(8,.a 8 0)::(7,.a 7 0)::Es i,⟨8,none,60,g.parts⟩::⟨7,none,68,u.parts⟩::Ls,iZ nL iF m gs.length f::xn g::r.map xn,λw=>g.k.rd w/\Ff gs w,λ_=>True⟩->cl b K13 62 e:=by
   intro g r Tn N6 Kp hr Aw Zz e hw;have uC:¬(eV u=true/\u.ver=((cB d.l u.id).length:Int)+((dA u.id d.l (us.take i)).length:Int)+1)->∀e,gj e ⟨Es i,Ls,iZ nL iF m gs.length f::xn g::r.map xn,Ff gs,λ_=>True⟩->cl b K10 62 e:=by
    intro hn e hw;refine ft hw ?_;rcases Zz with⟨_,rfl⟩|⟨_,hp⟩
    .exact lN 1 rfl (su r f (hg.not hu hn) _ (fC rfl rfl rfl λ_ h _=>h))
    .exact su gs f (hg.not hu hn) _ ⟨dB rfl, ⟨rfl,rfl,trivial⟩,((hp.map xn).symm.cons _),λ_ h _=>h, au⟩
   rw [<-N6,<-Kp] at uC;refine ft hw (wJ _ ?_);have zd:IntKind.i64.wrap (IntKind.i64.wrap ((g.k.l.length:Int)+(g.more.length:Int))+1)=(g.k.l.length:Int)+(g.more.length:Int)+1:=by rw [N6,Kp,jv (r:=((cB d.l u.id).length:Int)+((dA u.id d.l (us.take i)).length:Int)) rfl (by omega) (by omega)];exact jv rfl (by omega) (by omega)
   refine aA rfl λK14 xJ=>?_;by_cases ab:u.ver=(g.k.l.length:Int)+(g.more.length:Int)+1
   .refine pd 44 true rfl (by rw [zd];exact decide_eq_true ab) ?_
    refine aj rfl (bY [(dT u).den] rfl (TJ fT) (λ_ h _=>h.2.1.1) λ_=>aj rfl (ah (xJ _ ?_)));refine pD (eV u) rfl (λqf=>?_) (λqf=>?_)
    .have qT:g.more.length<=1000:=by rw [Kp];omega
     refine aA rfl λK15 yR=>lq an 1 u (fe:=dT) rfl rfl rfl rfl rfl rfl rfl (GM fT) (by show(g.more.length+1)*136<=_;omega) (by show g.more.length<_;omega) (bl _) λU' u'=>aj rfl (ah (yR _ (ef (aj rfl (Lg M0 0 rfl u.id ⟨g.id,g.fl,g.k,U',u',g.more++[u]⟩ fT.id rfl rfl rfl rfl rfl rfl ?_)))));have hn:(if (f u.id).isSome then gs.length else gs.length+1)=((⟨g.id,g.fl,g.k,U',u',g.more++[u]⟩:cD)::r).length:=by
      rcases Zz with⟨h1,rfl⟩|⟨h1,hp⟩
      .rw [h1];rfl
      .rw [h1,hp.length_eq];rfl
     rw [hn];refine ah (su (⟨g.id,g.fl,g.k,U',u',g.more++[u]⟩::r) _ (hg.yes hu ⟨qf,by rw [<-N6,<-Kp];exact ab⟩ Tn N6 (by rw [<-Kp]) Aw hr) _ ⟨dB rfl, c8 rfl rfl, .refl _,λw h _=>⟨h.2.2.1,λx hx=>?_⟩, au⟩);rcases bT.1 hx with rfl|hx
     .exact h.2.1
     .exact h.2.2.2 x ((hr x).1 hx).1
    .exact aR (uC (λh=>by rw [h.1] at qf;cases qf) _ (fC rfl rfl rfl λ_ h _=>h.2.2))
   .refine pd 44 false rfl (by rw [zd];exact decide_eq_false ab) ?_;refine aj rfl (ah (xJ _ (dY rfl ?_)));exact aR (uC (λh=>ab h.2) _ (fC rfl rfl rfl λ_ h _=>h.2))
  cases hf:f u.id with
  | some g =>
   obtain⟨g1,g2,g3,a,c0,sn,Hn,xO⟩:=hg.some_ hf;refine ag rfl ?_;refine pD false rfl (λh=>by cases h) (λ_=>?_);refine aR (ll g (a++c0) g1 g2 g3 xO Hn (.inr ⟨hf,by rw [sn];exact List.perm_middle⟩) _ ⟨dB rfl, ⟨rfl,rfl,rfl,rfl,rfl,rfl,trivial⟩,?_,λw h _=>⟨h.2 g (by rw [sn];simp),h⟩, au⟩)
   show kR (iZ nL iF m gs.length f::gs.map xn) (iZ nL iF m gs.length f::(g::(a++c0)).map xn)
   rw [sn];exact(List.perm_middle.map xn).cons _
  | none =>
   obtain⟨xO,wP⟩:=hg.none_ hf;have hkx:=an7 hd fT.id;refine ag rfl ?_;refine pD true rfl (λ_=>?_) (λh=>by cases h);refine pF 0 68 129 dT ?_;refine rS λG=>?_;refine lv [0,1,2,3,4] 6 2 (iV (iH G (⟨8,none,60,FK.parts⟩::⟨7,none,68,u.parts⟩::Ls))) rfl (iE mj) ?_;refine j3 0 rfl (λ_ h=>h) (j3 1 rfl (λ_ h=>h) (j3 2 rfl (λ_ h=>h) (j3 3 rfl (λ_ h=>h) (j3 4 rfl (λ_ h=>h) ?_))));refine eN 5 rfl λKa kM=>?_;refine bY [(nU d).den,(aw 32 u.id).den] rfl hkx (λ_ h _=>h.1.2.1) λx=>iU 0 rfl (ah (kM _ (iE mj) (kQ [6,7] rfl (aj rfl ?_))));refine ah (Co (ll ⟨u.id,fT.id,⟨x.1,x.2,cB d.l u.id⟩,none,0,[]⟩ gs rfl rfl wP.symm xO hg.nd (.inl ⟨hf,rfl⟩) _ ⟨dB rfl, ⟨rfl,rfl,rfl,rfl,rfl,rfl,trivial⟩,lM _ _ _,λw h _=>⟨h.1,h.2.2⟩, au⟩))
 refine cG (a6 (a6 (cF (Uk 0 rfl λes clock hH=>aaP 0 rfl ?_))))
 obtain rfl:us.length=i:=by omega
 rw [kW] at hg;refine ft (e':=⟨[(5,.v (.map (some m)))],[],gs.map xn++[],λw=>vb m es clock w/\Ff gs w,λ_=>True⟩) ⟨⟨rfl,trivial⟩,trivial,by rw [fj];exact .refl _,λ_ h _=>h, au⟩ (aaQ gs (hK _ (aA rfl λK2 aM=>bY [.map (some m)] rfl (aEJ m) aD λgb=>er (own:=[]) (R':=[]) [Bg gb,sc] rfl (aBS gb hH (λq g hq=>((hg.iff_ q g).1 hq).2) λt h1 h2=>fo (hg.Sp t h1 h2) h12) (λw h _=>⟨h.1,h.2.2.1⟩) λ⟨⟨gl,mC⟩,B,e⟩=>aj rfl (ah (aM _ (mQ 0 rfl ?_))))));have Ky:∀g,g∈gl↔g∈gs:=λg=>(mC.1 g).trans ⟨λ⟨k,hk⟩=>((hg.iff_ k g).1 hk).1,λh=>⟨g.id,(hg.iff_ g.id g).2 ⟨h,rfl⟩⟩⟩;refine aJ (bE (⟨gl,hg.Sy (hd.dir.apply (zL ic)) mC.2 Ky⟩,B,e) rfl (λw h _=>⟨h.1,λg hg=>⟨?_,?_⟩⟩) au)
 .exact h.2.2.2.2.2.2 g ((Ky g).1 hg)
 .exact h.2.2.2.1 g ((Ky g).1 hg)
def IV{k:Nat}{s:cf}(h:s.2≠11):(rl k s).2≠11:=by
 obtain⟨l,f⟩:=s;have h:f≠11:=h;show(qn l f k).2.2≠11;unfold qn;by_cases h0:f=0
 .rw [if_pos h0];split<;>simp
 .rw [if_neg h0];exact h
def Pd{m:Nat}{s:cf}(h:s.2≠11):(kA m s).2≠11:=by
 unfold kA;split
 .show(12:Nat)≠11;decide
 .exact IV h
def XK{s:cf}(h:s.2≠11):(pR s).2≠11:=IV (Pd h)
theorem OM{f:cf->cf}(hf:∀s:cf,s.2≠11->(f s).2≠11){s:cf}(h:s.2≠11):∀n,(db f s n).2≠11
 | 0=>h
 | n+1=>hf _ (OM hf h n)
def aoP{s:cf}(h:s.2≠11):(qM s).2≠11:=OM (λ_ h=>IV h) (Pd (IV h)) _
def aoY{s:cf}(h:s.2≠11):(im s).2≠11:=XK (aoP h)
def anO{s:cf}(h:s.2≠11):(kG s=0\/kG s=11)↔s.2=0:=by
 unfold kG Nr;constructor
 .intro h2
  by_cases h0:s.2=0
  .exact h0
  .rw [if_neg h0] at h2;exact h2.resolve_right h
 .intro h0
  rw [if_pos h0];split
  .exact .inl rfl
  .exact .inr rfl
def YY(g:Nat){A:aO}{c:Nat}{s:cf}(h11:s.2≠11):Spec 76 [ptr g] [eF g A c s] (λ_=>True) { ret:=λ_:Unit=>.q (.c (.b (decide (s.2=0)))),own:=λ_=>[eF g A c s] }:=by
 refine bA [.c (.v (ptr g))] 12 func76 rfl λb=>?_;have l9:=anO h11;have gA:=Qs g (A:=A) (c:=c) s;obtain⟨e,he⟩:∃e,kG s=e:=⟨_,rfl⟩;rw [he] at l9 gA;refine ag rfl (aA rfl λK1 aS=>er [ptr g] rfl gA aD λ_=>aj rfl (ah (aS _ (aA rfl λK2 aM=>?_))));by_cases h0:e=0
 .refine pd 8 true rfl (decide_eq_true (by omega)) ?_;refine aj rfl (ah (aM _ ?_));exact aJ (x8 an () rfl rfl (by show oE (decide (s.2=0)) = .bool true;rw [decide_eq_true (l9.1 (.inl h0))]) trivial rfl aD au)
 .refine pd 8 false rfl (decide_eq_false (by omega)) ?_
  refine aj rfl (ah (aM _ ?_));refine aJ (x8 an () rfl rfl ?_ trivial rfl aD au);have e1:decide (s.2=0)=decide ((e:Int)=11):=by rw [decide_eq_decide,<-l9];omega
  show oE (decide (s.2=0))=oE (decide ((e:Int)=11));rw [e1]
def akN(g:Nat){A:aO}{c:Nat}(s:cf)(h11:s.2≠11):Spec 78 [ptr g] [eF g A c s] (ar 1 aY A c s.1)
  { ret:=λx:{ k:Nat // (db dM (kA 65536 s) (kO 65536 s)).2=0->k=kO 65536 s }×wg×pP=>.v (.slice x.2.2.1 (nr (kA 65536 s) x.1.1).length x.2.2.2),own:=λx=>[eF g x.2.1.1 x.2.1.2 (db dM (kA 65536 s) (kO 65536 s))],p:=λx w=>ar 32 (aw 32) x.2.2.1 x.2.2.2 (nr (kA 65536 s) x.1.1) w/\ar 1 aY x.2.1.1 x.2.1.2 (db dM (kA 65536 s) (kO 65536 s)).1 w }:=by
 refine bA [.c (.v (ptr g))] 21 func78 rfl λb=>?_;have Tw:kO 65536 s<=65536:=Im _ _;have h12:(kA 65536 s).2≠11:=Pd h11;have wO:=VA g (A:=A) (c:=c) s;obtain⟨n,hn⟩:∃n,kO 65536 s=n:=⟨_,rfl⟩;obtain⟨z,hz⟩:∃z,kA 65536 s=z:=⟨_,rfl⟩;rw [hn,hz] at wO;rw [hn] at Tw;rw [hz] at h12;rw [hn,hz];refine ag rfl (ag rfl (ao λK hK=>aA rfl λK1 aS=>er [ptr g] rfl wO (λw h _=>h) λ⟨A1,c1⟩=>dz [eF g A1 c1 z] rfl (aj rfl (Le 0 47 32 (aw 32) (ah (aS _ (a8 ?_)))))))
 let F:Nat×wg×pP->Env:=λ⟨i,r,x⟩=>⟨[(4,.aT n),(0,.v (ptr g)),(3,.v (.slice x.1 (nr z i).length x.2))],[],[eF g r.1 r.2 (db dM z i),iN x.1 x.2 (nr z i)],ar 1 aY r.1 r.2 (db dM z i).1,λ_=>True⟩
 have uy:∀(i:Nat) (r:wg) (x:pP),i<=n->((db dM z i).2≠0\/i=n)->∀e,gj e (F (i,r,x))->cl b K 21 e:=by intro i r x hi hor e hw;refine ft hw (hK _ ?_);have aa:=aaL J8 hi hor;refine mQ 1 rfl (ag rfl ?_);have hk:(db dM z n).2=0->i=n:=λh0=>hor.resolve_left λh=>h (by rw [<-aa];exact h0);refine aJ (dk an (⟨i,hk⟩,r,x) rfl rfl rfl ?_ (λw h _=>⟨h.1,by show ar 1 aY r.1 r.2 (db dM z n).1 w;rw [aa];exact h.2⟩) au);show [eF g r.1 r.2 (db dM z n)]=[eF g r.1 r.2 (db dM z i)];rw [aa]
 refine cI (e':=F (0,(A1,c1),(none,0))) ⟨⟨rfl,rfl,rfl,trivial⟩,trivial,lM _ _ _,λ_ h _=>h.1, au⟩ (cY (λx=>n-x.1) F (λx=>x.1<=n) ?_ (0,(A1,c1),(none,0)) (bl _))
 rintro⟨i,r,x⟩ hi
 dsimp only at hi
 have fI:=aaU z i;refine ao λK5 bN=>aA rfl λK6 cr=>?_
 by_cases al:¬i<n
 .refine pd 11 false rfl (decide_eq_false (by omega)) ?_;refine aj rfl (ah (cr _ (dY rfl (cG (a6 (a6 (cF ?_)))))));exact uy i r x hi (.inr (by omega)) _ (hv rfl rfl rfl)
 have hlt':i<n:=by omega
 refine pd 11 true rfl (decide_eq_true (by omega)) (aj rfl (er [ptr g] rfl (YY g (A:=r.1) (c:=r.2) (OM (f:=dM) (λ_ h=>IV h) h12 i)) aD λ_=>dz [eF g r.1 r.2 (db dM z i),iN x.1 x.2 (nr z i)] rfl (aj rfl (ah (cr _ ?_)))));refine bn ((db dM z i).2=0) rfl (λh0=>?_) (λh0=>?_)
 .refine aR (bN _ ?_);have hh:=ED (db dM z i);have jB:=asN z i;have KI:=Qr g (A:=r.1) (c:=r.2) (db dM z i);obtain⟨h1,xL⟩:∃h1,lh (db dM z i)=h1:=⟨_,rfl⟩;rw [xL] at hh jB KI;refine a8 (ef (aj rfl (er [ptr g] rfl KI (λw h _=>h.2) λ⟨A2,c2⟩=>dz [eF g A2 c2 (db dM z (i+1)),iN x.1 x.2 (nr z i)] rfl (lq an 1 h1 (fe:=aw 32) rfl rfl rfl rfl rfl rfl rfl (cq hh) (by rw [fI];show(i+1)*32<=_;omega) (by omega) (bl _) λA3 c3=>aj rfl (ah ?_)))));exact cH (i+1,(A2,c2),(A3,c3)) hlt' (by show n-(i+1)<n-i;omega) ⟨⟨rfl,rfl,by show dG _ 3=some (.v (.slice A3 (nr z (i+1)).length c3));rw [jB];rfl,trivial⟩,trivial,by show kR _ [_,iN A3 c3 (nr z (i+1))];rw [jB];exact .refl _,λ_ h _=>h.1, au⟩
 .refine cG (a6 (a6 (cF ?_)));exact uy i r x hi (.inl h0) _ (fC rfl rfl rfl λ_ h _=>h.2)
theorem VC:∀(n:Nat) (way:aC) (b:ae) (e:Nat),ak.read n way b = .error e->e≠0
 | n,way,[],e,h=>by rw [aeQ] at h;injection h with h;omega
 | n,way,x::b,e,h=>by
  rw [VB] at h;by_cases h0:x=0
  .rw [if_pos h0] at h;cases h
  rw [if_neg h0] at h;by_cases h1:x=1
  .rw [if_pos h1] at h
   unfold FZ at h;split at h
   .injection h with h;omega
   .split at h
    .cases h
    .injection h with h;omega
  rw [if_neg h1] at h;by_cases h2:x=2
  .rw [if_pos h2] at h
   cases n with
   | zero=>injection h with h;omega
   | succ n =>
    unfold FY at h
    dsimp only at h
    cases hr:ak.read n (way++[0]) b with
    | error e1 =>
     rw [hr] at h
     injection h with h
     subst h;exact VC n _ _ _ hr
    | ok u =>
     obtain⟨y,b1⟩:=u;rw [hr] at h
     dsimp only at h
     cases dU:ak.read n (way++[1]) b1 with
     | error e1 =>
      rw [dU] at h
      injection h with h
      subst h;exact VC n _ _ _ dU
     | ok u =>
      obtain⟨z,b2⟩:=u;rw [dU] at h
      dsimp only at h
      split at h
      .injection h with h;omega
      .cases h
  rw [if_neg h2] at h;by_cases h3:x=3
  .rw [if_pos h3] at h
   unfold Ma at h;split at h
   .injection h with h;omega
   .cases h
  .rw [if_neg h3] at h;injection h with h;omega
theorem Vh{b:ae}{e:Nat}(h:ak.parse b = .error e):e≠0:=by
 unfold ak.parse at h;cases hr:ak.read 256 [] b with
 | error e1 =>
  rw [hr] at h
  injection h with h
  subst h;exact VC _ _ _ _ hr
 | ok u =>
  obtain⟨w,r⟩:=u;rw [hr] at h
  cases r with
  | nil=>cases h
  | cons=>injection h with h;omega
def rk(b:ae):ak:=if jZ b=0 then(match ak.parse (s9 b) with
  | .ok w=>w
  | .error _=>.empty) else .empty
theorem agY{b:ae}(h:jZ b=0):ak.parse (s9 b) = .ok (rk b):=by
 have h1:=(agV h).2.1;unfold yb at h1;unfold rk;rw [if_pos h];cases hp:ak.parse (s9 b) with
 | ok w=>rfl
 | error e =>
  rw [hp] at h1;have h1:e=0:=h1;subst h1;exact absurd rfl (Vh hp)
theorem YF:∀{l:aC} {i e:Nat},(∀j,j<i->l[j]?=some 0)->l[i]?=some e->e≠0->yM l=e
 | [],_,_,_,h,_=>by simp at h
 | x::l,0,e,_,h,he=>by
  have h:x=e:=by simpa using h
  subst h;unfold yM;rw [if_neg he]
 | x::l,i+1,e,h0,h,he=>by
  have hx:x=0:=by simpa using h0 0 (vQ _)
  subst hx;unfold yM;rw [if_pos rfl];exact YF (l:=l) (i:=i) (λj hj=>by simpa using h0 (j+1) (Nat.succ_lt_succ hj)) (by simpa using h) he
theorem YE:∀{l:aC},(∀e∈l,e=0)->yM l=0
 | [],_=>rfl
 | x::l,h=>by have hx:x=0:=h x (.head _);subst hx;unfold yM;rw [if_pos rfl];exact YE λe he=>h e (.tail _ he)
def aoR{z:cf}{i:Nat}(h:(db im z (i+1)).2=0):(qM (db im z i)).2=0:=by unfold db im at h;exact(RX h).1
structure wb(z:cf)(i:Nat)(vs:fJ)(ss:lU):Prop where
  ids:vs.map cD.id=(dV i).map λj=>(wH (db im z j)).id
  keys:(db im z i).2=0->(vs.map λv=>v.k.l)=(dV i).map λj=>(wH (db im z j)).keys
  segs:ss.map cC.l=(dV i).map λj=>(wH (db im z j)).more
  more:∀v∈vs,v.more=[]
def wb.zero(z:cf):wb z 0 [] []:=⟨rfl,λ_=>rfl,rfl,λ_ h=>by cases h⟩
def wb.next{z:cf}{i:Nat}{vs:fJ}{ss:lU}(h:wb z i vs ss){v:cD}{s:cC}(h1:v.id=lh (db im z i))(h2:(qM (db im z i)).2=0->v.k.l=nr (qN (db im z i)) (yP (db im z i)))(h3:v.more=[])(h4:s.l=nR (qM (db im z i))):wb z (i+1) (vs++[v]) (ss++[s]):=by
 refine⟨?_,λh0=>?_,?_,λx hx=>?_⟩
 .rw [LW,jl,jl,h.ids];show _++[v.id]=_++[lh _];rw [h1]
 .have hi:(db im z i).2=0:=OK (f:=im) (s:=z) (n:=i+1) (i:=i) NL h0 (Nat.le_succ i);rw [LW,jl,jl,h.keys hi];show _++[v.k.l]=_++[nr _ _];rw [h2 (aoR h0)]
 .rw [LW,jl,jl,h.segs];show _++[s.l]=_++[nR _];rw [h4]
 .rcases iA.1 hx with hx|hx
  .exact h.more x hx
  .rw [bU.1 hx];exact h3
def wb.len{z:cf}{i:Nat}{vs:fJ}{ss:lU}(h:wb z i vs ss):vs.length=i/\ss.length=i:=by have h1:=congrArg jQ h.ids;have h2:=congrArg jQ h.segs;rw [dL,dL,List.length_range] at h1 h2;exact⟨h1,h2⟩
def NG(g:oJ):cZ:=⟨g.id,g.keys,mE g.more⟩
def RP(g:oJ):cZ:=⟨g.id,g.keys,[]⟩
structure Ec(L:List oJ)(ss:lU)(i:Nat)(vs:fJ):Prop where
  pl:vs.map cD.pl=(L.take i).map NG++(L.drop i).map RP
  ok:∀j,j<i->(L.map λg=>ma g.more)[j]?=some 0
def wb.bare{b:ae}{vs:fJ}{ss:lU}(h:wb (ui b) (wu b) vs ss)(h0:(ta b).2=0):Ec (pn b) ss 0 vs/\ss.map cC.l=(pn b).map oJ.more:=by
 refine⟨⟨?_,λj hj=>absurd hj (Ds j)⟩,?_⟩
 .show vs.map cD.pl=[]++(pn b).map RP
  rw [lD];have h1:=h.ids;have h2:=h.keys h0;have h3:=h.more;unfold pn;rw [qB];generalize dV (wu b)=ns at h1 h2 ⊢;clear h h0;induction vs generalizing ns with
  | nil =>
   cases ns with
   | nil=>rfl
   | cons n ns=>cases h1
  | cons v vs ih =>
   cases ns with
   | nil=>cases h1
   | cons n ns =>
    rw [eZ,eZ] at h1 h2
    injection h1 with a1 a2
    injection h2 with b1 b2
    rw [eZ,eZ,ih (λx hx=>h3 x (.tail _ hx)) ns a2 b2]
    congr 1
    unfold cD.pl
    rw [h3 v (.head _),b1,a1]
    rfl
 .unfold pn;rw [h.segs,qB];rfl
def Ec.step{L:List oJ}{ss:lU}{i:Nat}{vs:fJ}(h:Ec L ss i vs){g:oJ}(hg:L[i]?=some g)(h0:ma g.more=0){v':cD}(ab:v'.pl=NG g):Ec L ss (i+1) (vs.set i v'):=by
 have al:=(eY.1 hg).1;have cW:=(eY.1 hg).2;refine⟨?_,λj hj=>?_⟩
 .rw [oW,h.pl,ab]
  have h1:L.drop i=g::L.drop (i+1):=by rw [z9 al,cW]
  have h2:L.take (i+1)=L.take i++[g]:=by rw [qw,hg];rfl
  have h3:((L.take i).map NG).length=i:=by rw [dL,du];omega
  rw [h1,h2,jl,eZ,yF _ _ (by omega),h3,si,ei];rfl
 .rcases uV.1 hj with hj|rfl
  .exact h.ok j hj
  .rw [lC,hg];show some (ma g.more)=_;rw [h0]
theorem Ec.at_{L:List oJ}{ss:lU}{i:Nat}{vs:fJ}(h:Ec L ss i vs){g:oJ}(hg:L[i]?=some g):∃v,vs[i]?=some v/\v.pl=RP g:=by
 have al:=(eY.1 hg).1;have h3:((L.take i).map NG).length=i:=by rw [dL,du];omega
 have h1:=congrArg (λl=>l[i]?) h.pl;simp only [lC] at h1;rw [rz (by omega),h3,si,lC,Fg,jP,hg] at h1;cases ab:vs[i]? with
 | none=>rw [ab] at h1;cases h1
 | some v =>
  rw [ab] at h1;exact⟨v,rfl,jm h1⟩
abbrev CQ(A:aO)(c:Nat)(l:lU):fS:=bL 0 39 1 kg A c l
abbrev StX(b:ae):={ vs:fJ // vs.map cD.pl=kS b }×pP
abbrev agX(b:ae):fm (StX b):={ ret:=λx=>.t [gU (rk b),.c (.v (.slice x.2.1 x.1.1.length x.2.2)),.c (.v (.int .i64 (jZ b:Int)))],p:=λx w=>ar 34 fN x.2.1 x.2.2 x.1.1 w/\∀g∈x.1.1,g.rd w }
def Sx(g:cD):(fN g).cp=By g.id++[.slice g.k.A g.k.l.length g.k.c,.slice g.U g.more.length g.u]:=by show(fN g).den.cells.toList=_;show(a7 g.parts).toList=_;simp [a7,cD.parts,bz.cells,eK.den]
def ap1(g:cD)(U:aO)(u:Nat)(us:cS):(fN ⟨g.id,g.fl,g.k,U,u,us⟩).cp=(fN g).cp.take 33++(aL.c (.v (.slice U us.length u))).cp++(fN g).cp.drop 34:=by
 have h1:(By g.id).length=32:=by rw [dH,g.fl]
 rw [Sx,Sx,List.take_append,List.drop_append,h1,kE (by omega),um (by omega)];simp [aL.cp,aL.den,eK.den,nW]
def akQ(l:ae):(pn l).length=wu l:=by unfold pn;rw [dL,List.length_range]
structure MW where
  i:Nat
  r:wg
  vs:fJ
  X:pP
  ss:lU
  Y:pP
structure PqS where
  i:Nat
  vs:fJ
def akR{A:aO}{c:Nat}(l:ae)(hl:l.length<=281474976710656):Spec 35 [.slice A l.length c] [] (λw=>eI w/\ar 1 aY A c l w) (agX l):=by
 refine bA [.c (.v (.slice A l.length c))] 83 func35 rfl λb=>ag rfl (aA rfl λK1 aS=>bY [.slice A l.length c] rfl (aeP l hl) (λw h _=>h.2) λ⟨g,g0⟩=>aj rfl (ah (aS _ (aA rfl λK2 aM=>dz [eF g (some ⟨g0,0,none⟩) l.length (l,0)] rfl ?_))));have xK:(nR (l,0)).length<=1048576:=fo (Gd _ _).1 (Im _ _);have G5:nR (l,0)=s9 l:=rfl;have KG:=aeJ g (A:=some ⟨g0,0,none⟩) (c:=l.length) (l,0);rw [G5] at KG xK;obtain⟨top,Oy⟩:∃top,s9 l=top:=⟨_,rfl⟩;rw [Oy] at KG;refine er [ptr g] rfl KG (λw _ h=>h.1) λ⟨gt,A1,c1⟩=>dz [eF g A1 c1 (pR (l,0))] rfl (aj rfl (ah (aM _ (ag rfl (ag rfl ?_)))));obtain⟨n,hn⟩:∃n,wu l=n:=⟨_,rfl⟩;obtain⟨z,hz⟩:∃z,ui l=z:=⟨_,rfl⟩;have Tw:n<=65536:=by rw [<-hn];exact Im _ _
 have arV:z.2≠11:=by rw [<-hz];exact Pd (XK (show(0:Nat)≠11 by decide))
 have wO:=VA g (A:=A1) (c:=c1) (pR (l,0));have hn':kO 65536 (pR (l,0))=n:=hn;have hz':kA 65536 (pR (l,0))=z:=hz;rw [hn',hz'] at wO;refine ao λK hK=>aA rfl λK3 bu=>er [ptr g] rfl wO (λw h _=>h.1) λ⟨A2,c2⟩=>dz [eF g A2 c2 z] rfl (aj rfl (Le 0 39 1 kg (Le 0 60 34 fN (ah (bu _ (a8 ?_))))));let Es:MW->aG:=λs=>[(5,.v (ptr g)),(6,.v (cj gt top.length top.length)),(9,.aT n),(7,.v (.slice s.X.1 s.vs.length s.X.2)),(8,.v (.slice s.Y.1 s.ss.length s.Y.2)),(2,.a 2 0)];let Ls:aH:=[⟨2,none,79,[.one (.v ak.empty.top)]⟩];let Ff:MW->aE:=λs w=>(eI w/\ar 1 aY (some ⟨gt,0,none⟩) top.length top w)/\(∀v∈s.vs,v.rd w)/\(∀q∈s.ss,q.rd w)/\ar 1 aY s.r.1 s.r.2 (db im z s.i).1 w;let Fs:MW->Env:=λs=>⟨Es s,Ls,[eF g s.r.1 s.r.2 (db im z s.i),jw s.X.1 s.X.2 s.vs,CQ s.Y.1 s.Y.2 s.ss],Ff s,λ_=>True⟩;have uy:∀s:MW,s.i<=n->wb z s.i s.vs s.ss->((db im z s.i).2≠0\/s.i=n)->∀e,gj e (Fs s)->cl b K 83 e:=by
  rintro⟨i,r,vs,X,ss,Y⟩ hi hP hor e hw;dsimp only at hi hP hor;obtain⟨sE,gS⟩:=hP.len;have aa:=aaL NL hi hor;have hR:ta l=db im z i:=by unfold ta;rw [hn,hz];exact aa
  refine ft hw (hK _ ?_);obtain⟨e0,Tg⟩:∃e0,kG (ta l)=e0:=⟨_,rfl⟩;have gA:=Qs g (A:=r.1) (c:=r.2) (db im z i);rw [<-hR,Tg] at gA;refine ao λK5 bN=>aA rfl λK4 bW=>dz [eF g r.1 r.2 (ta l),jw X.1 X.2 vs,CQ Y.1 Y.2 ss] (by rw [hR]) (er [ptr g] rfl gA aD λ_=>dz [eF g r.1 r.2 (ta l),jw X.1 X.2 vs,CQ Y.1 Y.2 ss] rfl (aj rfl (ah (bW _ (ag rfl ?_)))));refine bn ((e0:Int)≠0) rfl (λh1=>?_) (λh1=>?_)
  .have h1:e0≠0:=by omega
   have e3:jZ l=e0:=by unfold jZ;rw [Tg,if_neg h1]
   have e4:kS l=[]:=by unfold kS;rw [if_neg (by omega)]
   have e5:rk l = .empty:=by unfold rk;rw [if_neg (by omega)]
   refine ag rfl (aJ (lN 0 rfl (lN 0 rfl (lN 0 rfl ?_))));exact dk an (⟨[],by rw [e4];rfl⟩,none,0) rfl rfl (by show cM.t [gU (rk l),.c (.v (.slice none 0 0)),.c (.v (.int .i64 (jZ l:Int)))]=_;rw [e3,e5];rfl) rfl (λw _ _=>⟨ar.nil _ _ _,λ_ h=>by cases h⟩) au
  have h1:e0=0:=by omega
  have h0:kG (ta l)=0:=by rw [Tg,h1]
  have Zd:(ta l).2=0:=(Nz h0).1;obtain rfl:i=n:=hor.resolve_left λh=>h (by rw [<-hR];exact Zd);obtain⟨hPb,xU⟩:=wb.bare (b:=l) (by rw [hz,hn];exact hP) Zd;have hLn:(pn l).length=i:=by rw [akQ,hn]
  refine aR (bN _ ?_);have OE:=aEZ (A:=some ⟨gt,0,none⟩) (c:=top.length) top;have aq0:∀ee,ak.parse top = .error ee->jZ l=ee/\kS l=[]/\rk l = .empty/\ee≠0:=by
   intro ee qS;have b8:=Vh qS;have e3:jZ l=ee:=by
    have:yb (s9 l)=ee:=by unfold yb;rw [Oy,qS]
    unfold jZ;rw [if_pos h0,this,if_neg b8]
   exact⟨e3,by unfold kS;rw [if_neg (by omega)],by unfold rk;rw [if_neg (by omega)],b8⟩
  cases KE:ak.parse top with
  | error ee =>
   obtain⟨e3,e4,e5,b8⟩:=aq0 ee KE;rw [KE] at OE;refine aA rfl λK6 cr=>bY [cj gt top.length top.length] rfl OE (λw h _=>⟨h.2.1.2,h.2.1.1.sh⟩) λ_=>aj rfl (ah (cr _ (ao λK7 df=>ag rfl ?_)));refine bn ((ee:Int)≠0) rfl (λ_=>?_) (λh=>absurd h (by omega));refine ag rfl (aJ (lN 0 rfl (lN 0 rfl (lN 0 rfl ?_))));exact dk an (⟨[],by rw [e4];rfl⟩,none,0) rfl rfl (by show cM.t [gU (rk l),.c (.v (.slice none 0 0)),.c (.v (.int .i64 (jZ l:Int)))]=_;rw [e3,e5];rfl) rfl (λw _ _=>⟨ar.nil _ _ _,λ_ h=>by cases h⟩) au
  | ok W =>
   have Oo:yb (s9 l)=0:=by unfold yb;rw [Oy,KE]
   rw [KE] at OE;refine aA rfl λK6 cr=>bY [cj gt top.length top.length] rfl OE (λw h _=>⟨h.2.1.2,h.2.1.1.sh⟩) λ_=>aj rfl (ah (cr _ (ao λK7 df=>ag rfl (bn ((0:Int)≠0) rfl (λh=>absurd rfl h) (λ_=>aR (df _ (mQ 2 rfl (ao λK8 gw=>ag rfl (a8 ?_)))))))))
   let Gs:PqS->Env:=λs=>⟨[(62,.aT s.i),(61,.aT ss.length),(60,.v (.slice Y.1 ss.length Y.2)),(7,.v (.slice X.1 vs.length X.2)),(12,.a 12 0),(2,.a 2 0)],[⟨12,none,79,[.one (.v W.top)]⟩,⟨2,none,79,[.one (.v ak.empty.top)]⟩],[eF g r.1 r.2 (ta l),jw X.1 X.2 s.vs],λw=>(ar 1 kg Y.1 Y.2 ss w/\∀q∈ss,q.rd w)/\∀v∈s.vs,v.rd w,λ_=>True⟩
   refine cI (e':=Gs ⟨0,vs⟩) ⟨dB rfl, c8 rfl rfl, .refl _,λ_ h _=>⟨⟨h.1,h.2.2.2.2.2.1⟩,h.2.2.2.2.1⟩, au⟩ (cY (λs=>ss.length-s.i) Gs (λs=>s.i<=ss.length/\Ec (pn l) ss s.i s.vs) ?_ ⟨0,vs⟩ ⟨bl _,hPb⟩)
   rintro⟨j,ws⟩ ⟨hj,aF⟩
   dsimp only at hj aF
   have wR:ws.length=vs.length:=by have:=congrArg jQ aF.pl;simp only [dL,aV,du,k7] at this;omega
   refine ag rfl (ao λK9 l5=>?_);refine bn ((j:Int)<(ss.length:Int)) rfl (λal=>?_) (λcW=>?_)
   .have al:j<ss.length:=by omega
    obtain⟨sg,qf⟩:∃sg,ss[j]?=some sg:=⟨_,da al⟩;obtain⟨gd,kN⟩:∃gd,(pn l)[j]?=some gd:=⟨_,da (by omega)⟩;have Ow:sg.l=gd.more:=by have h2:=congrArg (λl=>l[j]?) xU;simp only [lC,qf,kN,Option.map_some] at h2;exact jm h2
    have mC:sg.l.length<=281474976710656:=by rw [Ow];unfold pn at kN;rw [lC] at kN;obtain⟨q,_,rfl⟩:=Option.map_eq_some_iff.1 kN;have:(nR (qM (db im (ui l) q))).length<=1048576:=fo (Gd _ _).1 (Im _ _);show(nR (qM (db im (ui l) q))).length<=_;omega
    obtain⟨v,ab,hvp⟩:=aF.at_ kN;have hwf:=(eY.1 ab).1;have ZS:=ar2 (A:=sg.A) (c:=sg.c) sg.l mC;obtain⟨us,ic⟩:∃us,mE sg.l=us:=⟨_,rfl⟩;obtain⟨ee,qS⟩:∃ee,ma sg.l=ee:=⟨_,rfl⟩;rw [ic,qS] at ZS;have aqJ:((pn l).map λg=>ma g.more)[j]?=some ee:=by rw [lC,kN,<-qS,Ow];rfl
    refine aR (l5 _ (ao λK10 nV=>a8 (aA rfl λK11 p8=>jh an rfl rfl rfl j rfl qf rfl rfl (dX λ_ h _=>h.1.1) (aj rfl (ah (p8 _ (QE 1 rfl (show 0<ws.length by omega) λgx hX=>aA rfl λK12 sl=>bY [.slice sg.A sg.l.length sg.c] rfl ZS (λw h _=>h.1.2 sg (eg qf)) λx=>aj rfl (b6 (.v (.pointer (some ⟨gx,0+34*j,none⟩))) rfl (lO j rfl DW rfl (by rw [<-hX];rfl) rfl (by omega)) (aj rfl (dz [eF g r.1 r.2 (ta l),jw (some ⟨gx,0,none⟩) X.2 ws] (by rw [<-hX];rfl) (OZ (q:=.c (.v (.slice x.1 us.length x.2))) 1 j 33 1 v ⟨v.id,v.fl,v.k,x.1,x.2,us⟩ rfl rfl rfl rfl (congrArg (λz:Nat=>some (aq.v (.pointer (some ⟨gx,z,none⟩)))) (show 0+34*j+33=34*j+33 by omega)) rfl ab (by kernel_rfl) rfl (λy hy=>by rw [bU.1 hy];rfl) (ap1 v x.1 x.2 us) (by decide) (yH _) (aj rfl (ah (sl _ (ag rfl ?_)))))))))))))));refine bn ((ee:Int)≠0) rfl (λh2=>?_) (λh2=>?_)
    .have h2:ee≠0:=by omega
     have e3:jZ l=ee:=by unfold jZ;rw [if_pos h0,if_pos Oo];exact YF aF.ok aqJ h2
     have e4:kS l=[]:=by unfold kS;rw [if_neg (by omega)]
     have e5:rk l = .empty:=by unfold rk;rw [if_neg (by omega)]
     refine ag rfl (aJ (lN 0 rfl (lN 0 rfl ?_)));exact dk an (⟨[],by rw [e4];rfl⟩,none,0) rfl rfl (by show cM.t [gU (rk l),.c (.v (.slice none 0 0)),.c (.v (.int .i64 (jZ l:Int)))]=_;rw [e3,e5];rfl) rfl (λw _ _=>⟨ar.nil _ _ _,λ_ h=>by cases h⟩) au
    have h2:ee=0:=by omega
    refine aR (nV _ (cE rfl ?_));refine cH ⟨j+1,ws.set j ⟨v.id,v.fl,v.k,x.1,x.2,us⟩⟩ ⟨al,aF.step kN (by rw [<-Ow,qS,h2]) ?_⟩ (by show ss.length-(j+1)<ss.length-j;omega) ⟨⟨rO j ss.length (by omega) al,rfl,rfl,rfl,rfl,rfl,trivial⟩,⟨rfl,rfl,rfl,rfl,trivial⟩,by show kR [_,jw (some ⟨gx,0,none⟩) X.2 _] [_,jw X.1 X.2 _];rw [hX],λw h _=>⟨h.2.1,λq hq=>?_⟩, au⟩
    .have a1:v.id=gd.id:=congrArg cZ.id hvp;have a2:v.k.l=gd.keys:=congrArg cZ.keys hvp;show(⟨v.id,v.k.l,us⟩:cZ)=⟨gd.id,gd.keys,mE gd.more⟩;rw [a1,a2,<-ic,Ow]
    .rcases List.mem_or_eq_of_mem_set hq with hq|rfl
     .exact h.2.2 q hq
     .exact⟨(h.2.2 v (eg ab)).1,h.1⟩
   obtain rfl:ss.length=j:=by omega
   have iP:∀e∈(pn l).map λg=>ma g.more,e=0:=λe he=>by obtain⟨j,hj⟩:=Dq he;have al:=(eY.1 hj).1;rw [dL] at al;have:=aF.ok j (by omega);rw [hj] at this;exact jm this
   have e3:jZ l=0:=by unfold jZ;rw [if_pos h0,if_pos Oo];exact YE iP
   have e4:kS l=ws.map cD.pl:=by unfold kS;rw [if_pos e3,aF.pl,kE (by omega),um (by omega),List.map_nil,fj];rfl
   have e5:rk l=W:=by unfold rk;rw [if_pos e3,Oy,KE]
   refine cG (a6 (a6 (cF (lN 0 rfl (gw _ (mQ 0 rfl (ag rfl (aJ (ft (e':=⟨[(3,.v (.slice X.1 ws.length X.2)),(4,.v (.int .i64 0)),(2,.a 2 0)],[⟨2,none,79,[.one (.v W.top)]⟩],[],λw=>ar 34 fN X.1 X.2 ws w/\∀v∈ws,v.rd w,λ_=>True⟩) ⟨⟨by rw [wR];rfl,rfl,rfl,trivial⟩,⟨rfl,rfl,trivial⟩,.refl _,λ_ h _=>⟨h.1,h.2.2⟩, au⟩ ?_)))))))));exact dk an (⟨ws,e4.symm⟩,X) rfl rfl (by show cM.t [gU (rk l),.c (.v (.slice X.1 ws.length X.2)),.c (.v (.int .i64 (jZ l:Int)))]=_;rw [e3,e5];rfl) rfl (λw h _=>h) au
 refine cI (e':=Fs ⟨0,(A2,c2),[],(none,0),[],(none,0)⟩) ⟨dB rfl, ⟨rfl,rfl,trivial⟩,?_,λ_ h hM=>⟨⟨h.2.2.2.1,hM.2.1⟩,λ_ h=>(by cases h),λ_ h=>(by cases h),h.1⟩, au⟩ (cY (λs=>n-s.i) Fs (λs=>s.i<=n/\wb z s.i s.vs s.ss) ?_ ⟨0,(A2,c2),[],(none,0),[],(none,0)⟩ ⟨bl _,wb.zero z⟩)
 .exact List.perm_append_comm (l₁:=[_,_]) (l₂:=[_])
 rintro⟨i,r,vs,X,ss,Y⟩ ⟨hi,hP⟩;dsimp only at hi hP;obtain⟨sE,gS⟩:=hP.len;have h11:=OM (f:=im) (λ_ h=>aoY h) arV i;refine ao λK5 bN=>aA rfl λK6 cr=>?_;by_cases al:¬i<n
 .refine pd 26 false rfl (decide_eq_false (show ¬(vs.length:Int)<(n:Int) by omega)) ?_;refine aj rfl (ah (cr _ (dY rfl (cG (a6 (a6 (cF ?_)))))));exact uy ⟨i,r,vs,X,ss,Y⟩ hi hP (.inr (by show i=n;omega)) _ (hv rfl rfl rfl)
 have hlt':i<n:=by omega
 refine pd 26 true rfl (decide_eq_true (show(vs.length:Int)<(n:Int) by omega)) (aj rfl ?_);obtain⟨s,hs⟩:∃s,db im z i=s:=⟨_,rfl⟩;have E6:db im z (i+1)=pR (qM s):=by rw [<-hs];rfl
 rw [hs] at h11;refine dz [eF g r.1 r.2 s,jw X.1 X.2 vs,CQ Y.1 Y.2 ss] (by rw [<-hs]) (er [ptr g] rfl (YY g (A:=r.1) (c:=r.2) h11) aD λ_=>dz [eF g r.1 r.2 s,jw X.1 X.2 vs,CQ Y.1 Y.2 ss] rfl (aj rfl (ah (cr _ ?_))));refine bn (s.2=0) rfl (λh0=>?_) (λh0=>?_)
 .refine aR (bN _ ?_)
  have hh:=ED s;have KI:=Qr g (A:=r.1) (c:=r.2) s;obtain⟨h1,xL⟩:∃h1,lh s=h1:=⟨_,rfl⟩;rw [xL] at hh KI;refine a8 (aA rfl λK7 df=>er [ptr g] rfl KI (λw h _=>by rw [<-hs];exact h.2.2.2.2) λ⟨A3,c3⟩=>dz [eF g A3 c3 (dM s),jw X.1 X.2 vs,CQ Y.1 Y.2 ss] rfl (aj rfl (ah (df _ (aA rfl λK8 gw=>er [ptr g] rfl (akN g (A:=A3) (c:=c3) (dM s) (IV h11)) (λw h _=>h.1) λ⟨⟨k,hk⟩,⟨A4,c4⟩,A5,c5⟩=>dz [eF g A4 c4 (qM s),jw X.1 X.2 vs,CQ Y.1 Y.2 ss] rfl (aj rfl (ah (gw _ ?_))))))));have hk:(qM s).2=0->k=yP s:=hk;refine aA rfl λK9 l5=>lq an 1 (⟨h1,hh,⟨A5,c5,nr (qN s) k⟩,none,0,[]⟩:cD) (fe:=fN) rfl rfl rfl rfl rfl rfl rfl (yH _) (by rw [sE];show(i+1)*80<=_;omega) (by omega) (bl _) λB1 b1=>aj rfl (ah (l5 _ (ef (aj rfl ?_))));have KH:=aeJ g (A:=A4) (c:=c4) (qM s);rw [<-E6] at KH;obtain⟨bs,vq⟩:∃bs,nR (qM s)=bs:=⟨_,rfl⟩;rw [vq] at KH;refine er [ptr g] rfl KH (λw h _=>h.1.2) λ⟨gs,A6,c6⟩=>dz [eF g A6 c6 (db im z (i+1)),jw B1 b1 (vs++[⟨h1,hh,⟨A5,c5,nr (qN s) k⟩,none,0,[]⟩]),CQ Y.1 Y.2 ss] rfl (lq an 2 (⟨some ⟨gs,0,none⟩,bs.length,bs⟩:cC) (fe:=kg) rfl rfl rfl rfl rfl rfl rfl (JI _) (by rw [gS];show(i+1)*24<=_;omega) (by omega) (bl _) λB2 b2=>aj rfl (ah ?_));refine cH ⟨i+1,(A6,c6),vs++[⟨h1,hh,⟨A5,c5,nr (qN s) k⟩,none,0,[]⟩],(B1,b1),ss++[⟨some ⟨gs,0,none⟩,bs.length,bs⟩],(B2,b2)⟩ ⟨hlt',hP.next (by rw [hs];exact xL.symm) (by rw [hs];exact λh=>congrArg (nr (qN s)) (hk h)) rfl (by rw [hs];exact vq.symm)⟩ (by show n-(i+1)<n-i;omega) ⟨dB rfl, c8 rfl rfl, .refl _,λw h hM=>?_, au⟩;refine⟨h.2.2.2.2.1,λv ab=>?_,λq hq=>?_,h.1⟩
  .rcases iA.1 ab with ab|ab
   .exact h.2.2.2.2.2.1 v ab
   .rw [bU.1 ab];exact⟨h.2.1.1,ar.nil _ _ _⟩
  .rcases iA.1 hq with hq|hq
   .exact h.2.2.2.2.2.2.1 q hq
   .rw [bU.1 hq];exact hM.1
 .refine cG (a6 (a6 (cF ?_)));exact uy ⟨i,r,vs,X,ss,Y⟩ hi hP (.inl (by show(db im z i).2≠0;rw [hs];exact h0)) _ ⟨dB rfl, ⟨rfl,rfl,trivial⟩,by show kR _ [eF g r.1 r.2 (db im z i),_,_];rw [hs],λ_ h _=>h.2, au⟩
noncomputable def Db(W:ak)(g:cZ):Nat :=
  if (ak.tell g.id (ak.find g.id 0 W)).2.2=true then 100
  else if (ak.tell g.id (ak.find g.id 0 W)).2.1≠decide (g.keys≠[])\/((ak.tell g.id (ak.find g.id 0 W)).2.1=true/\(ak.tell g.id (ak.find g.id 0 W)).1≠jF g.keys) then 130
  else u5 g.id g.keys g.more
theorem Wy{id:ae}:∀{us:cS} {ks:aX} {i e:Nat} {u:UV},us[i]?=some u->(∀(j:Nat) (v:UV),j<i->us[j]?=some v->v.id=id/\eV v=true/\v.ver=(ks.length:Int)+(j:Int)+1) ->
  (if u.id≠id\/eV u=false then 110 else if u.ver≠(ks.length:Int)+(i:Int)+1 then 111 else 0)=e->e≠0->u5 id ks us=e
 | [],_,_,_,_,h,_,_,_=>by simp at h
 | v::us,ks,0,e,u,h,_,he,h0=>by
  obtain rfl:v=u:=by simpa using h
  unfold u5;by_cases c:v.id≠id\/eV v=false
  .rw [if_pos c] at he ⊢;exact he
  .rw [if_neg c] at he ⊢
   by_cases c2:v.ver≠(ks.length:Int)+1
   .rw [if_pos c2];rw [if_pos (by simpa using c2)] at he;exact he
   .rw [if_neg (by simpa using c2)] at he;exact absurd he.symm h0
 | v::us,ks,i+1,e,u,h,hp,he,h0=>by
  obtain⟨g1,g2,g3⟩:=hp 0 v (vQ _) rfl;unfold u5;rw [if_neg (by rw [g2];simp [g1]),if_neg (by rw [g3];simp)];have hl:((ks++[v.key]).length:Int)=(ks.length:Int)+1:=by simp
  refine Wy (us:=us) (i:=i) (u:=u) (by simpa using h) (λj x hj hx=>?_) ?_ h0
  .obtain⟨x1,x2,x3⟩:=hp (j+1) x (Nat.succ_lt_succ hj) (by simpa using hx);refine⟨x1,x2,?_⟩;rw [x3,hl];omega
  .rw [hl];rw [show(ks.length:Int)+1+(i:Int)+1=(ks.length:Int)+((i+1:Nat):Int)+1 by omega];exact he
abbrev Hf(ks:aX)(us:cS):aX:=ks++us.map (·.key)
def aqF{ks:aX}{us:cS}{i:Nat}{u:UV}(h:us[i]?=some u):Hf ks (us.take (i+1))=Hf ks (us.take i)++[u.key]:=by unfold Hf;rw [qw,h,jl,<-ei];rfl
noncomputable def Ey(W:ak)(g:cZ):cM:=.t [gU (if Db W g=0 then ak.put g.pair 0 W else .empty),.c (.v (.int .i64 (Db W g:Int)))]
def JW{W:ak}{g:cZ}{e:Nat}(h:Db W g=e)(h0:e≠0):Ey W g = .t [gU .empty,.c (.v (.int .i64 (e:Int)))]:=by unfold Ey;rw [h,if_neg h0]
structure GwS where
  i:Nat
  k:fv
theorem akM{W:ak}(hr:W.jj [])(g:cD)(ic:∀u∈g.more,u.aI)(hl:g.k.l.length+g.more.length<=1000):Spec 38 [(gU W).den,(fN g).den] [] (λw=>eI w/\g.rd w) (one (Ey W g.pl)):=by
 refine bA [gU W,fN g] 75 func38 rfl (ab:=dZ (DS W) g.ig) λb=>ag rfl ?_;have Ko:=aES g.fl W hr;obtain⟨tl,qg⟩:∃tl,ak.tell g.id (ak.find g.id 0 W)=tl:=⟨_,rfl⟩;have aa9:tl.1.length=32:=by rw [<-qg];exact ak.QV hr.dn
 have Ax:=TX (A:=g.k.A) (c:=g.k.c) g.k.l;have KP:(jF g.k.l).length=32:=yG _;have hE:Db W g.pl=if tl.2.2=true then 100 else if tl.2.1≠decide (g.k.l≠[])\/(tl.2.1=true/\tl.1≠jF g.k.l) then 130 else u5 g.id g.k.l g.more:=by unfold Db;dsimp only;rw [qg]
 rw [qg] at Ko;obtain⟨tv,tt,tu⟩:=tl;dsimp only at aa9 hE;cases tu with
 | true =>
  refine aA rfl λK4 bW=>bY [(gU W).den,(aw 32 g.id).den] rfl Ko aD λ_=>aj rfl (ah (bW _ (ao λK5 bN=>ag rfl ?_)));refine bn ((100:Int)≠0) rfl (λ_=>?_) (λh=>absurd (by decide) h);refine ag rfl ?_;exact aJ (dk an () rfl rfl (JW (e:=100) (by rw [hE];rfl) (by decide)) rfl aD au)
 | false =>
  obtain⟨va,KQ⟩:∃va,jF g.k.l=va:=⟨_,rfl⟩;rw [KQ] at Ax KP hE;refine aA rfl λK4 bW=>bY [(gU W).den,(aw 32 g.id).den] rfl Ko aD λ_=>aj rfl (ah (bW _ (ao λK5 bN=>ag rfl (bn ((0:Int)≠0) rfl (λh=>absurd rfl h) λ_=>aR (bN _ (ao λK6 cr=>?_))))))
  have At:decide ((g.k.l.length:Int)>0)=decide (g.k.l≠[]):=by
   rw [decide_eq_decide];cases g.k.l with
   | nil=>simp
   | cons=>simp
  have yT:((tt≠decide (g.k.l≠[]))\/(tt=true/\tv≠va))->Db W g.pl=130:=λh=>by rw [hE,if_neg (by decide),if_pos h]
  have uz:(tt=decide (g.k.l≠[]))->(tt=true->tv=va)->∀e,gj e ⟨[(2,.a 2 0),(3,.a 3 0),(4,.a 4 0)],[⟨4,none,79,[.one (.v ak.empty.top)]⟩,⟨3,none,60,g.parts⟩,⟨2,none,79,[.one (.v W.top)]⟩],[],λw=>eI w/\g.rd w,λ_=>True⟩->cl b K6 75 e:=by
   intro hg1 sr e hw;refine ft hw (cr _ ?_);have SA:Db W g.pl=u5 g.id g.k.l g.more:=by
    rw [hE,if_neg (by decide),if_neg];rintro(h|h)
    .exact h hg1
    .exact h.2 (sr h.1)
   refine ag rfl (ao λK8 gw=>ag rfl (a8 ?_));let Ls:aH:=[⟨4,none,79,[.one (.v ak.empty.top)]⟩,⟨3,none,60,g.parts⟩,⟨2,none,79,[.one (.v W.top)]⟩];let Fs:GwS->Env:=λs=>⟨[(46,.aT s.i),(45,.aT g.more.length),(44,.v (.slice g.U g.more.length g.u)),(9,.v (.slice s.k.A s.k.l.length s.k.c)),(2,.a 2 0),(3,.a 3 0),(4,.a 4 0)],Ls,[],λw=>(eI w/\g.rd w)/\s.k.rd w,λ_=>True⟩;refine cI (e':=Fs ⟨0,g.k⟩) ⟨dB rfl, c8 rfl rfl, .refl _,λ_ h _=>⟨h,h.2.1⟩, au⟩ (cY (λs=>g.more.length-s.i) Fs (λs=>s.i<=g.more.length/\s.k.l=Hf g.k.l (g.more.take s.i)/\∀(j:Nat) (v:UV),j<s.i->g.more[j]?=some v->v.id=g.id/\eV v=true/\v.ver=(g.k.l.length:Int)+(j:Int)+1) ?_ ⟨0,g.k⟩ ⟨bl _,by simp [Hf],λ_ _ h=>absurd h (Ds _)⟩);rintro⟨i,k⟩ ⟨hi,fI,iP⟩;dsimp only at hi fI iP;have aI7:k.l.length=g.k.l.length+i:=by rw [fI];simp only [Hf,aV,dL,du];omega
   refine ag rfl (ao λK9 l5=>?_);refine bn ((i:Int)<(g.more.length:Int)) rfl (λal=>?_) (λcW=>?_)
   .have al:i<g.more.length:=by omega
    obtain⟨u,hu⟩:∃u,g.more[i]?=some u:=⟨_,da al⟩;have fT:=ic u (eg hu);refine aR (l5 _ (ao λK10 nV=>a8 (aA rfl λK11 p8=>jh an rfl rfl rfl i rfl hu rfl rfl (dX λ_ h _=>h.1.2.2) (aj rfl (ah (p8 _ (ao λK12 sl=>aA rfl λK13 wJ=>b6 (.b (!decide (u.id=g.id))) rfl (F7 rfl rfl rfl dp (by kernel_rfl) fT.id g.fl) (ah (wJ _ ?_)))))))));refine pD (!decide (u.id=g.id)) rfl (λhid=>?_) (λhid=>?_)
    .have hid:u.id≠g.id:=by simpa using hid
     have h110:u5 g.id g.k.l g.more=110:=Wy hu iP (by rw [if_pos (.inl hid)]) (by decide);refine ag rfl ?_;exact aJ (dk an () rfl rfl (JW (SA.trans h110) (by decide)) rfl aD au)
    have hid:u.id=g.id:=by simpa using hid
    refine aR (sl _ ?_);obtain⟨ee,qS⟩:∃ee,q9 k.l u=ee:=⟨_,rfl⟩;obtain⟨ev,wM⟩:∃ev,rf k.l u=ev:=⟨_,rfl⟩;have jB:=Z9 (A:=k.A) (c:=k.c) qS wM fT (by omega);have hvr:((k.l.length:Int)+1)=(g.k.l.length:Int)+(i:Int)+1:=by omega
    refine aA rfl λK14 xJ=>bY [.slice k.A k.l.length k.c,(dT u).den] rfl jB (λ_ h _=>⟨h.1.1,h.2⟩) λ⟨X,c2⟩=>aj rfl (ah (xJ _ (ag rfl ?_)));refine bn ((ee:Int)≠0) rfl (λh0=>?_) (λh0=>?_)
    .have h0:ee≠0:=by omega
     have he:u5 g.id g.k.l g.more=ee:=Wy hu iP (by
      rw [<-qS];unfold q9;rw [hvr];by_cases hs:eV u=true
      .rw [if_neg (by simp [hid,hs]),if_pos hs]
       by_cases ab:u.ver=(g.k.l.length:Int)+(i:Int)+1
       .rw [if_neg (by simp [ab]),if_pos ab]
       .rw [if_pos ab,if_neg ab]
      .rw [if_pos (.inr (by simpa using hs)),if_neg hs]) h0
     refine ag rfl ?_;exact aJ (dk an () rfl rfl (JW (SA.trans he) h0) rfl aD au)
    have h0:q9 k.l u=0:=by omega
    have hnz:=UT.1 h0;have iD:ev=k.l++[u.key]:=by rw [<-wM];unfold rf;rw [if_pos h0]
    refine aR (nV _ (cE rfl ?_));refine cH ⟨i+1,⟨X,c2,ev⟩⟩ ⟨al,?_,λj v hj ab=>?_⟩ (by show g.more.length-(i+1)<g.more.length-i;omega) ⟨⟨rO i g.more.length (by omega) al,rfl,rfl,rfl,rfl,rfl,rfl,trivial⟩,c8 rfl rfl, .refl _,λ_ h _=>⟨h.2.1,h.1⟩, au⟩
    .show ev=_;rw [iD,fI,aqF hu]
    .rcases uV.1 hj with hj|rfl
     .exact iP j v hj ab
     .rw [hu] at ab;injection ab with ab;subst ab;exact⟨hid,hnz.1,by rw [hnz.2];omega⟩
   obtain rfl:g.more.length=i:=by omega
   rw [kW] at fI;have hz:u5 g.id g.k.l g.more=0:=Wz λj v hj=>iP j v (eY.1 hj).1 hj;refine cG (a6 (a6 (cF (gw _ ?_))));have tz:=TX (A:=k.A) (c:=k.c) k.l;have E8:(jF k.l).length=32:=yG _;have ix:=aF0 (p:=(g.id,jF k.l)) ⟨g.fl,E8⟩ W hr;have arO:ak.tW g.id 0 W=false:=by unfold ak.tW;rw [qg]
   rw [arO] at ix;have ZK:Ey W g.pl = .t [gU (ak.put (g.id,jF k.l) 0 W),.c (.v (.int .i64 0))]:=by unfold Ey;rw [SA,hz,if_pos rfl,fI];rfl
   obtain⟨kV,hW2⟩:∃kV,ak.put (g.id,jF k.l) 0 W=kV:=⟨_,rfl⟩;rw [hW2] at ix ZK;obtain⟨v2,arQ⟩:∃v2,jF k.l=v2:=⟨_,rfl⟩;rw [arQ] at ix tz E8;refine nw 8 λK7 df G S w0 aa=>?_;refine dC aa rfl (vp (F':=λw=>eI w/\ar 32 (aw 32) k.A k.c k.l w) (r:=.q (aw 32 v2)) aa [.slice k.A k.l.length k.c] rfl rfl rfl rfl (λ_=>rfl) (cq E8).1 tz (λ_ _ _ h=>⟨h.fact.1.1,h.fact.2⟩) (dC aa rfl (vp (F':=fV) (r:=.t [gU kV,.c (.v (.int .i64 0))]) aa [(gU W).den,(aw 32 g.id).den,(aw 32 v2).den] rfl rfl rfl rfl (λ_=>rfl) (dZ (DS kV) trivial) ix (λ_ _ _ h=>h.fact.1.1.sh) (dC aa rfl (jR aa (aj rfl (ah (df _ ?_))))))));exact aJ (dk an () rfl rfl ZK rfl aD au)
  refine nw 16 λK7 df G S w0 aa=>?_;refine dC aa rfl (ni aa (.b (!(tt==decide ((g.k.l.length:Int)>0)))) rfl rfl (VS rfl rfl rfl (λ_=>rfl) (λ_=>rfl)) ?_)
  by_cases h1:tt=decide (g.k.l≠[])
  .refine qO 29 false rfl (by rw [At,<-h1];simp) ?_
   refine dC aa rfl ?_;cases tt with
   | false =>
    refine dC aa rfl (jR aa (ah (df _ (dY rfl ?_))));exact aR (uz h1 (λh=>by cases h) _ (fC rfl rfl rfl λ_ h _=>h.2))
   | true =>
    refine vp (F':=λw=>eI w/\ar 32 (aw 32) g.k.A g.k.c g.k.l w) (r:=.q (aw 32 va)) aa [.slice g.k.A g.k.l.length g.k.c] rfl rfl rfl rfl (λ_=>rfl) (cq KP).1 Ax (λ_ _ _ h=>⟨h.fact.2.1,h.fact.2.2.1⟩) (dC aa rfl (ni aa (.b (!decide (tv=va))) rfl rfl (F7 rfl rfl rfl dp (by kernel_rfl) aa9 KP) ?_))
    by_cases h2:tv=va
    .refine qO 37 false rfl (by simp [h2]) ?_;refine dC aa rfl (jR aa (ah (df _ (dY rfl ?_))));exact aR (uz h1 (λ_=>h2) _ (fC rfl rfl rfl λ_ h _=>h.2))
    .refine qO 37 true rfl (by simp [h2]) ?_;refine dC aa rfl (jR aa (ah (df _ (ir rfl (ag rfl ?_)))));exact aJ (dk an () rfl rfl (JW (yT (.inr ⟨rfl,h2⟩)) (by decide)) rfl aD au)
  .refine qO 29 true rfl (by rw [At];revert h1;cases tt<;>cases decide (g.k.l≠[])<;>simp) ?_;refine dC aa rfl (YV (b:=b) rfl (J7 (Fa:=[]) an aa rfl (jR aa (ah (df _ (ir rfl (ag rfl ?_)))))));exact aJ (dk an () rfl rfl (JW (yT (.inl h1)) (by decide)) rfl aD au)
def PR:Own 10:=λ_ _=>by go_simp
def ar0{b:ae}:∀u∈mE b,u.aI:=λu hu=>by
 unfold mE at hu;split at hu
 .unfold u6 at hu;obtain⟨i,_,rfl⟩:=dv.1 hu;exact ahV _
 .cases hu
def agW{b:ae}{g:cZ}(hg:g∈kS b):∀u∈g.more,u.aI:=λu hu=>by
 unfold kS at hg;split at hg
 .obtain⟨q,_,rfl⟩:=dv.1 hg;exact ar0 u hu
 .cases hg
theorem ND:∀{l:aX},(∀k∈l,k.length=32)->l.flatten.length=32*l.length
 | [],_=>rfl
 | k::l,h=>by rw [wE,aV,h k (.head _),ND λx hx=>h x (.tail _ hx),fL];omega
theorem aeG:∀{gs:List cZ} {g:cZ},g∈gs->g.raw.bytes.length<=(gs.map λg=>g.raw.bytes).flatten.length
 | x::gs,g,h=>by
  rw [eZ,wE,aV];rcases bT.1 h with rfl|h
  .omega
  .have:=aeG h;omega
def aC7{b:ae}{g:cZ}(hg:g∈kS b):∀k∈g.keys,k.length=32:=by
 unfold kS at hg;split at hg
 .obtain⟨q,hq,rfl⟩:=dv.1 hg;unfold pn at hq;obtain⟨j,_,rfl⟩:=dv.1 hq;exact asM _ _
 .cases hg
def aC8{b:ae}(h:jZ b=0){g:cZ}(hg:g∈kS b):32*g.keys.length+136*g.more.length<=b.length:=by
 have h1:=congrArg jQ (aCA h);have h2:=ND (aC7 hg);have h3:=Ej (agW hg);have h4:=aeG hg;have h5:g.raw.bytes.length=g.id.length+8+g.keys.flatten.length+8+(fk g.more).length:=by unfold oJ.bytes;simp only [aV,nQ];omega
 obtain⟨gs,vw⟩:∃gs,kS b=gs:=⟨_,rfl⟩;rw [vw] at h1 h4;rw [V8] at h1;omega
def axI{p:ae}{w:ak}(h:ak.parse p = .ok w):w.jj []:=(ak.axG h).1
def aC9{b:ae}{W:ak}(hW:rk b=W)(h:jZ b=0):W.jj []:=by have h1:=agY h;rw [hW] at h1;exact axI h1
def au0{f t b:ae}{e:Nat}(h:jZ b=e)(h0:e≠0):mI f t b=e:=by unfold mI;rw [h,if_neg h0]
def atZ{f t b:ae}(h:jZ b=0):mI f t b=if (rk b).root=f then xu t (rk b) none (kS b) else 130:=by unfold mI;rw [if_pos h,agY h]
def ap0{g o c j:Nat}{vs:fJ}{v:cD}{w:yp}(h:ar 34 fN (some ⟨g,o,none⟩) c vs w)(hj:vs[j]?=some v):ar 1 aY (some ⟨g,o+34*j,none⟩) 32 v.id w:=by
 obtain⟨g',o',e,al,hr⟩:=h.2.2.2.2 (nc (bl _) (eY.1 hj).1);injection e with e;injection e with e1 e2;subst e1 e2;have h1:=hr j v hj;refine⟨by rw [v.fl];exact aQ _,by decide,λh=>(by cases h),mK _,λ_=>⟨g,_,rfl,al,λi x hi q y hq=>?_⟩⟩;have hq0:q=0:=by have:=(eY.1 hq).1;have e:(aY x).cp.length=1:=(Eo x).2;omega
 subst hq0;have To:i<32:=by rw [<-v.fl];exact(eY.1 hi).1
 have e2:y = .int .u8 (x.toNat:Int):=(jm ((show(aY x).cp[0]?=some (.int .u8 (x.toNat:Int)) from rfl).symm.trans hq)).symm;have h2:=h1 i (.int .u8 (x.toNat:Int)) (by rw [Sx,uk (by rw [dH,v.fl];exact To)];simp [By,hi]);rw [e2,Nat.one_mul,jP];exact h2
structure CkS where
  i:Nat
  W:ak
def zM(gs:List cZ)(i:Nat):Option ae:=if i=0 then none else(gs[i-1]?).map cZ.id
def aiI{gs:List cZ}{i:Nat}{g:cZ}(h:gs[i]?=some g):zM gs (i+1)=some g.id:=by unfold zM;rw [if_neg (Nat.succ_ne_zero i),Nat.add_sub_cancel,h];rfl
def M4{f t:ae}(hf:f.length=32)(ht:t.length=32){A:aO}{c:Nat}(l:ae)(hl:l.length<=30000):Spec 10 [(aw 32 f).den,(aw 32 t).den,.slice A l.length c] [] (λw=>eI w/\ar 1 aY A c l w) (one (.v (.int .i64 (mI f t l:Int)))):=by
 refine bA [aw 32 f,aw 32 t,.c (.v (.slice A l.length c))] 66 func10 rfl (ab:=uP (cq hf).1 (dZ (cq ht).1 trivial)) λb=>ag rfl ?_;have hp:=akR (A:=A) (c:=c) l (by omega);have yT:=λe=>au0 (f:=f) (t:=t) (b:=l) (e:=e);have y5:=atZ (f:=f) (t:=t) (b:=l);have ZN:=λg=>agW (b:=l) (g:=g);have Kq:=λh g=>aC8 (b:=l) h (g:=g);unfold agX at hp;obtain⟨R,hR⟩:∃R,mI f t l=R:=⟨_,rfl⟩;obtain⟨W,hW⟩:∃W,rk l=W:=⟨_,rfl⟩;have uw:=aC9 hW;obtain⟨e,he⟩:∃e,jZ l=e:=⟨_,rfl⟩;obtain⟨gs,vw⟩:∃gs,kS l=gs:=⟨_,rfl⟩;rw [hR];rw [hR] at y5 yT;rw [hW] at hp y5;rw [he] at hp y5 uw yT Kq;rw [vw] at y5 ZN Kq;refine aA rfl λK1 aS=>bY [.slice A l.length c] rfl hp (λ_ h _=>h) λ⟨⟨vs,vD⟩,X⟩=>?_;rw [vw] at vD;refine aj rfl (ah (aS _ (ao λK2 aM=>ag rfl ?_)));refine bn ((e:Int)≠0) rfl (λh0=>?_) (λh0=>?_)
 .refine ag rfl ?_;exact aJ (dk an () rfl rfl (by rw [yT e rfl (by omega)];rfl) rfl aD au)
 obtain rfl:e=0:=by omega
 have uw:=uw rfl;have y5:=y5 rfl;have Kq:=Kq rfl;refine aR (aM _ (ao λK3 bu=>?_));refine nw 4 λK4 bW G S w0 aa=>?_;refine dC aa rfl (vp (F':=λ_=>True) (r:=.q (aw 32 W.root)) aa [(gU W).den] rfl rfl rfl rfl (λ_=>rfl) (cq (ak.uS uw)).1 (ai7 uw.dn) (λ_ _ _ _=>trivial) (dC aa rfl (ni aa (.b (!decide (W.root=f))) rfl rfl (F7 rfl rfl rfl dp (by kernel_rfl) (ak.uS uw) hf) (jR aa (ah (bW _ ?_))))));refine pD (!decide (W.root=f)) rfl (λqe=>?_) (λqe=>?_)
 .have qe:W.root≠f:=by simpa using qe
  rw [if_neg qe] at y5;refine ag rfl ?_;exact aJ (dk an () rfl rfl (by rw [y5];rfl) rfl aD au)
 have qe:W.root=f:=by simpa using qe
 rw [if_pos qe] at y5;refine aR (bu _ (ao λK5 bN=>ag rfl (a8 ?_)));let Ls:ak->aH:=λW=>[⟨7,none,79,[.one (.v W.top)]⟩,⟨4,none,47,[.agg 32 (By t).toArray]⟩];let Fs:CkS->Env:=λs=>⟨[(27,.aT s.i),(26,.aT vs.length),(25,.v (.slice X.1 vs.length X.2)),(8,.v (.slice X.1 vs.length X.2)),(7,.a 7 0),(4,.a 4 0)],Ls s.W,[],λw=>eI w/\ar 34 fN X.1 X.2 vs w/\∀g∈vs,g.rd w,λ_=>True⟩;refine cI (e':=Fs ⟨0,W⟩) ⟨dB rfl, c8 rfl rfl, .refl _,λ_ h _=>⟨h.2.1,h.1⟩, au⟩ (cY (λs=>vs.length-s.i) Fs (λs=>s.i<=vs.length/\s.W.jj []/\R=xu t s.W (zM gs s.i) (gs.drop s.i)) ?_ ⟨0,W⟩ ⟨bl _,uw,y5⟩);clear y5 qe uw yT;rintro⟨i,W⟩ ⟨hi,uw,fX⟩;dsimp only at hi uw fX;refine ag rfl (ao λK6 cr=>?_);refine bn ((i:Int)<(vs.length:Int)) rfl (λal=>?_) (λcW=>?_)
 .have al:i<vs.length:=by omega
  obtain⟨v,ab⟩:∃v,vs[i]?=some v:=⟨_,da al⟩;have Hd:gs[i]?=some v.pl:=by rw [<-vD,lC,ab];rfl
  have Dl:v.pl∈gs:=eg Hd;have lj:gs.drop i=v.pl::gs.drop (i+1):=by have h1:=(eY.1 Hd).1;rw [z9 h1,(eY.1 Hd).2]
  rw [lj] at fX;obtain⟨ee,qS⟩:∃ee,Db W v.pl=ee:=⟨_,rfl⟩;have fX:R=if (if Bb (zM gs i) v.id=false\/v.more=[] then 81 else ee)=0 then xu t (ak.put v.pl.pair 0 W) (some v.id) (gs.drop (i+1)) else(if Bb (zM gs i) v.id=false\/v.more=[] then 81 else ee):=by rw [fX,<-qS];rfl
  have lH:=Kq v.pl Dl;have lH:32*v.k.l.length+136*v.more.length<=l.length:=lH;have oc:=akM uw v (λu hu=>ZN v.pl Dl u hu) (by omega);refine aR (cr _ (ao λK10 nV=>a8 ?_));refine lQ (vs.length<=9223372036854775807/\∃g o,X.1=some ⟨g,o,none⟩) (λw h _=>⟨fo h.2.1.1 h.2.1.2.1,by obtain⟨g,o,e,_⟩:=h.2.1.2.2.2.2 (by omega);exact⟨g,o,e⟩⟩) λ⟨sE,gx,ox,hX⟩=>?_;refine aA rfl λK11 p8=>jh an rfl rfl rfl i rfl ab rfl rfl (dX λ_ h _=>h.2.1) (aj rfl (ah (rL 11 rfl (E':=[(10,.aT i),(27,.aT i),(26,.aT vs.length),(25,.v (.slice X.1 vs.length X.2)),(8,.v (.slice X.1 vs.length X.2)),(7,.a 7 0),(4,.a 4 0)]) ⟨rfl,rfl,rfl,rfl,rfl,rfl,rfl,trivial⟩ λg11=>KW 0 rfl (p8 _ ?_))));let Es:aG:=[(11,.v (eE g11)),(10,.aT i),(27,.aT i),(26,.aT vs.length),(25,.v (.slice X.1 vs.length X.2)),(8,.v (.slice X.1 vs.length X.2)),(7,.a 7 0),(4,.a 4 0)];let Ff:aE:=λw=>ij g11 60 v.parts w/\eI w/\ar 34 fN X.1 X.2 vs w/\∀g∈vs,g.rd w;refine ao λK12 sl=>?_;have yT:Bb (zM gs i) v.id=false\/v.more=[]->R=81:=λh=>by rw [fX,if_pos h,if_neg (by decide)]
  have uz:¬(Bb (zM gs i) v.id=false\/v.more=[])->∀e,gj e ⟨Es,Ls W,[],Ff,λ_=>True⟩->cl b K12 66 e:=by
   intro hn e hw;rw [if_neg hn] at fX;refine ft hw (sl _ ?_);obtain⟨P2,Ez⟩:∃P2,(if ee=0 then ak.put v.pl.pair 0 W else .empty)=P2:=⟨_,rfl⟩;have hgR:Ey W v.pl = .t [gU P2,.c (.v (.int .i64 (ee:Int)))]:=by unfold Ey;rw [qS,Ez]
   rw [hgR] at oc;refine aA rfl λK13 wJ=>gE rfl (kP λ_ h _=>h.1) (aj rfl (bY [(gU W).den,(fN v).den] rfl oc (λ_ h _=>⟨h.2.1,h.2.2.2 v (eg ab)⟩) λ_=>aj rfl (ah (wJ _ (ag rfl ?_)))));refine bn ((ee:Int)≠0) rfl (λh0=>?_) (λh0=>?_)
   .rw [if_neg (by omega)] at fX;refine ag rfl ?_;exact aJ (dk an () rfl rfl (by rw [fX];rfl) rfl aD au)
   have h0:ee=0:=by omega
   rw [if_pos h0] at fX Ez;subst Ez;refine aR (nV _ (cE rfl ?_));exact cH ⟨i+1,ak.put v.pl.pair 0 W⟩ ⟨al,(ak.jj.put (p:=v.pl.pair) ⟨v.fl,ai0 _⟩ (n:=256) (way:=[]) rfl uw (iO.nil _)).1,by rw [fX,aiI Hd]⟩ (by show vs.length-(i+1)<vs.length-i;omega) ⟨⟨rO i vs.length sE al,rfl,rfl,rfl,rfl,rfl,trivial⟩,c8 rfl rfl, .refl _,λ_ h _=>h.2.2, au⟩
  cases i with
  | zero =>
   have TE:Bb (zM gs 0) v.id=true:=rfl;refine nw 20 λK7 df G S w0 aa=>?_;refine dC aa rfl (qO 34 false rfl (by simp) (dC aa rfl (G3 aa (.q (.c (.v (.slice v.U v.more.length v.u)))) rfl rfl (λG S a w ha hw=>(Lj (q:=.c (.v (.slice v.U v.more.length v.u))) an rfl rfl rfl ha hw.fact.1).2) (dC aa rfl (jR aa (ah (df _ ?_)))))));refine bn ((v.more.length:Int)=0) rfl (λhm=>?_) (λhm=>?_)
   .have hm:v.more=[]:=lB (by omega);refine ag rfl ?_;exact aJ (dk an () rfl rfl (by rw [yT (.inr hm)];rfl) rfl aD au)
   .exact aR (uz (by rintro(h|h);exact absurd (TE.symm.trans h) (by decide);exact hm (by rw [h];rfl)) _ (fC rfl rfl rfl λ_ h _=>h))
  | succ j =>
   obtain⟨pv,Hs⟩:∃pv,vs[j]?=some pv:=⟨_,da (by omega)⟩
   have hgp:gs[j]?=some pv.pl:=by rw [<-vD,lC,Hs];rfl
   have T4:zM gs (j+1)=some pv.id:=aiI hgp;have fy:IntKind.i64.wrap (((j+1:Nat):Int)-1)=(j:Int):=jv (by omega) (by omega) (by omega);have Zv:=XE (A:=some ⟨gx,ox+34*j,none⟩) (B:=some ⟨g11,0,none⟩) (c:=32) (d:=32) (l:=pv.id) (m:=v.id) (by rw [pv.fl];decide) (by rw [v.fl];decide);rw [pv.fl,v.fl] at Zv
   obtain⟨cv,q,hcv,hq,hqt,hqf⟩:∃(cv:Int) (q:Bool),dF pv.id v.id=cv/\decide (cv>=0)=q/\(q=true->Bb (zM gs (j+1)) v.id=false)/\(q=false->Bb (zM gs (j+1)) v.id=true):=by
    rw [T4];cases hl:eP pv.id v.id with
    | true=>exact⟨-1,false,R8 hl,by decide,λh=>(by cases h),λ_=>hl⟩
    | false =>
     by_cases he:pv.id=v.id
     .exact⟨0,true,by rw [he];exact XW _,by decide,λ_=>hl,λh=>by cases h⟩
     .have h2:eP v.id pv.id=true:=C8 (by rw [pv.fl,v.fl]) hl he;exact⟨1,true,R7 h2,by decide,λ_=>hl,λh=>by cases h⟩
   refine nw 20 λK7 df G S w0 aa=>?_;refine dC aa rfl (qO 34 true rfl (by simp) (dC aa rfl (ni aa (.v (.pointer (some ⟨gx,ox+34*j,none⟩))) rfl rfl (lO j rfl DW rfl (by rw [<-hX];rfl) (congrArg (λz=>some (aq.v (.int .i64 z))) fy) (by omega)) (dC aa rfl (ni aa (.v (.slice (some ⟨gx,ox+34*j,none⟩) 32 32)) rfl rfl (zF rfl dp rfl rfl) (dC aa rfl (ni aa (.v (cj g11 32 32)) rfl rfl (zF rfl dp rfl rfl) (dC aa rfl (vp (F':=λw=>ar 1 aY (some ⟨gx,ox+34*j,none⟩) 32 pv.id w/\ar 1 aY (some ⟨g11,0,none⟩) 32 v.id w) (r:=.v (.int .i64 (dF pv.id v.id))) aa [.slice (some ⟨gx,ox+34*j,none⟩) 32 32,cj g11 32 32] rfl rfl rfl rfl (λ_=>rfl) trivial Zv (λ_ _ _ ab=>⟨ap0 (by rw [<-hX];exact ab.fact.2.2.1) Hs,NK ab.fact.1⟩) (SP 43 cv rfl hcv (dC aa rfl (qO 46 q rfl hq ?_))))))))))))
   cases q with
   | true =>
    refine dC aa rfl (jR aa (ah (df _ (ir rfl (ag rfl ?_)))));exact aJ (dk an () rfl rfl (by rw [yT (.inl (hqt rfl))];rfl) rfl aD au)
   | false =>
    have TE:=hqf rfl;refine dC aa rfl (G3 aa (.q (.c (.v (.slice v.U v.more.length v.u)))) rfl rfl (λG S a w ha hw=>(Lj (q:=.c (.v (.slice v.U v.more.length v.u))) an rfl rfl rfl ha hw.fact.1).2) (dC aa rfl (jR aa (ah (df _ ?_)))));refine bn ((v.more.length:Int)=0) rfl (λhm=>?_) (λhm=>?_)
    .have hm:v.more=[]:=lB (by omega);refine ag rfl ?_;exact aJ (dk an () rfl rfl (by rw [yT (.inr hm)];rfl) rfl aD au)
    .exact aR (uz (by rintro(h|h);exact absurd (TE.symm.trans h) (by decide);exact hm (by rw [h];rfl)) _ (fC rfl rfl rfl λ_ h _=>h))
 obtain rfl:vs.length=i:=by omega
 have mC:gs.length=vs.length:=by rw [<-vD,dL]
 rw [um (by omega)] at fX;have fX:R=if W.root=t then 0 else 130:=fX;refine cG (a6 (a6 (cF (bN _ (ao λK7 df=>?_)))));refine nw 4 λK4 bW G S w0 aa=>?_;refine dC aa rfl (vp (F':=λ_=>True) (r:=.q (aw 32 W.root)) aa [(gU W).den] rfl rfl rfl rfl (λ_=>rfl) (cq (ak.uS uw)).1 (ai7 uw.dn) (λ_ _ _ _=>trivial) (dC aa rfl (ni aa (.b (!decide (W.root=t))) rfl rfl (F7 rfl rfl rfl dp (by kernel_rfl) (ak.uS uw) ht) (jR aa (ah (bW _ ?_))))));refine pD (!decide (W.root=t)) rfl (λqe=>?_) (λqe=>?_)
 .have qe:W.root≠t:=by simpa using qe
  rw [if_neg qe] at fX;refine ag rfl ?_;exact aJ (dk an () rfl rfl (by rw [fX];rfl) rfl aD au)
 have qe:W.root=t:=by simpa using qe
 rw [if_pos qe] at fX;refine aR (df _ (ag rfl ?_));exact aJ (dk an () rfl rfl (by rw [fX];rfl) rfl aD au)
noncomputable def uo:ae->aX->aX->Nat
  | f,s::ss,r::rs=>if mI f r s=0 then uo r ss rs else mI f r s
  | _,_,_=>0
structure ChS where
  i:Nat
  f:ae
def RG{f:ae}(hf:f.length=32){A B:aO}{c d:Nat}(ss:lU)(rs:aX)(xU:∀s∈ss,s.l.length<=30000)(Dj:∀r∈rs,r.length=32):Spec 13 [(aw 32 f).den,.slice A ss.length c,.slice B rs.length d] [] (λw=>eI w/\ar 1 kg A c ss w/\(∀s∈ss,s.rd w)/\ar 32 (aw 32) B d rs w) (one (.v (.int .i64 ((if ss.length=rs.length then uo f (ss.map cC.l) rs else 2:Nat):Int)))):=by
 obtain⟨R,hR⟩:∃R,(if ss.length=rs.length then uo f (ss.map cC.l) rs else 2)=R:=⟨_,rfl⟩;rw [hR];refine bA [aw 32 f,.c (.v (.slice A ss.length c)),.c (.v (.slice B rs.length d))] 34 func13 rfl (ab:=uP (cq hf).1 (dZ trivial trivial)) λb=>ag rfl (ao λK1 aS=>ag rfl ?_);refine bn ((ss.length:Int)≠(rs.length:Int)) rfl (λh0=>?_) (λh0=>?_)
 .refine ag rfl ?_;exact aJ (dk an () rfl rfl (by rw [<-hR,if_neg (by omega)];rfl) rfl aD au)
 have hlen:ss.length=rs.length:=by omega
 rw [if_pos hlen] at hR;refine aR (aS _ (ao λK2 aM=>ag rfl (a8 ?_)));let Fs:ChS->Env:=λs=>⟨[(17,.aT s.i),(16,.aT rs.length),(15,.v (.slice B rs.length d)),(1,.v (.slice A ss.length c)),(3,.a 3 0)],[⟨3,none,47,[.agg 32 (By s.f).toArray]⟩],[],λw=>eI w/\ar 1 kg A c ss w/\(∀s∈ss,s.rd w)/\ar 32 (aw 32) B d rs w,λ_=>True⟩;refine cI (e':=Fs ⟨0,f⟩) (fC rfl rfl rfl λ_ h _=>h) (cY (λs=>rs.length-s.i) Fs (λs=>s.i<=rs.length/\s.f.length=32/\R=uo s.f ((ss.drop s.i).map cC.l) (rs.drop s.i)) ?_ ⟨0,f⟩ ⟨bl _,hf,hR.symm⟩);clear hR hf;rintro⟨i,f⟩ ⟨hi,hf,fX⟩;dsimp only at hi hf fX;refine ag rfl (ao λK6 cr=>?_);refine bn ((i:Int)<(rs.length:Int)) rfl (λal=>?_) (λcW=>?_)
 .have al:i<rs.length:=by omega
  obtain⟨r,hr⟩:∃r,rs[i]?=some r:=⟨_,da al⟩;obtain⟨s,hs⟩:∃s,ss[i]?=some s:=⟨_,da (by omega)⟩;have Cd:=Dj r (eg hr);have gS:=xU s (eg hs);have hd1:rs.drop i=r::rs.drop (i+1):=by rw [z9 al,(eY.1 hr).2]
  have jS:ss.drop i=s::ss.drop (i+1):=by rw [z9 (by omega),(eY.1 hs).2]
  have vr:=M4 hf Cd (A:=s.A) (c:=s.c) s.l gS;rw [hd1,jS] at fX;have fX:R=if mI f r s.l=0 then uo r ((ss.drop (i+1)).map cC.l) (rs.drop (i+1)) else mI f r s.l:=fX;obtain⟨ee,qS⟩:∃ee,mI f r s.l=ee:=⟨_,rfl⟩;rw [qS] at fX vr;refine aR (cr _ ?_);refine lQ (rs.length<=9223372036854775807) (λw h _=>fo h.2.2.2.1 h.2.2.2.2.1) λKJ=>?_;refine ao λK10 nV=>a8 (aA rfl λK11 p8=>jh an rfl rfl rfl i rfl hr rfl rfl (dX λ_ h _=>h.2.2.2) (aj rfl (ah (p8 _ (ao λK12 sl=>?_)))));refine nw 7 λK7 df G S w0 aa=>?_;refine dC aa rfl (Sw (b:=b) an aa rfl rfl rfl i rfl hs rfl rfl (dX λ_ h _=>h.2.1) (vp (Fa:=[]) (F':=λw=>eI w/\ar 1 aY s.A s.c s.l w) (r:=.v (.int .i64 (ee:Int))) aa [(aw 32 f).den,(aw 32 r).den,.slice s.A s.l.length s.c] rfl rfl (how:=PR) rfl rfl (λ_=>rfl) trivial vr (λ_ _ _ ab=>⟨ab.fact.1,ab.fact.2.2.1 s (eg hs)⟩) (jR aa (aj rfl (ah (df _ (ag rfl ?_)))))));refine bn ((ee:Int)≠0) rfl (λh0=>?_) (λh0=>?_)
  .rw [if_neg (by omega)] at fX;refine ag rfl ?_;exact aJ (dk an () rfl rfl (by rw [fX];rfl) rfl aD au)
  rw [if_pos (by omega)] at fX;refine aR (sl _ (cE rfl (nV _ (cE rfl ?_))));exact cH ⟨i+1,r⟩ ⟨al,Cd,fX⟩ (by show rs.length-(i+1)<rs.length-i;omega) ⟨⟨rO i rs.length KJ al,rfl,rfl,rfl,rfl,trivial⟩,⟨rfl,rfl,trivial⟩,.refl _,λ_ h _=>h,λ_ h=>h⟩
 obtain rfl:rs.length=i:=by omega
 rw [um (aQ _),um (by omega)] at fX;have fX:R=0:=fX;refine cG (a6 (a6 (cF (aM _ (ag rfl ?_)))));exact aJ (dk an () rfl rfl (by rw [fX];rfl) rfl aD au)
def aHJ{g t:Nat}{k:ae}{w:yp}(hk:k.length=32)(h:ij g t [.agg 32 (By k).toArray] w):ar 1 aY (some ⟨g,0,none⟩) 32 k w:=L9 h.1 hk (by decide) λj v hj=>by rw [dI];simpa [a7,bz.cells] using hj
structure CN where
  i:Nat
  ss:lU
  A:aO
  c:Nat
structure Gw(T:ae)(m:Nat)(s:CN):Prop where
  t:(s.ss.map cC.l).flatten=T
  n:s.ss.length<=m
def Gw.more{T:ae}{m:Nat}{s:CN}(h:Gw T m s)(i:Nat)(l:lU)(A:aO)(c:Nat){T':ae}{m':Nat}(hT:T++(l.map cC.l).flatten=T')(hm:m+l.length<=m'):Gw T' m' ⟨i,s.ss++l,A,c⟩:=⟨by
 show((s.ss++l).map cC.l).flatten=T';rw [jl,Ag,h.t,hT],by
 have:=h.n;show(s.ss++l).length<=m';rw [aV];omega⟩
def Cp(P:ae)(gs:List cZ)(i:Nat):ae:=br P.length++(P++(br gs.length++((gs.take i).map λg=>g.raw.bytes).flatten))
def atO{P:ae}{gs:List cZ}{i:Nat}{g:cZ}(h:gs[i]?=some g):Cp P gs (i+1)=Cp P gs i++g.raw.bytes:=by unfold Cp;rw [qw,h];simp [ei]
def atN(P:ae)(gs:List cZ):Cp P gs gs.length=pg P gs:=by unfold Cp;rw [kW];rfl
def akO{W:ak}(hW:W.Good)(J6:W.bytes.length<=1000000){A:aO}{c:Nat}(vs:fJ)(sE:vs.length<=1000)(vD:∀v∈vs,v.k.l.length<=64/\v.more.length<=64)(hT:(pg W.bytes (vs.map cD.pl)).length<=281474976710656):Spec 23 [(gU W).den,.slice A vs.length c] [] (λw=>ar 34 fN A c vs w/\∀v∈vs,v.rd w) (FG (pg W.bytes (vs.map cD.pl))):=by
 refine bA [gU W,.c (.v (.slice A vs.length c))] 56 func23 rfl (ab:=dZ (DS W) trivial) λb=>?_;have OB:=aEN hW J6;obtain⟨P,hP⟩:∃P,W.bytes=P:=⟨_,rfl⟩;rw [hP] at OB J6 hT;rw [hP];obtain⟨gs,vw⟩:∃gs,vs.map cD.pl=gs:=⟨_,rfl⟩;have mC:gs.length=vs.length:=by rw [<-vw,dL]
 rw [vw] at hT;rw [vw];refine ag rfl (aA rfl λK1 aS=>bY [(gU W).den] rfl OB aD λx=>iU 0 rfl (bY [.slice none ([]:ae).length 0,.slice x.1 P.length x.2] rfl (aiJ [] P (by show 0+8+P.length<=_;omega)) (λw h _=>⟨ar.nil _ _ _,h.1⟩) λgp=>?_));rw [lD];refine aj rfl (ca 15 (vs.length:Int) rfl (zN rfl (by omega) (by omega)) (bY [.slice none ([]:ae).length 0,.int .u64 (vs.length:Int)] (hf:=Iw) rfl (I2 [] vs.length (by omega) (by decide)) (λ_ _ _=>ar.nil _ _ _) λgn=>?_));rw [lD];refine jC an b.B.heap.size [⟨some ⟨gp,0,none⟩,(br P.length++P).length,br P.length++P⟩,⟨some ⟨gn,0,none⟩,(br vs.length).length,br vs.length⟩] (fe:=kg) rfl rfl rfl (λ_=>rfl) rfl (Cz _) (aQ _) λP0=>aj rfl (ah (aS _ (ao λK2 aM=>ag rfl (a8 ?_))));let Es:CN->aG:=λs=>[(20,.aT s.i),(19,.aT vs.length),(18,.v (.slice A vs.length c)),(5,.v (.slice s.A s.ss.length s.c))];let Rs:CN->bF:=λs=>[bL b.B.heap.size 39 1 kg s.A s.c s.ss];let Ff:CN->aE:=λs w=>(∀q∈s.ss,q.rd w)/\ar 34 fN A c vs w/\∀v∈vs,v.rd w;let Fs:CN->Env:=λs=>⟨Es s,[],Rs s,Ff s,λ_=>True⟩;let s0:CN:=⟨0,[⟨some ⟨gp,0,none⟩,(br P.length++P).length,br P.length++P⟩,⟨some ⟨gn,0,none⟩,(br vs.length).length,br vs.length⟩],P0,2⟩;have h0:Gw (Cp P gs 0) 2 s0:=⟨by simp [s0,Cp,mC],aQ _⟩;refine cI (e':=Fs s0) ⟨dB rfl, trivial, .refl _,λw h hM=>⟨λq hq=>?_,h.2.2.2.2⟩, au⟩ (cY (λs=>vs.length-s.i) Fs (λs=>s.i<=vs.length/\Gw (Cp P gs s.i) (2+70*s.i) s) ?_ s0 ⟨bl _,h0⟩)
 .rcases bT.1 hq with rfl|hq
  .exact hM.2.1
  .rw [bU.1 hq];exact hM.1
 rintro s ⟨hi,hL⟩;obtain⟨i,ss,B,d⟩:=s;dsimp only at hi hL;have E6:ss.length<=2+70*i:=hL.n;refine ag rfl (ao λK3 bu=>?_);refine bn ((i:Int)<(vs.length:Int)) rfl (λal=>?_) (λcW=>?_)
 .have al:i<vs.length:=by omega
  obtain⟨v,ab⟩:∃v,vs[i]?=some v:=⟨_,da al⟩;have Dl:=eg ab;have Hd:gs[i]?=some v.pl:=by rw [<-vw,lC,ab];rfl
  obtain⟨Hh,aID⟩:=vD v Dl;have jB:=atO (P:=P) Hd;obtain⟨T0,hT0⟩:∃T0,Cp P gs i=T0:=⟨_,rfl⟩;rw [hT0] at hL jB;refine aR (bu _ (ao λK4 bW=>a8 (aA rfl λK5 bN=>jh an rfl rfl rfl i rfl ab rfl rfl (dX λ_ h _=>h.2.1) (aj rfl (ah (rL 7 rfl (E':=Es ⟨i,ss,B,d⟩) ⟨rfl,rfl,rfl,rfl,trivial⟩ λg7=>KW 0 rfl (bN _ (ao λK6 cr=>?_))))))));refine lv [0,1,2,3,4,5,6] 9 2 (λw=>iV [] w/\ij g7 60 v.parts w) rfl (sG (λ_ h=>by cases h) λ_ h _=>h.1) ?_;refine cK (L0:=[]) 0 rfl (λ_ h=>by cases h) (λ_ h=>h.1) (cK (L0:=[]) 1 rfl (λ_ h=>by cases h) (λ_ h=>h.1) (kp (.v (cj g7 32 32)) 2 rfl rfl rfl (yg (off:=0) rfl dp rfl rfl) (cK (L0:=[]) 3 rfl (λ_ h=>by cases h) (λ_ h=>h.1) (DO an 4 rfl rfl rfl rfl rfl v.ig (λ_ h=>h.2) (cK (L0:=[]) 5 rfl (λ_ h=>by cases h) (λ_ h=>h.1) (cK (L0:=[]) 6 rfl (λ_ h=>by cases h) (λ_ h=>h.1) ?_))))));refine eN 7 rfl λKa kM=>?_;refine ca 30 (v.k.l.length:Int) rfl (zN rfl (by omega) (by omega)) (bY [.slice none ([]:ae).length 0,.int .u64 (v.k.l.length:Int)] (hf:=Iw) rfl (I2 [] v.k.l.length (by omega) (by decide)) (λ_ _ _=>ar.nil _ _ _) λgk=>?_);rw [lD];refine ah (kM _ (sG (λ_ h=>by cases h) λ_ h _=>h.2.1) ?_);refine eN 8 rfl λKb mA=>?_;refine me 26 (.v (cj g7 v.id.length 32)) rfl (by rw [v.fl]) (jC an b.B.heap.size [⟨some ⟨g7,0,none⟩,32,v.id⟩,⟨some ⟨gk,0,none⟩,(br v.k.l.length).length,br v.k.l.length⟩] (fe:=kg) rfl rfl rfl (λ_=>rfl) rfl (Cz _) (aQ _) λP2=>ah (mA _ (sG (λ_ h=>by cases h) λ_ h _=>h.2.1) (kQ [9,10] rfl (iU 0 rfl (mc an 0 [⟨some ⟨g7,0,none⟩,32,v.id⟩,⟨some ⟨gk,0,none⟩,(br v.k.l.length).length,br v.k.l.length⟩] rfl rfl rfl rfl rfl rfl rfl (dX λw h _=>h.1) (by show(ss.length+2)*24<=_;omega) (by show ss.length+2<=_;omega) (aQ _) λB1 d1=>aj rfl (ah ?_))))));have NQ:=hL.more i [⟨some ⟨g7,0,none⟩,32,v.id⟩,⟨some ⟨gk,0,none⟩,(br v.k.l.length).length,br v.k.l.length⟩] B1 d1 (T':=T0++(v.id++br v.k.l.length)) (m':=4+70*i) (by simp) (by show 2+70*i+2<=_;omega);obtain⟨ss1,Ox⟩:∃ss1,ss++[⟨some ⟨g7,0,none⟩,32,v.id⟩,⟨some ⟨gk,0,none⟩,(br v.k.l.length).length,br v.k.l.length⟩]=ss1:=⟨_,rfl⟩;refine ft (e':=⟨(7,.v (eE g7))::Es ⟨i,ss1,B1,d1⟩,[],Rs ⟨i,ss1,B1,d1⟩,λw=>ij g7 60 v.parts w/\Ff ⟨i,ss1,B1,d1⟩ w,λ_=>True⟩) ⟨⟨rfl,rfl,rfl,rfl,by rw [<-Ox];rfl,trivial⟩,trivial,by rw [<-Ox];exact .refl _,λw h hM=>?_, au⟩ (cr _ ?_)
  .refine⟨h.2.2.1,λq hq=>?_,h.2.2.2.2⟩
   have hq:q∈ss1:=hq;rw [<-Ox] at hq;rcases iA.1 hq with hq|hq
   .exact h.2.2.2.1 q hq
   .rcases bT.1 hq with rfl|hq
    .exact NK h.2.2.1
    .rw [bU.1 hq];exact hM.1
  rw [Ox] at NQ;obtain⟨T1,J5⟩:∃T1,T0++(v.id++br v.k.l.length)=T1:=⟨_,rfl⟩;rw [J5] at NQ;refine ao λK7 df=>aA rfl λK8 gw=>gE rfl (kP λ_ h _=>h.1) (aj rfl (ah (gw _ (a8 ?_))));refine lQ (v.k.l.length<=9223372036854775807/\(∀k∈v.k.l,k.length=32)/\∀u∈v.more,u.aI) (λw h _=>⟨by omega,ag4 (h.2.2.2 v Dl).1,WA (h.2.2.2 v Dl).2⟩) λ⟨fI,yW,arP⟩=>?_;let Gs:CN->Env:=λs=>⟨(37,.aT s.i)::(36,.aT v.k.l.length)::(35,.v (.slice v.k.A v.k.l.length v.k.c))::(7,.v (eE g7))::Es ⟨i,s.ss,s.A,s.c⟩,[],Rs s,λw=>ij g7 60 v.parts w/\Ff ⟨i,s.ss,s.A,s.c⟩ w,λ_=>True⟩;refine cI (e':=Gs ⟨0,ss1,B1,d1⟩) (fC rfl rfl rfl λ_ h _=>h) (cY (λs=>v.k.l.length-s.i) Gs (λs=>s.i<=v.k.l.length/\Gw (T1++(v.k.l.take s.i).flatten) (4+70*i+s.i) s) ?_ ⟨0,ss1,B1,d1⟩ ⟨bl _,⟨by rw [List.take_zero,List.flatten_nil,fj];exact NQ.t,NQ.n⟩⟩);rintro s ⟨hj,hM⟩;obtain⟨j,ss2,B2,d2⟩:=s;dsimp only at hj hM;have aIK:ss2.length<=4+70*i+j:=hM.n;refine ag rfl (ao λK9 l5=>?_);refine bn ((j:Int)<(v.k.l.length:Int)) rfl (λOc=>?_) (λaI5=>?_)
  .have Oc:j<v.k.l.length:=by omega
   obtain⟨k,hk⟩:∃k,v.k.l[j]?=some k:=⟨_,da Oc⟩;have ZX:=yW k (eg hk);have hS:v.k.l.take (j+1)=v.k.l.take j++[k]:=by rw [qw,hk];rfl
   refine aR (l5 _ (ao λK10 nV=>a8 (aA rfl λK11 p8=>jh an rfl rfl rfl j rfl hk rfl rfl (dX λ_ h _=>(h.2.2.2 v Dl).1) (aj rfl (ah (rL 9 rfl (E':=(37,.aT j)::(36,.aT v.k.l.length)::(35,.v (.slice v.k.A v.k.l.length v.k.c))::(7,.v (eE g7))::Es ⟨i,ss2,B2,d2⟩) ⟨rfl,rfl,rfl,rfl,rfl,rfl,rfl,rfl,trivial⟩ λg9=>KW 0 rfl (p8 _ (ef (aj rfl (b6 (.v (cj g9 32 32)) rfl (zF rfl dp rfl rfl) (me 42 (.v (cj g9 k.length 32)) rfl (by rw [ZX]) (lq an 0 (⟨some ⟨g9,0,none⟩,32,k⟩:cC) (fe:=kg) rfl rfl rfl rfl rfl rfl rfl (JI _) (by show(ss2.length+1)*24<=_;omega) (by show ss2.length<_;omega) (aQ _) λB3 d3=>aj rfl (ah (nV _ (cE rfl ?_)))))))))))))));refine cH ⟨j+1,ss2++[⟨some ⟨g9,0,none⟩,32,k⟩],B3,d3⟩ ⟨Oc,hM.more (j+1) _ B3 d3 (by rw [hS];simp) (by show 4+70*i+j+1<=4+70*i+(j+1);omega)⟩ (by show v.k.l.length-(j+1)<v.k.l.length-j;omega) ⟨⟨rO j v.k.l.length fI Oc,rfl,rfl,rfl,rfl,rfl,rfl,rfl,trivial⟩,trivial,.refl _,λw h _=>⟨h.2.1,λq hq=>?_,h.2.2.2⟩, au⟩;rcases iA.1 hq with hq|hq
   .exact h.2.2.1 q hq
   .rw [bU.1 hq];exact aHJ ZX h.1
  obtain rfl:j=v.k.l.length:=by omega
  rw [kW] at hM;refine cG (a6 (a6 (cF (df _ (ef (aj rfl (gE rfl (kP λ_ h _=>h.1) (bY [.slice v.U v.more.length v.u] rfl (aq1 v.more (by omega)) (λ_ h _=>(h.2.2.2 v Dl).2) λgb=>?_))))))));have xK:(fk v.more).length<=281474976000000:=by have h1:=Ej arP;omega
  obtain⟨bt,N0⟩:∃bt,fk v.more=bt:=⟨_,rfl⟩;rw [N0] at xK;refine me 49 (.v (cj gb bt.length bt.length)) rfl (by rw [<-N0];rfl) (bY [.slice none ([]:ae).length 0,cj gb bt.length bt.length] rfl (aiJ [] bt (by show 0+8+bt.length<=_;omega)) (λw h hM=>⟨ar.nil _ _ _,by rw [<-N0];exact hM.1⟩) λgc=>?_);rw [lD];refine lq an 0 (⟨some ⟨gc,0,none⟩,(br bt.length++bt).length,br bt.length++bt⟩:cC) (fe:=kg) rfl rfl rfl rfl rfl rfl rfl (JI _) (by show(ss2.length+1)*24<=_;omega) (by show ss2.length<_;omega) (aQ _) λB3 d3=>aj rfl (ah (bW _ (cE rfl ?_)));refine cH ⟨i+1,ss2++[⟨some ⟨gc,0,none⟩,(br bt.length++bt).length,br bt.length++bt⟩],B3,d3⟩ ⟨al,hM.more (i+1) _ B3 d3 (by rw [jB,<-J5,<-N0];simp [oJ.bytes]) (by show 4+70*i+v.k.l.length+1<=2+70*(i+1);omega)⟩ (by show vs.length-(i+1)<vs.length-i;omega) ⟨⟨rO i vs.length (by omega) al,rfl,rfl,rfl,trivial⟩,trivial,.refl _,λw h hM=>⟨λq hq=>?_,h.2.2.2.2⟩, au⟩;rcases iA.1 hq with hq|hq
  .exact h.2.2.2.1 q hq
  .rw [bU.1 hq];exact hM.1
 obtain rfl:i=vs.length:=by omega
 have e0:(ss.map cC.l).flatten=pg P gs:=by rw [<-atN,mC];exact hL.t
 have hj:=HP (A:=B) (c:=d) ss (by rw [e0];exact hT);rw [e0] at hj;refine cG (a6 (a6 (cF (aM _ (mQ 0 rfl (aA rfl λK8 gw=>bY [.slice B ss.length d] (hf:=Is) rfl hj (λw h _=>⟨h.1,h.2.1⟩) λgb=>aj rfl (ah (gw _ ?_))))))));exact aJ (bE gb rfl aD (λw h=>h.1))
noncomputable def pL(l:bZ)(us:cS):ae:=pg (ak.cut 256 0 (dg l) ((fq l us).map cZ.id)).bytes (fq l us)
def ag7{l:bZ}{us:cS}(hl:dj l)(hs:mq l)(ic:∀u∈us,u.aI)(gT:l.length+us.length<=1000) :
  kS (pL l us)=fq l us/\jZ (pL l us)=0/\mI (iw 256 (dg l)) (iw 256 (dg (ej l (us.map cy)))) (pL l us)=0:=by
 have h:=aC3 (ids:=(fq l us).map cZ.id) hl hs ic (λg hg=>dv.2 ⟨g,hg,rfl⟩) gT
 unfold pL
 exact h
structure StS where
  i:Nat
  ids:aX
def arZ{gl:fJ}{i:Nat}{v:cD}(ab:gl[i]?=some v):(((gl.take i).map cD.id)++aB (gl.length-i) (aB 32 0)).set i v.id=((gl.take (i+1)).map cD.id)++aB (gl.length-(i+1)) (aB 32 0):=by
 have al:=(eY.1 ab).1;have h1:gl.length-i=(gl.length-(i+1))+1:=by omega
 have h3:((gl.take i).map cD.id).length=i:=by rw [dL,du];omega
 rw [h1,List.replicate_succ,yF _ _ (by omega),h3,si,qw,ab,jl,ei];rfl
def XB{d:fU}(hd:d.aI){A:aO}{c:Nat}{us:cS}(ic:∀u∈us,u.aI)(gT:d.l.length+us.length<=1000)(h12:(fq d.l us).length<=12) :
  Spec 7 [(nU d).den,.slice A us.length c] [] (λw=>eI w/\d.F w/\ar 129 dT A c us w) (FG (pL d.l us)):=by
 have oc:=apA hd (A:=A) (c:=c) ic (by omega) h12;have lH:=λg=>Y0 hd.small (us:=us) (g:=g);have N5:=NM hd.dir hd.small ic;have fM:=ak.Em 256 (d:=0) (ks:=(fq d.l us).map cZ.id) (DQ hd.dir);have ky:(dg d.l).length=d.l.length:=dL ..;have hW:=adE (dj.AU hd.dir).1 (λy hy=>⟨(DQ hd.dir y hy).1,(DQ hd.dir y hy).2⟩) ((fq d.l us).map cZ.id);have SK:=hW.right.dn
 have J6:(ak.cut 256 0 (dg d.l) ((fq d.l us).map cZ.id)).bytes.length<=600000:=by have h3:(70+2*256)*(dg d.l).length<=(70+2*256)*1000:=jI _ (by omega);omega
 have hT:(pL d.l us).length<=281474976710656:=by unfold pL;rw [V8];have h1:=Vw (gs:=fq d.l us) λg hg=>aeF (N5 g hg) (lH g hg).1 (lH g hg).2;omega
 have ux:=λB e=>aEP (A:=B) (c:=e) (dg d.l) d.t ((fq d.l us).map cZ.id) hd.tree (dj.AU hd.dir).1 (dj.AU hd.dir).2 (by rw [dL];omega) (λx hx=>by obtain⟨g,hg,rfl⟩:=dv.1 hx;exact(N5 g hg).id)
 unfold pL at hT
 unfold pL
 obtain⟨gs,vw⟩:∃gs,fq d.l us=gs:=⟨_,rfl⟩;obtain⟨W,SI⟩:∃W,ak.cut 256 0 (dg d.l) (gs.map cZ.id)=W:=⟨_,rfl⟩
 unfold Y3 at oc
 rw [vw] at oc hT h12 lH ux SK J6;rw [SI] at hT ux SK J6;rw [vw,SI];refine bA [.p d.parts,.c (.v (.slice A us.length c))] 34 func7 rfl (ab:=dZ d.ig trivial) λb=>ag rfl (aA rfl λK1 aS=>bY [(nU d).den,.slice A us.length c] rfl oc (λ_ h _=>h) λ⟨⟨gl,mC⟩,X⟩=>aj rfl (ah (aS _ ?_)))
 have aqA:gl.length=gs.length:=by rw [<-mC,dL]
 refine aA rfl λK2 aM=>Ld an b.B.heap.size gl.length (aB 32 0) (fe:=aw 32) rfl rfl rfl rfl rfl rfl (cq nb) (by show 32*gl.length<=_;omega) (by omega) (aQ _) λB=>aj rfl (ah (aM _ (ao λK3 bu=>ag rfl (a8 ?_))))
 let Ls:aH:=[⟨2,none,33,d.parts⟩]
 let Es:Nat->aG:=λi=>[(17,.aT i),(16,.aT gl.length),(15,.v (.slice X.1 gl.length X.2)),(6,.v (.slice B gl.length gl.length)),(5,.v (.slice X.1 gl.length X.2)),(2,.a 2 0)]
 let Fs:StS->Env:=λs=>⟨Es s.i,Ls,[bL b.B.heap.size 47 32 (aw 32) B gl.length s.ids],λw=>(ar 34 fN X.1 X.2 gl w/\∀g∈gl,g.rd w)/\eI w/\d.F w,λ_=>True⟩
 refine cI (e':=Fs ⟨0,aB gl.length (aB 32 0)⟩) ⟨dB rfl, c8 rfl rfl, .refl _,λ_ h _=>⟨h.1,h.2.1,h.2.2.1⟩, au⟩ (cY (λs=>gl.length-s.i) Fs (λs=>s.i<=gl.length/\s.ids=((gl.take s.i).map cD.id)++aB (gl.length-s.i) (aB 32 0)) ?_ ⟨0,aB gl.length (aB 32 0)⟩ ⟨bl _,by simp⟩)
 rintro⟨i,ids⟩ ⟨hi,qb⟩
 dsimp only at hi qb
 refine ag rfl (ao λK6 cr=>?_);refine bn ((i:Int)<(gl.length:Int)) rfl (λal=>?_) (λcW=>?_)
 .have al:i<gl.length:=by omega
  obtain⟨v,ab⟩:∃v,gl[i]?=some v:=⟨_,da al⟩;have sw:gl.length=ids.length:=by rw [qb,aV,dL,du,nb];omega
  refine aR (cr _ (ao λK10 nV=>a8 (aA rfl λK11 p8=>jh an rfl rfl rfl i rfl ab rfl rfl (dX λ_ h _=>h.1.1) (aj rfl (ah (p8 _ (ef (aj rfl (H8 an 0 v.id i (fe:=aw 32) rfl rfl rfl rfl rfl rfl sw rfl (show i<ids.length by omega) (cq v.fl) (ah (nV _ (cE rfl ?_))))))))))));exact cH ⟨i+1,ids.set i v.id⟩ ⟨al,by rw [qb];exact arZ ab⟩ (by show gl.length-(i+1)<gl.length-i;omega) ⟨⟨rO i gl.length (by omega) al,rfl,rfl,rfl,rfl,rfl,trivial⟩,⟨rfl,rfl,trivial⟩,.refl _,λ_ h _=>h,λ_ h=>h⟩
 obtain rfl:gl.length=i:=by omega
 have Tq:ids=gs.map cZ.id:=by rw [qb,kW,si,<-mC,qB];simp
 have Tp:ids.length=gl.length:=by rw [Tq,dL,aqA]
 refine cG (a6 (a6 (cF (bu _ (mQ 0 rfl ?_)))));have Ta:=ux B gl.length
 have Z4:=akO SK (by omega) (A:=X.1) (c:=X.2) gl (by omega) (λv ab=>by have:=lH v.pl (by rw [<-mC];exact dv.2 ⟨v,ab,rfl⟩);exact this) (by rw [mC];exact hT)
 rw [mC] at Z4;rw [<-Tq] at Ta
 have aHY:ak.cut 256 0 (dg d.l) ids=W:=by rw [Tq];exact SI
 rw [Tp] at Ta;refine aA rfl λK8 gw=>bY [(nU d).den] rfl (an9 d) aD λ_=>aj rfl (bY [(j7 d.t 0).den,.slice B gl.length gl.length] rfl Ta (λ_ h _=>⟨h.2.2.2.2.2.2,h.2.1⟩) λ_=>aj rfl (bY [(gU W).den,.slice X.1 gl.length X.2] rfl Z4 (λ_ h _=>h.2.2.2.1) λgb=>aj rfl (ah (gw _ ?_))));exact aJ (bE gb rfl aD (λw h=>h.1))
theorem XU{to to':ae}(b8:to'≠to):∀{gs:List cZ} {W:ak} {was:Option ae},xu to W was gs=0->xu to' W was gs=130
 | [],W,was,h=>by
  have h:(if W.root=to then 0 else 130)=0:=h;show(if W.root=to' then 0 else 130)=130;split at h
  .rename_i hw;rw [if_neg λe=>b8 (e.symm.trans hw)]
  .cases h
 | g::gs,W,was,h=>by
  have h:(if CA W was g=0 then xu to (ak.put g.pair 0 W) (some g.id) gs else CA W was g)=0:=h;show(if CA W was g=0 then xu to' (ak.put g.pair 0 W) (some g.id) gs else CA W was g)=130;split at h
  .rename_i h0;rw [if_pos h0];exact XU b8 h
  .rename_i h0;exact absurd h h0
def ab9{f to to' b:ae}(h:mI f to b=0)(b8:to'≠to):mI f to' b=130:=by
 unfold mI at h ⊢;by_cases h0:jZ b=0
 .rw [if_pos h0] at h ⊢
  cases hp:ak.parse (s9 b) with
  | error e =>
   rw [hp] at h;exact absurd h (Vh hp)
  | ok W =>
   rw [hp] at h;have h:(if W.root=f then xu to W none (kS b) else 130)=0:=h
   show(if W.root=f then xu to' W none (kS b) else 130)=130
   by_cases hr:W.root=f
   .rw [if_pos hr] at h ⊢;exact XU b8 h
   .rw [if_neg hr]
 .rw [if_neg h0] at h;exact absurd h h0
theorem acS{c:Prop}[Decidable c]{id:ae}:∀{ks:aX},ks.Nodup->(ks.map λk=>if c/\id=k then 1 else 0).sum<=1
 | [],_=>bl _
 | k::ks,h=>by
  obtain⟨h1,h2⟩:=AF.1 h;rw [eZ,lA];by_cases hk:c/\id=k
  .rw [if_pos hk]
   have hz:∀l:aX,(∀x∈l,id≠x)->(l.map λk=>if c/\id=k then 1 else 0).sum=0:=λl=>by
    induction l with
    | nil=>exact λ_=>rfl
    | cons x l ih =>
     intro hl
     rw [eZ,lA,if_neg λhh=>hl x (.head _) hh.2,ih λy hy=>hl y (.tail _ hy)]
   rw [hz ks λx hx e=>h1 (by rw [<-hk.2,e];exact hx)];exact aQ _
  .rw [if_neg hk,dI];exact acS h2
theorem sum_add{α:Type}(f g:α->Nat):∀l:List α,(l.map λx=>f x+g x).sum=(l.map f).sum+(l.map g).sum
 | []=>rfl
 | x::l=>by simp only [eZ,lA,sum_add f g l];omega
theorem ac1{ks:aX}(hn:ks.Nodup):∀(us:cS) (l:bZ),(ks.map λk=>(dA k l us).length).sum<=us.length
 | [],l=>by
  have:(ks.map λk=>(dA k l []).length)=ks.map λ_=>0:=rfl;rw [this];clear this hn;induction ks with
  | nil=>exact aQ _
  | cons k ks ih=>rwa [eZ,lA,dI]
 | u::us,l=>by
  have h1:=ac1 hn us (kJ l (cy u));have h2:=acS (c:=pe l (cy u)=true) (id:=u.id) hn;have e:(ks.map λk=>(dA k l (u::us)).length)=ks.map λk=>(if pe l (cy u)=true/\u.id=k then 1 else 0)+(dA k (kJ l (cy u)) us).length:=Ab λk _=>by
   rw [Ge];split
   .rw [fL];omega
   .omega
  rw [e,sum_add,fL];omega
theorem aeH{K:Nat}:∀{gs:List cZ},(∀g∈gs,g.Fit)->(∀g∈gs,g.keys.length<=K)->(gs.map λg=>g.raw.bytes).flatten.length<=(56+32*K)*gs.length+136*(gs.map λg=>g.more.length).sum
 | [],_,_=>bl _
 | g::gs,h,hk=>by
  have h1:=aeH (K:=K) (gs:=gs) (λx hx=>h x (.tail _ hx)) λx hx=>hk x (.tail _ hx);have h2:=h g (.head _);have h3:=hk g (.head _);have h4:=ND h2.keys;have h5:=Ej λu hu=>(h2.more u hu).ok;have h6:=h2.id;have h7:g.raw.bytes.length=g.id.length+8+g.keys.flatten.length+8+(fk g.more).length:=by unfold oJ.bytes;simp only [aV,nQ];omega
  have h8:(56+32*K)*(gs.length+1)=(56+32*K)*gs.length+(56+32*K):=Nat.mul_succ _ _;rw [eZ,wE,aV,eZ,lA,fL,h8,h7];omega
def YZ{l:bZ}{us:cS}(ha:dj (ej l (us.map cy))):((fq l us).map cZ.id).Nodup:=by have h:=NN ha;rw [List.nodup_iff_pairwise_ne,List.pairwise_map];exact h.imp λsn=>(Fz sn).symm
def NO{l:bZ}{us:cS}(ha:dj (ej l (us.map cy))):((fq l us).map λg=>g.more.length).sum<=us.length/\(fq l us).length<=us.length:=by
 have h1:=ac1 (YZ ha) us l;rw [qB] at h1;have e:(fq l us).map ((λk=>(dA k l us).length) ∘ cZ.id)=(fq l us).map λg=>g.more.length:=Ab λg hg=>by obtain⟨_,_,h2,_⟩:=yQ hg;show(dA g.id l us).length=_;rw [h2]
 rw [e] at h1;refine⟨h1,fo ?_ h1⟩;have hp:∀gs:List cZ,(∀g∈gs,g.more≠[])->gs.length<=(gs.map λg=>g.more.length).sum:=λgs=>by
  induction gs with
  | nil=>exact λ_=>aQ _
  | cons g gs ih =>
   intro h
   have h2:=ih λx hx=>h x (.tail _ hx);have h3:=List.length_pos_iff.2 (h g (.head _));rw [fL,eZ,lA]
   omega
 exact hp _ λg hg=>(yQ hg).2.2.2
def ag8{l:bZ}{us:cS}{K:Nat}(hl:dj l)(hs:mq l)(ic:∀u∈us,u.aI)(hK:∀k,(cB l k).length<=K):(pL l us).length<=582*l.length+17+(56+32*K)*(fq l us).length+136*us.length:=by
 have ha:dj (ej l (us.map cy)):=hl.apply (zL ic);have h1:=aeH (K:=K) (NM hl hs ic) λg hg=>by rw [(yQ hg).2.1];exact hK g.id
 have h2:=(NO ha).1;have h3:=ak.Em 256 (d:=0) (ks:=(fq l us).map cZ.id) (DQ hl);have h4:(dg l).length=l.length:=dL ..;unfold pL;rw [V8];have h5:136*((fq l us).map λg=>g.more.length).sum<=136*us.length:=jI _ h2;omega
def asI{l:bZ}{m:Nat}(h:∀k,(cB l k).length<=m)(us:cS):∀k,(cB (ej l (us.map cy)) k).length<=m+us.length:=λk=>by have h1:=Ms k us l;have h2:=h k;rw [DA,aV,dL];omega
end Go.Proofs.Q
namespace Nums
def IW:ug:=⟨0,1,1⟩
def IX:ug:=⟨sa,rA,1⟩
def aEQ:sF IW Ed.zero:=by unfold sF IW;rw [Ij,wU];exact Ed.fw.zero nf
def aER:sF IX base:=by
 unfold sF IX;rw [wU];have e:∀u:F,u=u*1:=λu=>by grind only
 exact⟨λh=>DJ nf h.symm,e _,e _⟩
def aGH(n:Nat)(hn:n<2^256):sF (DI 256 n IW IX) (Ed.mul bP n base):=by
 have h:=O6 256 n IW IX Ed.zero base hn Ed.DC wT aEQ aER
 rwa [Ed.zero_add dn] at h
def Wf(t:ug)(zi:Nat):ae:=forced (t.y*zi%p) λy=>forced (t.x*zi%p%2) λo=>bytes 32 (y+(2^255)*o)
def aH1{t:ug}{A:Ed.bz p}(h:sF t A){zi:Nat}(hz:t.z*zi%p=1):hB A=Wf t zi:=by
 have h1:bJ t.z*bJ zi=1:=by rw [<-qH,<-wU];exact xZ (by rw [hz];decide)
 have hf:jn (bJ t.z)=bJ zi:=VU nf h1;have ha:=h.Xx nf;rw [hf,<-qH,<-qH] at ha;unfold Wf;simp only [Cj];rw [hB,vI,<-ha.1,<-ha.2,DD,DD]
end Nums
namespace Go.Proofs.Q
open Nums
def adP:Nat->Nat->Nat->aK
  | 0,_,_,a=>a
  | f+1,b,e,a=>forced (b*b%p) λb2=>forced (if e%2=1 then a*b%p else a) λa2=>adP f b2 (e/2) a2
def Un(n:Nat)(t:ug)(zi:Nat):Option ae:=if decide (n<2^256)&&decide (t.z*zi%p=1) then some (Wf t zi) else none
def aaS(n:Nat)(t:ug):Option ae:=forced (adP 255 t.z (p-2) 1) (Un n t)
def KX(seed:ae):Option ae:=forced (le (DK ((DE eQ 1 seed).take 32))) λn=>aaS n (DI 256 n IW IX)
def asD{n zi:Nat}{t:ug}{k:ae}(ht:DI 256 n IW IX=t)(h:Un n t zi=some k):hB (Ed.mul bP n base)=k:=by
 unfold Un at h;split at h
 .rename_i hc;rw [Bool.and_eq_true] at hc;injection h with h;rw [<-h];exact aH1 (ht▸aGH n (of_decide_eq_true hc.1)) (of_decide_eq_true hc.2)
 .cases h
def akD{seed:ae}(hs:seed.length=32):le (o9 seed)=le (DK ((DE eQ 1 seed).take 32)):=by rw [o9,xa,Pp 1 seed (by decide) (by decide) (by rw [aV,hs];decide +kernel)]
def asG{seed k:ae}(hs:seed.length=32)(h:KX seed=some k):o8 seed=k:=by rw [KX,Cj] at h;rw [o8,akD hs];generalize le (DK ((DE eQ 1 seed).take 32))=n at *;rw [aaS,Cj] at h;exact asD rfl h
theorem asE{seed:ae}(hs:seed.length=32)(h:(KX seed).isSome=true):o8 seed=(KX seed).getD []:=by
 cases hk:KX seed with
 | none=>rw [hk] at h;cases h
 | some k=>exact asG hs hk
open Go.RowKit Go.IntWalk
def aED:jF [aF 2]=DE cg 1 ([[2],br 1,DE cg 2 ([[3],MO,aF 2]:aX).flatten]:aX).flatten:=by have h1:sd [aF 2]=DE cg 2 ([[3],MO,aF 2]:aX).flatten:=Pp (s:=cg) 2 _ (by decide) (by decide) (by decide +kernel);unfold jF;rw [h1];exact Pp (s:=cg) 1 _ (by decide) (by decide) (by decide +kernel)
def az5:iw 256 (dg [(o8 (aF 1),[aF 2])])≠aF 1:=by show qW (o8 (aF 1),jF [aF 2])≠aF 1;rw [asE (seed:=aF 1) rfl (by decide +kernel),aED,qW,Pp (s:=cg) 2 _ (by decide) (by decide) (by decide +kernel)];decide +kernel
def ao9:Spec 5 [] [] eI (one (.v (.bool true))):=by
 have hm:=Z7 (seed:=aF 1) (key:=aF 2) 1 rfl rfl;have qV:eV (uO (aF 1) 1 (aF 2))=true:=aBG _ _ _;have bx:(uO (aF 1) 1 (aF 2)).aI:=abY _ _ rfl;have hid:(uO (aF 1) 1 (aF 2)).id=o8 (aF 1):=rfl;have arS:(uO (aF 1) 1 (aF 2)).ver=1:=rfl;have BW:(uO (aF 1) 1 (aF 2)).key=aF 2:=rfl;have hrf:=az5;rw [<-hid] at hrf;generalize uO (aF 1) 1 (aF 2)=u at *;have iC:ej [] ([u].map cy)=[(u.id,[aF 2])]:=by show kJ [] (cy u)=_;rw [QM (l:=[]) ⟨qV,by rw [arS];rfl⟩,BW];rfl
 have fT:∀y∈[u],y.aI:=λy hy=>by rw [bU.1 hy];exact bx
 have ha:dj (ej [] ([u].map cy)):=dj.nil.apply (zL fT);have mC:=(NO ha).2;have gS:=ag8 (K:=0) dj.nil MN.small fT (λk=>aQ _);have xN:=(ag7 (l:=[]) dj.nil MN.small fT (by show 0+1<=1000;decide)).2.2;have xN:mI dx (iw 256 (dg (ej [] ([u].map cy)))) (pL [] [u])=0:=xN;rw [iC] at xN;have aqH:=ab9 xN hrf.symm;have gS:(pL [] [u]).length<=30000:=by have h1:(fq [] [u]).length<=1:=mC;have h2:(56+32*0)*(fq [] [u]).length<=56*1:=jI _ h1;have h3:([]:bZ).length=0:=rfl;have h4:[u].length=1:=rfl;omega
 have aa:∀A c,Spec 7 [(nU vS).den,.slice A [u].length c] [] (λw=>eI w/\vS.F w/\ar 129 dT A c [u] w) (FG (pL [] [u])):=λA c=>XB MN (us:=[u]) fT (by show 0+1<=1000;decide) (fo mC (by show 1<=12;decide));generalize pL [] [u]=dw at *;refine bA [] 28 func5 rfl (ab:=λ_ h=>by cases h) λb=>ag rfl (aA rfl λK1 aS=>Lc [(0,.v (.int .u8 1))] 32 (aF 1) rfl rfl rfl rfl rfl (aj rfl (Lc [(0,.v (.int .u8 2))] 32 (aF 2) rfl rfl rfl rfl rfl (bY [.agg (By (aF 1)).toArray,.int .i64 1,.agg (By (aF 2)).toArray] rfl hm (λ_ h _=>h) λ_=>aj rfl (ah (aS _ (aA rfl λK2 aM=>jC an 0 [u] (fe:=dT) rfl rfl rfl (λ_=>rfl) rfl (λy hy=>by rw [bU.1 hy];exact GM bx) (bl _) λB=>iU 0 rfl (bY [(nU vS).den,.slice B [u].length 1] rfl (Ya MN (us:=[u]) fT (by show 0+1<=1000;decide)) (λw h _=>⟨h.2.2,W8 w,h.1⟩) λd=>aj rfl ?_))))))));refine Uv (d.aI/\d.l=ej [] ([u].map cy)) (λ_ h _=>⟨h.1.2.1,h.1.2.2.2⟩) λ⟨hd,hl⟩=>?_;rw [iC] at hl;refine ah (aM _ (aA rfl λK3 bu=>jC an 0 [u] (fe:=dT) rfl rfl rfl (λ_=>rfl) rfl (λy hy=>by rw [bU.1 hy];exact GM bx) (bl _) λB2=>iU 0 rfl (bY [(nU vS).den,.slice B2 [u].length 1] rfl (aa B2 1) (λw h _=>⟨h.2.2.2.2,W8 w,h.1⟩) λgs=>aj rfl (ah (bu _ ?_)))));have lj:=Sc hd;rw [hl] at lj;have Cd:(iw 256 (dg [(u.id,[aF 2])])).length=32:=by rw [<-hl,<-hd.tree.root];exact d.t.uS
 generalize iw 256 (dg [(u.id,[aF 2])])=rt at *;have yU:=M4 (f:=dx) (t:=rt) rfl Cd (A:=some ⟨gs,0,none⟩) (c:=dw.length) dw gS;have n6:=M4 (f:=dx) (t:=aF 1) rfl rfl (A:=some ⟨gs,0,none⟩) (c:=dw.length) dw gS;rw [xN] at yU;rw [aqH] at n6;refine aA rfl λK4 bW=>bY [(nU d).den] (hf:=PS) rfl lj (λ_ h _=>h.2.2.1.1) λ_=>aj rfl (bY [(aw 32 dx).den,(aw 32 rt).den,cj gs dw.length dw.length] (hf:=PR) rfl yU (λw h hM=>⟨h.2.2.2.2.2.2,hM.2.1⟩) λ_=>aj rfl (pd 21 true rfl rfl (aj rfl (Lc [(0,.v (.int .u8 1))] 32 (aF 1) rfl rfl rfl rfl rfl (aj rfl (bY [(aw 32 dx).den,(aw 32 (aF 1)).den,cj gs dw.length dw.length] (hf:=PR) rfl n6 (λw h hM=>⟨h.2.2.2.2.2.2.2,hM.2.2.1⟩) λ_=>aj rfl (ah (bW _ ?_))))))));exact aJ (x8 an () rfl rfl rfl trivial rfl aD au)
structure lz where
  A:aO
  c:Nat
  l:cS
def yI(m:lz):aL:=.c (.v (.slice m.A m.l.length m.c))
def JG(m:lz):ch (yI m).fA/\(yI m).cp.length=1:=⟨λx hx=>by rw [bU.1 hx];exact⟨trivial,rfl,rfl⟩,rfl⟩
abbrev v9(m:lz):fS:=bL 0 68 129 dT m.A m.c m.l
abbrev CO(A:aO)(c:Nat)(l:List lz):fS:=bL 0 41 1 yI A c l
structure RC where
  i:Nat
  y:fR
  ids:aX
  U:ly
  mos:List lz
  V:ly
structure zX(x:fR)(us:cS)(s:RC):Prop where
  i:s.i<=us.length
  ids:nJ x.l (us.take s.i) s.ids
  mos:s.mos.map lz.l=s.ids.map λk=>dA k x.l (us.take s.i)
  y:s.y.l=ej x.l ((us.take s.i).map cy)
def auO{ids:aX}{mos:List lz}{f:ae->cS}{q:Nat}{k0:ae}{u:UV}{m':lz}(hn:ids.Nodup)(hm:mos.map lz.l=ids.map f)(hq:ids[q]?=some k0)(h':m'.l=f k0++[u]):(mos.set q m').map lz.l=ids.map λk=>f k++(if k0=k then [u] else []):=by
 apply List.ext_getElem?;intro j;have hj:=congrArg (λl=>l[j]?) hm;simp only [lC] at hj ⊢;rw [List.getElem?_set];have qT:mos.length=ids.length:=by
  have:=congrArg jQ hm
  rwa [dL,dL] at this
 have Ht:=(eY.1 hq).1;by_cases e:q=j
 .subst e;rw [if_pos rfl,if_pos (by omega),hq];simp [h']
 .rw [if_neg e,hj]
  cases hk:ids[j]? with
  | none=>rfl
  | some k =>
   have b8:k0≠k:=λe2=>by subst e2;exact e ((List.getElem?_inj Ht hn).1 (hq.trans hk.symm))
   simp [b8]
def zX.len{x:fR}{us:cS}{s:RC}(h:zX x us s):s.mos.length=s.ids.length:=by
 have:=congrArg jQ h.mos
 rwa [dL,dL] at this
def arY{l:bZ}{us:cS}{ids:aX}(ha:dj (ej l (us.map cy)))(h:nJ l us ids):ids.length=(fq l us).length:=by
 have h1:=LD h.nd (m:=(fq l us).map cZ.id) λk hk=>dv.2 ⟨_,JV ((h.mem k).1 hk),rfl⟩;have h2:=LD (YZ ha) (m:=ids) λk hk=>by obtain⟨g,hg,rfl⟩:=dv.1 hk;obtain⟨_,_,h3,h4⟩:=yQ hg;exact(h.mem g.id).2 (by rwa [h3] at h4)
 rw [dL] at h1 h2;omega
def nJ.same{l:bZ}{us:cS}{ids:aX}(h:nJ l us ids):ak.cut 256 0 (dg l) ids=ak.cut 256 0 (dg l) ((fq l us).map cZ.id):=Sa 256 0 _ λk=>by
 rw [h.mem];constructor
 .exact λhk=>dv.2 ⟨_,JV hk,rfl⟩
 .intro hk
  obtain⟨g,hg,rfl⟩:=dv.1 hk;obtain⟨_,_,h3,h4⟩:=yQ hg
  rwa [h3] at h4
def Ja(ids:aX)(id:ae)(r:Nat)(at_:Int):Prop:=(at_ = -1/\id∉ids.take r)\/∃q:Nat,q<r/\at_=(q:Int)/\ids[q]?=some id
def Ja.next{ids:aX}{id k:ae}{r:Nat}{a:Int}(h:Ja ids id r a)(hk:ids[r]?=some k):Ja ids id (r+1) (if k=id then(r:Int) else a):=by
 by_cases e:k=id
 .rw [if_pos e];exact .inr ⟨r,Nat.lt_succ_self r,rfl,by rw [hk,e]⟩
 .rw [if_neg e]
  rcases h with⟨h1,h2⟩|⟨q,h1,h2,h3⟩
  .refine .inl ⟨h1,λhm=>?_⟩
   rw [qw,hk] at hm;rcases iA.1 hm with hm|hm
   .exact h2 hm
   .exact e ((bU.1 (by simpa using hm)).symm)
  .exact .inr ⟨q,Nat.lt_succ_of_lt h1,h2,h3⟩
section
variable{b:bO}{Q:bK}{N:Nat}{E:aG}{L:aH}{R:bF}{F M:aE}{c:Code}
theorem afZ:∀(ms:List lz) {F:aE},cN prog b c Q N ⟨E,L,R,λw=>(∀m∈ms,ar 129 dT m.A m.c m.l w)/\F w,M⟩->cN prog b c Q N ⟨E,L,ms.map v9++R,F,M⟩
 | [],F,h=>λa w ⟨G,S,h1,h2,h3⟩=>h a w ⟨G,S,h1,h2,h3.imp (λ_ h _=>⟨λ_ h=>(by cases h),h⟩) λ_ h=>h⟩
 | p::ai,F,h=>λa w ⟨G,S,h1,h2,h3⟩=>by
  obtain⟨S',h4⟩:=h3.free (i:=0) rfl;refine afZ ai (F:=λw=>ar 129 dT p.A p.c p.l w/\F w) (λa w ⟨G,S,h1,h2,h3⟩=>h a w ⟨G,S,h1,h2,?_⟩) a w ⟨G,S',h1,h2,h4⟩;refine h3.imp (λw h _=>⟨λq hq=>?_,h.2.2⟩) λ_ h=>h;rcases bT.1 hq with rfl|hq
  .exact h.2.1
  .exact h.1 q hq
end
structure Rq where
  q:Nat
  B:aO
  d:Nat
  o:ae
structure AtS where
  r:Nat
  a:Int
def zX.next{x:fR}{us:cS}{i:Nat}{y':fR}{ids':aX}{U':ly}{mos':List lz}{V':ly}{u:UV}(hu:us[i]?=some u)(hy:pe (ej x.l ((us.take i).map cy)) (cy u)=true)(hi:nJ x.l (us.take (i+1)) ids')(hm:mos'.map lz.l=ids'.map λk=>dA k x.l (us.take i)++(if u.id=k then [u] else []))(hl:y'.l=ej x.l ((us.take (i+1)).map cy)):zX x us ⟨i+1,y',ids',U',mos',V'⟩:=by have al:=(eY.1 hu).1;refine⟨al,hi,?_,hl⟩;show mos'.map lz.l=_;rw [hm];exact Ab λk _=>(Wn hu hy k).symm
def zX.no{x:fR}{us:cS}{i:Nat}{y:fR}{ids:aX}{U:ly}{mos:List lz}{V:ly}{u:UV}(h:zX x us ⟨i,y,ids,U,mos,V⟩)(hu:us[i]?=some u)(hy:¬pe (ej x.l ((us.take i).map cy)) (cy u)=true)(hl:y.l=ej x.l ((us.take (i+1)).map cy)):zX x us ⟨i+1,y,ids,U,mos,V⟩:=by have al:=(eY.1 hu).1;refine⟨al,h.ids.not hu hy,?_,hl⟩;show mos.map lz.l=_;rw [show mos.map lz.l=ids.map λk=>dA k x.l (us.take i) from h.mos];exact Ab λk _=>(ah8 hu hy k).symm
def nJ.len{l:bZ}{us:cS}{ids:aX}(h:nJ l us ids):ids.length<=us.length:=by
 have h1:=LD h.nd (m:=us.map UV.id) λk hk=>by obtain⟨u,hu⟩:=tK _ ((h.mem k).1 hk);obtain⟨a1,a2,_⟩:=D4 k hu;exact dv.2 ⟨u,a1,a2⟩
 rwa [dL] at h1
def nJ.fl{l:bZ}{us:cS}{i:Nat}{ids:aX}(h:nJ l (us.take i) ids)(ic:∀u∈us,u.aI):∀k∈ids,k.length=32:=λk hk=>by obtain⟨u,hu⟩:=tK _ ((h.mem k).1 hk);obtain⟨a1,a2,_⟩:=D4 k hu;rw [<-a2];exact(ic u (HI a1)).id
def L5:=@underlying24
theorem azM(x:fR)(hd:dj x.l)(lH:mq x.l){A B:aO}{c c2:Nat}{us:cS}(ic:∀u∈us,u.aI)(hl:x.es.length+us.length<=1000) :
  Spec 8 [(uu x).den,.slice A us.length c,.slice B us.length c2] [] (λw=>x.F w/\ar 129 dT A c us w/\ar 1 ps B c2 (us.map eV) w) (UN (pL x.l us)):=by
 refine bA [.p x.parts,.c (.v (.slice A us.length c)),.c (.v (.slice B us.length c2))] 153 func8 rfl (ab:=uP x.ig (dZ trivial trivial)) λb=>ag rfl (ag rfl (aA rfl λK0 jf=>Ld an 0 0 (⟨none,0,[]⟩:lz) (fe:=yI) rfl rfl rfl rfl rfl rfl (JG _) (by decide) (by decide) (bl _) λV0=>aj rfl (ah (jf _ (ag rfl (pF 0 47 32 (aw 32) (ao λK hK=>ag rfl (a8 ?_))))))))
 let Ff:aE:=λw=>x.F w/\ar 129 dT A c us w/\ar 1 ps B c2 (us.map eV) w
 let Es:Nat->aX->ly->List lz->ly->aG:=λi ids U mos V=>[(27,.aT i),(26,.aT us.length),(25,.v (.slice A us.length c)),(2,.v (.slice B us.length c2)),(9,.v (.slice U.1 ids.length U.2)),(8,.v (.slice V.1 mos.length V.2)),(3,.a 3 0),(7,.a 7 0)]
 let Ls:fR->aH:=λy=>[⟨7,none,36,y.parts⟩,⟨3,none,36,x.parts⟩]
 let Rs:aX->ly->List lz->ly->bF:=λids U mos V=>iN U.1 U.2 ids::CO V.1 V.2 mos::mos.map v9
 let Fs:RC->Env:=λs=>⟨Es s.i s.ids s.U s.mos s.V,Ls s.y,Rs s.ids s.U s.mos s.V,λw=>Ff w/\s.y.F w,λ_=>True⟩
 refine cI (e':=Fs ⟨0,x,[],(none,0),[],(V0,0)⟩) ⟨dB rfl, c8 rfl rfl, .refl _,λ_ h _=>⟨h,h.1⟩, au⟩ (cY (λs=>us.length-s.i) Fs (zX x us) ?_ ⟨0,x,[],(none,0),[],(V0,0)⟩ ⟨bl _,nJ.nil _,rfl,rfl⟩)
 rintro⟨i,y,ids,U,mos,V⟩ hI
 obtain⟨hi,qb,Of,pz⟩:=id hI
 dsimp only at hi qb Of pz
 have TV:Gi ((us.take i).map cy):=zL λu hu=>ic u (HI hu)
 have ZF:dj y.l:=by rw [pz];exact hd.apply TV
 have hsy:mq y.l:=by rw [pz];exact lH.apply
 have aIN:y.es.length<=x.es.length+i:=by have h1:=GF ((us.take i).map cy) x.l;rw [<-pz,y.len,x.len,dL,du] at h1;omega
 have qT:=hI.len
 dsimp only at qT
 refine ag rfl (ao λK5 bN=>?_);refine bn ((i:Int)<(us.length:Int)) rfl (λal=>?_) (λcW=>?_)
 .have al:i<us.length:=by omega
  obtain⟨u,hu⟩:∃u,us[i]?=some u:=⟨_,da al⟩;have fT:=ic u (eg hu);have hS:=Wi hu x.l;rw [<-pz] at hS;have sv:(us.map eV)[i]?=some (eV u):=by rw [lC,hu];rfl
  refine aR (bN _ (ao λK6 cr=>?_));have su:∀y' ids' U' mos' V',zX x us ⟨i+1,y',ids',U',mos',V'⟩->∀e',gj e' ⟨Es i ids' U' mos' V',Ls y',Rs ids' U' mos' V',λw=>Ff w/\y'.F w,λ_=>True⟩->cl b K6 153 e':=by intro y' ids' U' mos' V' hI' e' hw;refine ft hw (cr _ (cE rfl ?_));exact cH ⟨i+1,y',ids',U',mos',V'⟩ hI' (by show us.length-(i+1)<us.length-i;omega) ⟨⟨rO i us.length (by omega) al,rfl,rfl,rfl,rfl,rfl,rfl,rfl,trivial⟩,c8 rfl rfl, .refl _,λ_ h _=>h,λ_ h=>h⟩
  refine a8 (aA rfl λK7 df=>jh an rfl rfl rfl i rfl hu rfl rfl (dX λ_ h _=>h.1.2.1) (aj rfl (ah (df _ (ao λK8 gw=>?_)))));have o7:¬pe (ej x.l ((us.take i).map cy)) (cy u)=true->∀e',gj e' ⟨Es i ids U mos V,Ls y,Rs ids U mos V,λw=>Ff w/\y.F w,λ_=>True⟩->cl b K6 153 e':=λhn=>su y ids U mos V (hI.no hu hn (by rw [hS];exact(if_neg (by rw [pz];exact hn)).symm));refine nw 16 λK9 l5 G S w0 aa=>?_;refine dC aa rfl (NV aa rfl rfl rfl rfl rfl i rfl sv (by rw [dL]) rfl (dX λ_ h _=>h.1.2.2) ?_);have aI6:ids.length<=i:=by have:=qb.len;rw [du] at this;omega
  cases hs:eV u with
  | false =>
   refine qO 35 false rfl rfl (dC aa rfl (jR aa (ah (l5 _ (ir rfl ?_)))));refine cG (a6 (cF (o7 (λh=>?_) _ (hv rfl rfl rfl))));have h:=(Cy.1 h).1;rw [hs] at h
   cases h
  | true =>
   refine qO 35 true rfl rfl (dC aa rfl (wL (F':=y.F) aa [(uu y).den,(aw 32 u.id).den] rfl rfl rfl rfl (λ_=>rfl) (Vu y fT.id) (λw ab _=>ab.fact.2) λs _=>?_));obtain⟨s,gS⟩:=s;have Hh:=hsy.keys u.id;refine dC aa rfl (jR aa (ah (l5 _ ?_)));have zd:IntKind.i64.wrap ((s.l.length:Int)+1)=(s.l.length:Int)+1:=jv rfl (by rw [gS];omega) (by rw [gS];omega);refine bn (u.ver≠IntKind.i64.wrap ((s.l.length:Int)+1)) rfl (λab=>?_) (λab=>?_)
   .refine cG (a6 (cF (o7 (λh=>ab ?_) _ (hv rfl rfl rfl))));rw [zd,gS,pz];exact(Cy.1 h).2
   have ab:u.ver=((cB y.l u.id).length:Int)+1:=by rw [zd,gS] at ab;exact pJ.1 ab
   have bx:pe (ej x.l ((us.take i).map cy)) (cy u)=true:=by rw [<-pz];exact Cy.2 ⟨hs,ab⟩
   refine aR (gw _ (aA rfl λKa kM=>bY [(uu y).den,(aw 32 u.id).den,(aw 32 u.key).den] rfl (ae5 y ZF hsy (by omega) fT.id fT.key) (λ_ h _=>h.2) λy'=>?_));obtain⟨y',hy1,hy2⟩:=y'
   have hy'l:y'.l=ej x.l ((us.take (i+1)).map cy):=by rw [hS,QM ⟨hs,ab⟩];exact hy2
   refine aj rfl (ah (kM _ (ag rfl (ao λKb mA=>ag rfl (a8 ?_)))))
   let Ls2:aH:=⟨11,none,68,u.parts⟩::Ls y'
   let F2:aE:=λw=>Ff w/\y'.F w
   let E2:Int->aG:=λa=>(12,.v (.int .i64 a))::(11,.a 11 0)::Es i ids U mos V
   let Gs:AtS->Env:=λs=>⟨(56,.aT s.r)::(55,.aT ids.length)::(54,.v (.slice U.1 ids.length U.2))::E2 s.a,Ls2,Rs ids U mos V,F2,λ_=>True⟩
   refine cI (e':=Gs ⟨0, -1⟩) ⟨dB rfl, c8 rfl rfl, .refl _,λ_ h _=>⟨h.2.1,h.1⟩, au⟩ (cY (λs=>ids.length-s.r) Gs (λs=>s.r<=ids.length/\Ja ids u.id s.r s.a) ?_ ⟨0, -1⟩ ⟨bl _,.inl ⟨rfl,by simp⟩⟩)
   rintro⟨r,a⟩ ⟨hr,ha⟩
   dsimp only at hr ha
   refine ag rfl (ao λKc wK=>?_);refine bn ((r:Int)<(ids.length:Int)) rfl (λAq=>?_) (λcW=>?_)
   .have Aq:r<ids.length:=by omega
    obtain⟨k,hk⟩:∃k,ids[r]?=some k:=⟨_,da Aq⟩;refine aR (wK _ (ao λKd BQ=>a8 ?_));have yW:=qb.fl ic k (eg hk);refine aA rfl λKe J0=>jh an rfl rfl rfl r rfl hk rfl rfl (fu 0 rfl) (aj rfl (ah (J0 _ (aA rfl λKf J1=>b6 (.b (decide (k=u.id))) rfl (F6 rfl rfl rfl dp (by kernel_rfl) yW fT.id) (ah (J1 _ ?_))))));have jB:∀a',Ja ids u.id (r+1) a'->∀e',gj e' ⟨(56,.aT r)::(55,.aT ids.length)::(54,.v (.slice U.1 ids.length U.2))::E2 a',Ls2,Rs ids U mos V,F2,λ_=>True⟩->cl b Kd 153 e':=by intro a' ha' e' hw;refine ft hw (BQ _ (cE rfl ?_));exact cH ⟨r+1,a'⟩ ⟨Aq,ha'⟩ (by show ids.length-(r+1)<ids.length-r;omega) ⟨⟨rO r ids.length (by omega) Aq,rfl,rfl,rfl,rfl,rfl,rfl,rfl,rfl,rfl,rfl,rfl,rfl,trivial⟩,c8 rfl rfl, .refl _,λ_ h _=>h,λ_ h=>h⟩
    have NY:=ha.next hk;refine bn (k=u.id) rfl (λhe=>?_) (λhe=>?_)
    .rw [if_pos he] at NY;refine cE rfl ?_;exact jB _ NY _ (hv rfl rfl rfl)
    .rw [if_neg he] at NY;exact aR (jB _ NY _ (hv rfl rfl rfl))
   obtain rfl:ids.length=r:=by omega
   refine cG (a6 (a6 (cF (mA _ (ao λKg SB=>?_)))))
   have hC:∀ids' U' mos' V' (q:Nat),nJ x.l (us.take (i+1)) ids'->mos'.map lz.l=(ids'.map λk=>dA k x.l (us.take i))->ids'[q]?=some u.id->∀e',gj e' ⟨(12,.aT q)::(11,.a 11 0)::Es i ids' U' mos' V',Ls2,Rs ids' U' mos' V',F2,λ_=>True⟩->cl b Kg 153 e':=by
    intro ids' U' mos' V' q hi' hm' hq e' hw;have Ht:=(eY.1 hq).1;have hml':mos'.length=ids'.length:=by
     have:=congrArg jQ hm'
     rwa [dL,dL] at this
    have hil':ids'.length<=us.length:=by have:=hi'.len;rw [du] at this;omega
    obtain⟨m,hm⟩:∃m,mos'[q]?=some m:=⟨_,da (by omega)⟩;have Hk:m.l=dA u.id x.l (us.take i):=by have h1:=congrArg (λl=>l[q]?) hm';simp only [lC,hm,hq] at h1;exact jm h1
    have aqO:m.l.length<=us.length:=by rw [Hk];have:=Ms u.id (us.take i) x.l;rw [du] at this;omega
    obtain⟨a1,a2,apX,l7⟩:∃a1 a2,mos'=a1++m::a2/\a1.length=q:=by refine⟨mos'.take q,mos'.drop (q+1),?_,by rw [du];omega⟩;have h1:=oN q mos';rw [List.drop_eq_getElem?_toList_append,hm] at h1;exact h1.symm
    subst apX l7;obtain⟨vA,vc⟩:=V';have Dk:∀m',(a1++m::a2).set a1.length m'=a1++m'::a2:=λm'=>by rw [yF _ _ (aQ _),si];rfl
    have Om:∀(n:lz) (ms:List lz),kR (iN U'.1 U'.2 ids'::CO vA vc ms::(a1++n::a2).map v9) (v9 n::CO vA vc ms::iN U'.1 U'.2 ids'::(a1++a2).map v9):=λn ms=>by rw [jl,jl,eZ];exact(List.perm_middle (l₁:=iN U'.1 U'.2 ids'::CO vA vc ms::a1.map v9) (a:=v9 n) (l₂:=a2.map v9)).trans ((lM _ _ _).cons _)
    refine ft hw (SB _ ?_);refine cI (e':=⟨(12,.aT a1.length)::(11,.a 11 0)::Es i ids' U' (a1++m::a2) (vA,vc),Ls2,v9 m::CO vA vc (a1++m::a2)::iN U'.1 U'.2 ids'::(a1++a2).map v9,F2,λ_=>True⟩) ⟨dB rfl, ⟨rfl,rfl,rfl,rfl,rfl,rfl,trivial⟩,Om m _,λ_ h _=>h,λ_ h=>h⟩ ?_;have hlen:a1.length<(a1++m::a2).length:=by rw [aV,fL];omega
    refine QE 1 rfl (nc (bl _) hlen) λg hA=>?_;subst hA;refine rS λGl=>?_;have gA:∀{E1:aG} {R1:bF} {F1 M1:aE} {L1:aH} (n:Nat),R1[n]?=some (CO (some ⟨g,0,none⟩) vc (a1++m::a2))->∀a w,iz b 153 ⟨E1,L1,R1,F1,M1⟩ a w->ar 1 yI (some ⟨g,0,none⟩) vc (a1++m::a2) w:=λn hn a w aa=>by obtain⟨_,_,_,_,h⟩:=aa;exact fu n hn _ _ _ h.view
    refine lv [0,1,2,3,4,5,6] 9 2 (λw=>iV (iH Gl Ls2) w/\ar 1 yI (some ⟨g,0,none⟩) vc (a1++m::a2) w) rfl (λa w h=>⟨iE mj a w h,gA 1 rfl a w h⟩) ?_;refine cK 0 rfl (λ_ h=>h) (λ_ h=>h.1) (cK 1 rfl (λ_ h=>h) (λ_ h=>h.1) (cK 2 rfl (λ_ h=>h) (λ_ h=>h.1) (cK 3 rfl (λ_ h=>h) (λ_ h=>h.1) (kp (.v (.pointer (some ⟨g,0+1*a1.length,none⟩))) 4 rfl rfl rfl (lO a1.length rfl L5 rfl rfl rfl hlen) (LP (.v (.slice m.A m.l.length m.c)) 5 rfl rfl rfl (Be (q:=yI m) (k':=1) (c:=vc) (j:=a1.length) (off:=0) (g:=g) (a:=0) (fe:=yI) (l:=a1++m::a2) an rfl rfl hm rfl (JG m).1 λG S w h=>h.fact.2) (cK 6 rfl (λ_ h=>h) (λ_ h=>h.1) ?_))))));refine eN 7 rfl λKa kM=>?_;refine jC an 0 [u] (fe:=dT) rfl rfl rfl (λ_=>rfl) rfl (λx hx=>by rw [bU.1 hx];exact GM fT) (bl _) λB1=>ah (kM _ (λa w h=>⟨iE mj a w h,gA 2 rfl a w h⟩) ?_);refine eN 8 rfl λKb mA=>?_;refine iU 0 rfl (mc an 0 [u] (fe:=dT) rfl rfl rfl rfl rfl rfl rfl (dX λw h _=>h.1) (by show(m.l.length+1)*136<=_;omega) (by show m.l.length+1<=_;omega) (bl _) λA2 d2=>ah (mA _ (λa w h=>⟨iE mj a w h,gA 1 rfl a w h⟩) (kQ [9,10] rfl (b6 (.v (.pointer (some ⟨g,0+1*a1.length,none⟩))) rfl (lO a1.length rfl L5 rfl rfl rfl hlen) (H9 1 a1.length m ⟨A2,d2,m.l++[u]⟩ rfl rfl rfl rfl (congrArg (λz:Nat=>some (aq.v (.pointer (some ⟨g,z,none⟩)))) (show 0+1*a1.length=1*a1.length+0 by omega)) rfl hm (by kernel_rfl) (JG m).2 (JG _) ?_)))));rw [Dk];refine ah (Co ?_);have hl8:∀n:lz,some (aq.v (cj g (a1++m::a2).length vc))=some (aq.v (cj g (a1++n::a2).length vc)):=λn=>by rw [aV,aV];rfl
    have jB:=auO (u:=u) (m':=⟨A2,d2,m.l++[u]⟩) hi'.nd hm' hq (by rw [<-Hk]);rw [Dk] at jB;exact su y' ids' U' (a1++⟨A2,d2,m.l++[u]⟩::a2) (some ⟨g,0,none⟩,vc) (zX.next hu bx hi' jB hy'l) _ ⟨⟨rfl,rfl,rfl,rfl,rfl,hl8 _,rfl,rfl,trivial⟩,⟨rfl,rfl,rfl,rfl,trivial⟩,(Om ⟨A2,d2,m.l++[u]⟩ (a1++⟨A2,d2,m.l++[u]⟩::a2)).symm,λ_ h _=>h.2,λ_ h=>h⟩
   have Oe:=Of
   rcases ha with⟨rfl,uC⟩|⟨q,hq,rfl,hqk⟩
   .rw [kW] at uC
    refine ag rfl ?_;refine bn ((-1:Int)<0) rfl (λ_=>?_) (λh=>absurd (by decide) h);refine aA rfl λKh SC=>lq an 0 u.id (fe:=aw 32) rfl rfl rfl rfl rfl rfl rfl (cq fT.id) (by show(ids.length+1)*32<=_;omega) (by show ids.length<_;omega) (bl _) λU1 u1=>aj rfl (ah (SC _ (aA rfl λKi SD=>lq an 1 (⟨none,0,[]⟩:lz) (fe:=yI) rfl rfl rfl rfl rfl rfl rfl (JG _) (by show(mos.length+1)*24<=_;omega) (by show mos.length<_;omega) (bl _) λV1 v1=>aj rfl (ah (SD _ (pF 0 68 129 dT (cE rfl ?_)))))));refine hC (ids++[u.id]) (U1,u1) (mos++[⟨none,0,[]⟩]) (V1,v1) ids.length (qb.new hu bx uC) ?_ (by simp) _ ⟨⟨?_,rfl,rfl,rfl,rfl,rfl,rfl,rfl,rfl,rfl,trivial⟩,⟨rfl,rfl,rfl,rfl,rfl,rfl,trivial⟩,?_,λ_ h _=>h,λ_ h=>h⟩
    .rw [jl,jl,Oe];have:dA u.id x.l (us.take i)=[]:=pJ.1 λh=>uC ((qb.mem u.id).2 h);simp [this]
    .show some (aq.v (.int .i64 (IntKind.i64.wrap (((ids++[u.id]).length:Int)-1))))=_;rw [aV];exact congrArg (λz=>some (aq.v (.int .i64 z))) (jv (by show((ids.length+1:Nat):Int)-1=_;omega) (by omega) (by omega))
    .show kR _ (iN U1 u1 (ids++[u.id])::CO V1 v1 (mos++[(⟨none,0,[]⟩:lz)])::(mos++[(⟨none,0,[]⟩:lz)]).map v9);rw [jl];exact(List.perm_append_singleton _ (iN U1 u1 (ids++[u.id])::CO V1 v1 (mos++[⟨none,0,[]⟩])::mos.map v9)).symm
   .refine ag rfl ?_;refine bn ((q:Int)<0) rfl (λh=>absurd h (by omega)) (λ_=>?_);exact aR (hC ids U mos V q (qb.eS hu bx (eg hqk)) Oe hqk _ (hv rfl rfl rfl))
 .obtain rfl:us.length=i:=by omega
  rw [kW] at qb Of pz;have iC:dj (ej x.l (us.map cy)):=hd.apply (zL ic);have Tp:=arY iC qb;have mC:=(NO iC).2;have N5:=NM hd lH ic;have aa6:=λg=>Y0 lH (us:=us) (g:=g);have fM:=ak.Em 256 (d:=0) (ks:=ids) (DQ hd);have ky:(dg x.l).length=x.es.length:=by rw [dg,dL,x.len]
  have hPl:(ak.cut 256 0 (dg x.l) ids).bytes.length<=600000:=by have h3:(70+2*256)*(dg x.l).length<=(70+2*256)*1000:=jI _ (by omega);omega
  have wO:=λA c A2 c2=>(ayL 256 0 (dg x.l) ids A c A2 c2 rfl (by omega) (by omega) (dj.AU hd).1 agG).aD4;have Ze:pL x.l us=pg (ak.cut 256 0 (dg x.l) ids).bytes (fq x.l us):=by unfold pL;rw [qb.same]
  obtain⟨W,hW⟩:∃W,(ak.cut 256 0 (dg x.l) ids).bytes=W:=⟨_,rfl⟩;rw [hW] at Ze hPl;have wO:∀A c A2 c2,Spec 29 [.slice A (dg x.l).length c,.slice A2 ids.length c2,.int .i64 0] [] (λw=>ar 64 kf A c (dg x.l) w/\ar 32 (aw 32) A2 c2 ids w) (UN W):=by rw [<-hW];exact wO
  have To:∀k∈ids,k.length=32:=nJ.fl (i:=us.length) (by rw [kW];exact qb) ic;have KG:=λX d=>aeS (X:=X) (d:=d) W (by omega);refine cG (a6 (a6 (cF (hK _ (mQ 0 rfl (mQ 0 rfl ?_))))));let F3:aE:=λw=>(∀m∈mos,ar 129 dT m.A m.c m.l w)/\ar 1 yI V.1 V.2 mos w/\ar 32 (aw 32) U.1 U.2 ids w/\Ff w/\y.F w;let E3:aG:=[(9,.v (.slice U.1 ids.length U.2)),(8,.v (.slice V.1 mos.length V.2)),(3,.a 3 0),(7,.a 7 0)];refine cI (e':=⟨E3,Ls y,mos.map v9++[],λw=>ar 1 yI V.1 V.2 mos w/\ar 32 (aw 32) U.1 U.2 ids w/\Ff w/\y.F w,λ_=>True⟩) ⟨dB rfl, ⟨rfl,rfl,rfl,rfl,trivial⟩,by rw [fj];exact .refl _,λ_ h _=>h,λ_ h=>h⟩ (afZ mos ?_);refine aA rfl λK1 aS=>bY [(uu x).den] rfl (ay9 x (by omega)) (λ_ h _=>h.2.2.2.1.1) λX=>aj rfl (bY [.slice X.1 (dg x.l).length X.2,.slice U.1 ids.length U.2,.int .i64 0] rfl (wO X.1 X.2 U.1 U.2) (λ_ h _=>⟨h.1,h.2.2.2.1⟩) λY=>aj rfl (bY [.slice Y.1 W.length Y.2] rfl (KG Y.1 Y.2) (λ_ h _=>h.1) λ⟨B0,d0⟩=>dz [bL 0 5 1 aY B0 d0 (br W.length++W)] rfl (aj rfl (ah (aS _ ?_)))));have yS:=nQ W.length;have SW:=nQ ids.length;refine aA rfl λK2 aM=>ca 99 (ids.length:Int) rfl (zN rfl (by omega) (by omega)) (bY [.int .u64 (ids.length:Int)] (hf:=It) rfl (Mb ids.length (by omega)) aD λgn=>mc an 0 (br ids.length) (fe:=aY) rfl rfl rfl rfl rfl rfl rfl (dX λw _ hM=>hM.1) (by rw [aV,yS,SW];show(_+8)*1<=_;omega) (by rw [aV,yS,SW];omega) (bl _) λB1 d1=>aj rfl (ah (aM _ (ao λK3 bu=>ag rfl (a8 ?_)))));let Xs:Nat->ae:=λq=>br W.length++W++br ids.length++((wI x.l us (y.l.take q)).map λg=>g.raw.bytes).flatten;have SL:∀q,(Xs q).length<=12600016:=λq=>by
   have h1:∀g∈wI x.l us (y.l.take q),g∈fq x.l us:=by rw [pz];exact ap5
   have h2:=Vw (gs:=wI x.l us (y.l.take q)) λg hg=>aeF (N5 g (h1 g hg)) (aa6 g (h1 g hg)).1 (aa6 g (h1 g hg)).2;have h3:(wI x.l us (y.l.take q)).length<=(y.l.take q).length:=List.length_filterMap_le _ _;rw [du,y.len] at h3;show(br W.length++W++br ids.length++_).length<=_;rw [aV,aV,aV,yS,SW];omega
  let Bs:Rq->Env:=λs=>⟨(105,.aT s.q)::(104,.aT y.es.length)::(103,.v (.slice y.A y.es.length y.c))::(15,.v (.slice s.B s.o.length s.d))::E3,Ls y,[bL 0 5 1 aY s.B s.d s.o],F3,λ_=>True⟩;refine cI (e':=Bs ⟨0,B1,d1,br W.length++W++br ids.length⟩) (fC rfl rfl rfl λ_ h _=>h.2.2.2.2) (cY (λs=>y.es.length-s.q) Bs (λs=>s.q<=y.es.length/\s.o=Xs s.q) ?_ ⟨0,B1,d1,br W.length++W++br ids.length⟩ ⟨bl _,by simp [Xs,wI]⟩);rintro⟨q,B2,d2,o⟩ ⟨hq,ho⟩;dsimp only at hq ho;refine ag rfl (ao λK4 bW=>?_);refine bn ((q:Int)<(y.es.length:Int)) rfl (λET=>?_) (λaI2=>?_)
  .have ET:q<y.es.length:=by omega
   obtain⟨e,he⟩:∃e,y.es[q]?=some e:=⟨_,da ET⟩;have sq:=eg he;have An:y.l[q]?=some (pZ e):=by unfold fR.l;rw [lC,he];rfl
   have Km:e.1.length=32:=ZF.ids (pZ e) (eg An);obtain⟨gr,oc⟩:∃gr:cZ,gr=⟨e.1,cB x.l e.1,dA e.1 x.l us⟩:=⟨_,rfl⟩;have Zk:Xs (q+1)=Xs q++(if e.1∈ids then gr.raw.bytes else []):=by
    show br W.length++W++br ids.length++((wI x.l us (y.l.take (q+1))).map λg=>g.raw.bytes).flatten=br W.length++W++br ids.length++((wI x.l us (y.l.take q)).map λg=>g.raw.bytes).flatten++_;rw [ap4 An,jl,Ag,<-ei];congr 1;by_cases hi:e.1∈ids
    .have h2:¬dA (pZ e).1 x.l us=[]:=(qb.mem e.1).1 hi;rw [if_pos hi,if_neg h2,oc];simp
    .have h2:dA (pZ e).1 x.l us=[]:=pJ.1 λh=>hi ((qb.mem e.1).2 h);rw [if_neg hi,if_pos h2];rfl
   have hXq:=SL q;rw [<-ho] at Zk hXq;refine aR (bW _ (ao λK5 bN=>a8 (aA rfl λK6 cr=>jh an rfl rfl rfl q rfl he rfl rfl (dX λ_ h _=>h.2.2.2.2.1) (aj rfl (ah (cr _ (ag rfl (a8 ?_))))))));let L4:aH:=⟨17,none,91,[.agg 32 (By e.1).toArray,.one (.v (.slice e.2.A e.2.l.length e.2.c))]⟩::Ls y;let E4:aG:=(17,.a 17 0)::(105,.aT q)::(104,.aT y.es.length)::(103,.v (.slice y.A y.es.length y.c))::E3;let Cs:Rq->Env:=λs=>⟨(111,.aT s.q)::(110,.aT ids.length)::(109,.v (.slice U.1 ids.length U.2))::(15,.v (.slice s.B s.o.length s.d))::E4,L4,[bL 0 5 1 aY s.B s.d s.o],F3,λ_=>True⟩;refine cI (e':=Cs ⟨0,B2,d2,o⟩) (hv rfl rfl rfl) (cY (λs=>ids.length-s.q) Cs (λs=>s.q<=ids.length/\s.o=o++(if e.1∈ids.take s.q then gr.raw.bytes else [])) ?_ ⟨0,B2,d2,o⟩ ⟨bl _,by simp⟩);rintro⟨r,B3,d3,o3⟩ ⟨hr,Hq⟩;dsimp only at hr Hq;refine ag rfl (ao λK7 df=>?_);refine bn ((r:Int)<(ids.length:Int)) rfl (λAq=>?_) (λaI3=>?_)
   .have Aq:r<ids.length:=by omega
    obtain⟨k,hk⟩:∃k,ids[r]?=some k:=⟨_,da Aq⟩;have yW:=To k (eg hk);have hS:ids.take (r+1)=ids.take r++[k]:=by rw [qw,hk];rfl
    have aqS:k∉ids.take r:=λhm=>by
     obtain⟨j,hj⟩:=Dq hm;rw [uq] at hj;split at hj
     .rename_i hjr;exact absurd ((List.getElem?_inj Aq qb.nd).1 (hk.trans hj.symm)) (by omega)
     .cases hj
    obtain⟨m,hm⟩:∃m,mos[r]?=some m:=⟨_,da (by omega)⟩;have Hk:m.l=dA k x.l us:=by have h1:=congrArg (λl=>l[r]?) Of;simp only [lC,hm,hk] at h1;exact jm h1
    have aqO:m.l.length<=us.length:=by rw [Hk];exact Ms k us x.l
    refine aR (df _ (ao λK8 gw=>?_));have jB:∀B' d' o',o'=o++(if e.1∈ids.take (r+1) then gr.raw.bytes else [])->∀e',gj e' ⟨(111,.aT r)::(110,.aT ids.length)::(109,.v (.slice U.1 ids.length U.2))::(15,.v (.slice B' o'.length d'))::E4,L4,[bL 0 5 1 aY B' d' o'],F3,λ_=>True⟩->cl b K8 153 e':=by intro B' d' o' ho' e' hw;refine ft hw (gw _ (cE rfl ?_));exact cH ⟨r+1,B',d',o'⟩ ⟨Aq,ho'⟩ (by show ids.length-(r+1)<ids.length-r;omega) ⟨⟨rO r ids.length (by omega) Aq,rfl,rfl,rfl,rfl,rfl,rfl,rfl,rfl,rfl,rfl,rfl,trivial⟩,c8 rfl rfl, .refl _,λ_ h _=>h,λ_ h=>h⟩
    refine a8 (aA rfl λK9 l5=>jh an rfl rfl rfl r rfl hk rfl rfl (dX λ_ h _=>h.2.2.1) (aj rfl (ah (rL 19 rfl (E':=(18,.aT r)::(111,.aT r)::(110,.aT ids.length)::(109,.v (.slice U.1 ids.length U.2))::(15,.v (.slice B3 o3.length d3))::E4) ⟨rfl,rfl,rfl,rfl,rfl,rfl,rfl,rfl,rfl,rfl,rfl,rfl,rfl,trivial⟩ λgi=>l5 _ (Bf 0 rfl (ao λKa kM=>aA rfl λKb mA=>gE rfl (kP λw h _=>h.1) (aj rfl (b6 (.b (!decide (k=e.1))) rfl (F7 rfl rfl rfl dp (by kernel_rfl) yW Km) (ah (mA _ ?_))))))))));refine pD (!decide (k=e.1)) rfl (λb8=>?_) (λb8=>?_)
    .have b8:k≠e.1:=by simpa using b8
     refine cG (a6 (cF (jB B3 d3 o3 ?_ _ ⟨dB rfl, c8 rfl rfl, .refl _,λ_ h _=>h.2,λ_ h=>h⟩)));rw [Hq,hS];congr 1;by_cases h:e.1∈ids.take r
     .rw [if_pos h,if_pos (List.mem_append_left _ h)]
     .rw [if_neg h,if_neg λh2=>(iA.1 h2).elim h λh3=>b8 (bU.1 h3).symm]
    have vx:k=e.1:=by simpa using b8
    have TB:o3=o:=by rw [Hq,if_neg (by rw [<-vx];exact aqS),fj]
    have iR:e.1∈ids.take (r+1):=by rw [hS,<-vx];exact List.mem_append_right _ (.head _)
    clear Hq;subst TB;refine aR (kM _ (aA rfl λKc wK=>gE rfl (kP λw h _=>h.1) (aj rfl (bY [(uu x).den,(aw 32 k).den] rfl (Vu x yW) (λ_ h _=>h.2.2.2.2.1.1) λ⟨s,gS⟩=>aj rfl (ah (wK _ ?_))))));have Hh:=lH.keys k;rw [<-gS] at Hh;refine aA rfl λKd BQ=>b6 (.v (cj gi 32 32)) rfl (yg (off:=0) rfl dp rfl rfl) (me 124 (.v (cj gi k.length 32)) rfl (by rw [yW]) (mc an 0 k (fe:=aY) rfl rfl rfl rfl rfl rfl rfl (dX λw h _=>PK h.2.1 (by decide)) (by show(o3.length+k.length)*1<=_;omega) (by show o3.length+k.length<=_;omega) (bl _) λB4 d4=>aj rfl (ah (BQ _ ?_))));have apZ:=nQ s.l.length;refine aA rfl λKe J0=>ca 129 (s.l.length:Int) rfl (zN rfl (by omega) (by omega)) (bY [.int .u64 (s.l.length:Int)] (hf:=It) rfl (Mb s.l.length (by omega)) aD λgn2=>mc an 0 (br s.l.length) (fe:=aY) rfl rfl rfl rfl rfl rfl rfl (dX λw _ hM=>hM.1) (by show((o3++k).length+(br s.l.length).length)*1<=_;rw [aV];omega) (by show(o3++k).length+(br s.l.length).length<=_;rw [aV];omega) (bl _) λB5 d5=>aj rfl (ah (J0 _ ?_)));obtain⟨Z,hZ⟩:∃Z,o3++k++br s.l.length=Z:=⟨_,rfl⟩;have hZl:Z.length<=12600056:=by rw [<-hZ,aV,aV,yW,apZ];omega
    rw [hZ];refine ao λKf J1=>ag rfl (a8 ?_);have aa5:∀z∈s.l,z.length=32:=by rw [gS];exact PF hd k
    let F5:aE:=λw=>s.rd w/\F3 w;let E5:aG:=(18,.aT r)::(111,.aT r)::(110,.aT ids.length)::(109,.v (.slice U.1 ids.length U.2))::E4;let Ks:Rq->Env:=λt=>⟨(134,.aT t.q)::(133,.aT s.l.length)::(132,.v (.slice s.A s.l.length s.c))::(15,.v (.slice t.B t.o.length t.d))::E5,L4,[bL 0 5 1 aY t.B t.d t.o],F5,λ_=>True⟩;refine cI (e':=Ks ⟨0,B5,d5,Z⟩) ⟨dB rfl, c8 rfl rfl, .refl _,λ_ h _=>⟨h.2.1,h.2.2.2⟩, au⟩ (cY (λt=>s.l.length-t.q) Ks (λt=>t.q<=s.l.length/\t.o=Z++(s.l.take t.q).flatten) ?_ ⟨0,B5,d5,Z⟩ ⟨bl _,by simp⟩);rintro⟨t,B6,d6,o6⟩ ⟨ht,KA⟩;dsimp only at ht KA;have aIG:o6.length=Z.length+32*t:=by rw [KA,aV,ND λz hz=>aa5 z (HI hz),du];omega
    refine ag rfl (ao λKg SB=>?_);refine bn ((t:Int)<(s.l.length:Int)) rfl (λOb=>?_) (λaI4=>?_)
    .have Ob:t<s.l.length:=by omega
     obtain⟨z,hz⟩:∃z,s.l[t]?=some z:=⟨_,da Ob⟩;have arW:=aa5 z (eg hz);refine aR (SB _ (ao λKh SC=>a8 (aA rfl λKi SD=>jh an rfl rfl rfl t rfl hz rfl rfl (dX λ_ h _=>h.1) (aj rfl (ah (rL 22 rfl (E':=(134,.aT t)::(133,.aT s.l.length)::(132,.v (.slice s.A s.l.length s.c))::(15,.v (.slice B6 o6.length d6))::E5) ⟨rfl,rfl,rfl,rfl,rfl,rfl,rfl,rfl,rfl,rfl,rfl,rfl,rfl,rfl,rfl,rfl,trivial⟩ λgz=>SD _ (Bf 0 rfl (ef (aj rfl (b6 (.v (cj gz 32 32)) rfl (yg (off:=0) rfl dp rfl rfl) (me 139 (.v (cj gz z.length 32)) rfl (by rw [arW]) (mc an 0 z (fe:=aY) rfl rfl rfl rfl rfl rfl rfl (dX λw h _=>PK h.1 (by decide)) (by show(o6.length+z.length)*1<=_;omega) (by show o6.length+z.length<=_;omega) (bl _) λB7 d7=>aj rfl (ah (SC _ (cE rfl ?_)))))))))))))));exact cH ⟨t+1,B7,d7,o6++z⟩ ⟨Ob,by show o6++z=_;rw [KA,qw,hz,Ag,ei];simp⟩ (by show s.l.length-(t+1)<s.l.length-t;omega) ⟨⟨rO t s.l.length (by omega) Ob,rfl,rfl,rfl,rfl,rfl,rfl,rfl,rfl,rfl,rfl,rfl,rfl,rfl,rfl,rfl,trivial⟩,c8 rfl rfl, .refl _,λ_ h _=>h.2, au⟩
    obtain rfl:s.l.length=t:=by omega
    rw [kW] at KA;refine cG (a6 (a6 (cF (J1 _ ?_))));have aqP:∀u∈m.l,u.aI:=λu hu=>by rw [Hk] at hu;exact ic u (D4 k hu).1
    have xK:=Ej aqP;have KH:=λX d=>aeS (X:=X) (d:=d) (fk m.l) (by omega);have aI0:=nQ (fk m.l).length;refine ef (aj rfl (jh an rfl rfl rfl r rfl hm rfl rfl (dX λ_ h _=>h.2.2.1) (aj rfl (bY [.slice m.A m.l.length m.c] rfl (ayH m.l (by omega)) (λ_ h _=>h.2.1 m (eg hm)) λY2=>aj rfl (bY [.slice Y2.1 (fk m.l).length Y2.2] rfl (KH Y2.1 Y2.2) (λ_ h _=>h.1) λ⟨B8,d8⟩=>iU 0 rfl (mc an 0 (br (fk m.l).length++fk m.l) (fe:=aY) rfl rfl rfl rfl rfl rfl rfl (dX λw h _=>h.1) (by show(o6.length+(br (fk m.l).length++fk m.l).length)*1<=_;rw [aV];omega) (by show o6.length+(br (fk m.l).length++fk m.l).length<=_;rw [aV];omega) (bl _) λB9 d9=>aj rfl ?_))))));refine ah (jB B9 d9 (o6++(br (fk m.l).length++fk m.l)) ?_ _ ⟨dB rfl, c8 rfl rfl, .refl _,λ_ h _=>?_, au⟩)
    .rw [KA,if_pos iR,<-hZ,oc];show _=o3++(e.1++(br (cB x.l e.1).length++((cB x.l e.1).flatten++(br (fk (dA e.1 x.l us)).length++fk (dA e.1 x.l us)))));rw [<-vx,<-Hk,gS];simp
    .exact h.2.2.2.2
   .obtain rfl:ids.length=r:=by omega
    rw [kW,<-Zk] at Hq;refine cG (a6 (a6 (cF (bN _ (cE rfl ?_)))));exact cH ⟨q+1,B3,d3,o3⟩ ⟨ET,Hq⟩ (by show y.es.length-(q+1)<y.es.length-q;omega) ⟨⟨rO q y.es.length (by omega) ET,rfl,rfl,rfl,rfl,rfl,rfl,rfl,trivial⟩,c8 rfl rfl, .refl _,λ_ h _=>h,λ_ h=>h⟩
  .obtain rfl:y.es.length=q:=by omega
   refine cG (a6 (a6 (cF (bu _ ?_))));have uy:o=pL x.l us:=by rw [ho,Ze];show br W.length++W++br ids.length++((wI x.l us (y.l.take y.es.length)).map λg=>g.raw.bytes).flatten=br W.length++(W++(br (fq x.l us).length++((fq x.l us).map λg=>g.raw.bytes).flatten));rw [<-y.len,kW,pz,ap3,Tp,ei,ei]
   subst uy;refine mQ 0 rfl (ag rfl ?_);exact aJ (bE (B2,d2) rfl (λw h _=>h.1) au)
def Li(f:ae):aX->ae
  | []=>f
  | r::rs=>Li r rs
theorem ab4(r:ae):∀(rs:aX) (f:ae),Li f (rs++[r])=r
 | [],_=>rfl
 | x::rs,_=>ab4 r rs x
def GJ(f s r:ae)(ss rs:aX):uo f (s::ss) (r::rs)=if mI f r s=0 then uo r ss rs else mI f r s:=by rw [uo]
theorem amF{s r:ae}(ss:aX):∀{rs:aX} {f:ae},ss.length=rs.length->uo f ss rs=0->mI (Li f rs) r s=0->uo f (ss++[s]) (rs++[r])=0:=by
 induction ss with
 | nil =>
  intro rs f hl _ h
  obtain rfl:rs=[]:=lB hl.symm;rw [lD,lD,GJ,if_pos (show mI f r s=0 from h)]
  rfl
 | cons a ss ih =>
  intro rs f hl h0 h
  obtain⟨b,rs,rfl⟩:∃b r2,rs=b::r2:=by
   cases rs with
   | nil=>cases hl
   | cons b r2=>exact⟨b,r2,rfl⟩
  rw [GJ] at h0;rw [AO,AO,GJ]
  by_cases hb:mI f b a=0
  .rw [if_pos hb] at h0 ⊢;exact ih (Nat.succ.inj hl) h0 h
  .rw [if_neg hb] at h0;exact absurd h0 hb
theorem amE(ss:aX):∀{rs:aX} {f:ae} {k:Nat} {r r':ae},ss.length=rs.length->uo f ss rs=0->rs[k]?=some r->r'≠r->uo f ss (rs.set k r')≠0:=by
 induction ss with
 | nil =>
  intro rs f k r r' hl _ hk _
  obtain rfl:rs=[]:=lB hl.symm
  cases hk
 | cons a ss ih =>
  intro rs f k r r' hl h0 hk b8
  obtain⟨b,rs,rfl⟩:∃b r2,rs=b::r2:=by
   cases rs with
   | nil=>cases hl
   | cons b r2=>exact⟨b,r2,rfl⟩
  rw [GJ] at h0
  by_cases hb:mI f b a=0
  .rw [if_pos hb] at h0
   cases k with
   | zero =>
    obtain rfl:b=r:=jm hk;rw [List.set_cons_zero,GJ,ab9 hb b8,if_neg (by decide)]
    decide
   | succ k =>
    rw [Ah,GJ,if_pos hb];exact ih (Nat.succ.inj hl) h0 hk b8
  .rw [if_neg hb] at h0;exact absurd h0 hb
def aDD{r:ae}{x y:UInt8}(h:r[3]?=some x)(b8:y≠x):r.set 3 y≠r:=λe=>by have h1:=(eY.1 h).1;have h2:(r.set 3 y)[3]?=some y:=vM h1;rw [e,h] at h2;exact b8 (jm h2).symm
def aGT(a:UInt8):∃y:UInt8,bits .xor .u8 (a.toNat:Int) 1=(y.toNat:Int)/\y≠a:=by
 have key:∀m:Nat,m<256->0<=bits .xor .u8 (m:Int) 1/\bits .xor .u8 (m:Int) 1<256/\bits .xor .u8 (m:Int) 1≠(m:Int):=by decide +kernel
 obtain⟨h1,h2,h3⟩:=key a.toNat a.toNat_lt;obtain⟨y,hy⟩:=RY ⟨h1,h2⟩;exact⟨y,hy,λe=>h3 (by rw [hy,e])⟩
structure Gz where
  j:Nat
  d:fU
  y:fR
  rs:aX
  ss:lU
  R:ly
  T:ly
structure MY(x:zR)(s:Gz):Prop where
  j:s.j<=x.ai.length
  ok:s.d.aI
  y:s.y.l=s.d.l
  len:s.d.l.length<=(mr (x.ai.take s.j)).length
  keys:∀k,(cB s.d.l k).length<=(mr (x.ai.take s.j)).length
  ss:s.ss.length=s.j
  rs:s.rs.length=s.j
  fit:∀z∈s.ss,z.l.length<=30000
  r32:∀r∈s.rs,r.length=32
  chn:uo dx (s.ss.map cC.l) s.rs=0
  last:Li dx s.rs=iw 256 (dg s.d.l)
def MY.next{x:zR}{s:Gz}(h:MY x s){p:oI}(hp:x.ai[s.j]?=some p){d2:fU}(jS:d2.aI)(hl:d2.l=ej s.d.l (p.l.map cy)){y2:fR}(hy:y2.l=d2.l){z:cC}(hz:z.l.length<=30000){r:ae}(hr:r.length=32)(TF:r=iw 256 (dg d2.l))(hle:mI (iw 256 (dg s.d.l)) r z.l=0)(R T:ly):MY x ⟨s.j+1,d2,y2,s.rs++[r],s.ss++[z],R,T⟩:=by
 have l7:=GF (p.l.map cy) s.d.l;rw [dL,<-hl] at l7;have h1:=h.len;refine⟨(eY.1 hp).1,jS,hy,?_,λk=>?_,?_,?_,λq hq=>?_,λq hq=>?_,?_,?_⟩
 .show d2.l.length<=_;rw [RH hp,aV];omega
 .have h2:=asI h.keys p.l k;show(cB d2.l k).length<=_;rw [RH hp,aV,hl];omega
 .show(s.ss++[z]).length=s.j+1;rw [aV,h.ss];rfl
 .show(s.rs++[r]).length=s.j+1;rw [aV,h.rs];rfl
 .rcases iA.1 hq with hq|hq
  .exact h.fit q hq
  .rw [bU.1 hq];exact hz
 .rcases iA.1 hq with hq|hq
  .exact h.r32 q hq
  .rw [bU.1 hq];exact hr
 .show uo dx ((s.ss++[z]).map cC.l) (s.rs++[r])=0;rw [jl];exact amF _ (by rw [dL,h.ss,h.rs]) h.chn (by rw [h.last];exact hle)
 .show Li dx (s.rs++[r])=_;rw [ab4,TF]
def ayM{α:Type}{k c:Nat}{fe:α->aL}{A:aO}{l:List α}{w:yp}(h:ar k fe A c l w){n:Nat}(hn:n<=l.length):ar k fe (tg k A c n) (c-n) (l.drop n) w:=by
 obtain⟨h1,h2,h3,h4,h5⟩:=h;unfold tg;refine⟨by rw [k7];omega,by omega,?_,λx hx=>h4 x (List.mem_of_mem_drop hx),λh0=>?_⟩
 .split
  .exact λ_=>by omega
  .intro e
   cases A with
   | none=>rw [h3 rfl];exact Nat.zero_sub _
   | some a=>cases e
 .rw [k7] at h0
  obtain⟨b,o,rfl,hb,hr⟩:=h5 (by omega);rw [if_neg (by omega)];refine⟨b,o+k*n,congrArg some (Go.Addr.add_mid ..),hb,λi x hx=>?_⟩;rw [Fg] at hx;have:=hr (n+i) x hx
  rwa [Nat.mul_add,<-kZ] at this
def aC5{A:aO}{c:Nat}(acts:List zP):Spec 3 [.slice A acts.length c] [] (λw=>eI w/\ar 5 Aa A c acts w) (one (.v (.bool true))):=by
 refine bA [.c (.v (.slice A acts.length c))] 119 func3 rfl λb=>ag rfl (ao λK0 jf=>aA rfl λK1 aS=>bY [] rfl ao9 (λ_ h _=>h.1) λ_=>aj rfl (ah (aS _ (dY rfl (aR (jf _ (aA rfl λK2 aM=>bY [.slice A acts.length c] rfl (alA acts) (λ_ h _=>h.2) λ⟨x,hx⟩=>aj rfl (ah (aM _ ?_)))))))));have h13:=hx.num;refine ag rfl (ag rfl (ag rfl (ag rfl (pF 0 47 32 (aw 32) (pF 0 39 1 kg (ao λK3 bu=>ag rfl (a8 ?_)))))));let Ls:fU->fR->aH:=λd y=>[⟨6,none,36,y.parts⟩,⟨5,none,33,d.parts⟩];let Es:Gz->aG:=λs=>[(24,.aT s.j),(23,.aT x.ai.length),(3,.v (.slice x.X.1 x.ai.length x.X.2)),(4,.v (.slice x.Y.1 x.ai.length x.Y.2)),(7,.v (.slice s.T.1 s.ss.length s.T.2)),(8,.v (.slice s.R.1 s.rs.length s.R.2)),(5,.a 5 0),(6,.a 6 0)];let Rs:Gz->bF:=λs=>[bL 0 39 1 kg s.T.1 s.T.2 s.ss,iN s.R.1 s.R.2 s.rs];let Ff:Gz->aE:=λs w=>(eI w/\x.F w)/\(∀z∈s.ss,z.rd w)/\s.d.F w/\s.y.F w;let Fs:Gz->Env:=λs=>⟨Es s,Ls s.d s.y,Rs s,Ff s,λ_=>True⟩;refine cI (e':=Fs ⟨0,vS,CL,[],[],(none,0),(none,0)⟩) ⟨dB rfl, c8 rfl rfl, .refl _,λw h _=>⟨⟨h.2.2.1,h.1⟩,(λ_ h=>(by cases h)),W8 w,aHL w⟩, au⟩ (cY (λs=>x.ai.length-s.j) Fs (MY x) ?_ ⟨0,vS,CL,[],[],(none,0),(none,0)⟩ ⟨bl _,MN,rfl,bl _,λ_=>bl _,rfl,rfl,(λ_ h=>(by cases h)),(λ_ h=>(by cases h)),rfl,rfl⟩);rintro⟨j,d,y,rs,ss,R,T⟩ hI;obtain⟨hj,hd,pz,hlen,Ku,xU,Dj,Hc,Cd,S6,aqG⟩:=id hI;dsimp only at hj hd pz hlen Ku xU Dj Hc Cd S6 aqG;have aaA:=hx.mS;have aI9:=Xy x.ai j;refine ag rfl (ao λK5 bN=>?_);refine bn ((j:Int)<(x.ai.length:Int)) rfl (λal=>?_) (λcW=>?_)
 .have al:j<x.ai.length:=by omega
  obtain⟨p,hp⟩:∃p,x.ai[j]?=some p:=⟨_,da al⟩;obtain⟨uz,h12⟩:=hx.batch hp;have Cc:=eg hp;have EX:∀u∈p.l,u.aI:=λu hu=>(uz u hu).1;have G8:d.l.length<=12:=by omega
  have ky:p.l.length<=12:=by omega
  have fI:∀k,(cB d.l k).length<=24:=λk=>fo (Ku k) (by omega);have ha:dj (ej d.l (p.l.map cy)):=hd.dir.apply (zL EX);have mC:=(NO ha).2;have gS:(pL d.l p.l).length<=30000:=by have h1:=ag8 hd.dir hd.small EX fI;have h2:(56+32*24)*(fq d.l p.l).length<=(56+32*24)*12:=jI _ (by omega);omega
  obtain⟨-, -,xN⟩:=ag7 hd.dir hd.small EX (by omega);have has:=XB hd (A:=p.A) (c:=p.c) EX (by omega) (by omega);have hyn:y.es.length+p.l.length<=1000:=by rw [<-y.len,pz];omega
  have Dj:=(azM y (by rw [pz];exact hd.dir) (by rw [pz];exact hd.small) (A:=p.A) (B:=p.B) (c:=p.c) (c2:=p.d) EX hyn);have Tb:=Ya (A:=p.A) (c:=p.c) hd (us:=p.l) EX (by omega);have T8:=ay8 (A:=p.A) (c:=p.c) (B:=p.B) (c2:=p.d) y (by rw [pz];exact hd.dir) (by rw [pz];exact hd.small) (us:=p.l) EX hyn;rw [pz] at Dj T8;obtain⟨dw,arE⟩:∃dw,pL d.l p.l=dw:=⟨_,rfl⟩;rw [arE] at gS xN has Dj;obtain⟨nl,Ar⟩:∃nl,ej d.l (p.l.map cy)=nl:=⟨_,rfl⟩;have aqT:=Ar;rw [Ar] at xN Tb T8;have lj:=Sc hd;have lG:(iw 256 (dg d.l)).length=32:=by rw [<-hd.tree.root];exact d.t.uS
  refine aR (bN _ (ao λK6 cr=>a8 (ag rfl ?_)));refine lQ ((∃g o,x.X.1=some ⟨g,o,none⟩)/\∃g o,x.Y.1=some ⟨g,o,none⟩) (λw h _=>by obtain⟨g,o,e,_⟩:=h.1.2.1.2.2.2.2 (by omega);obtain⟨g2,o2,e2,_⟩:=h.1.2.2.1.2.2.2.2 (by omega);exact⟨⟨g,o,e⟩,g2,o2,e2⟩) λ⟨⟨ga,oa,GZ⟩,gy,oy,Zl⟩=>?_;let Ew:aG:=(9,.aT j)::Es ⟨j,d,y,rs,ss,R,T⟩;let Rw:bF:=Rs ⟨j,d,y,rs,ss,R,T⟩;let Fw:aE:=Ff ⟨j,d,y,rs,ss,R,T⟩;refine ao λK7 df=>?_;refine rS λG=>?_;refine lv [0,1,2,3,4] 6 1 (λw=>iV (iH G (Ls d y)) w/\x.F w) rfl (sG mj λw h _=>h.1.2) ?_;refine cK 0 rfl (λ_ h=>h) (λ_ h=>h.1) (cK 1 rfl (λ_ h=>h) (λ_ h=>h.1) (cK 2 rfl (λ_ h=>h) (λ_ h=>h.1) (kp (.v (.pointer (some ⟨ga,oa+1*j,none⟩))) 3 rfl rfl rfl (lO j rfl L5 rfl (by rw [<-GZ];rfl) rfl al) (LP (.q (xz p)) 4 rfl rfl rfl (Be (k':=1) (c:=x.X.2) (j:=j) (off:=0) (g:=ga) (a:=oa) (fe:=xz) (l:=x.ai) an rfl rfl hp rfl (JJ p).1 λG S w h=>by rw [<-GZ];exact h.fact.2.1) ?_))));refine eN 5 rfl λKa kM=>?_;refine bY [(nU d).den,.slice p.A p.l.length p.c] rfl has (λw h _=>⟨h.1.1,h.2.2.1,(h.1.2.2.2 p Cc).1⟩) λgb=>ah (kM _ (sG mj λw h _=>h.2.1.2) (kQ [6] rfl (aj rfl (ah (Co ?_)))));let E1:aG:=(10,.v (cj gb dw.length dw.length))::Ew;let F1:aE:=λw=>ar 1 aY (some ⟨gb,0,none⟩) dw.length dw w/\Fw w;refine ft (e':=⟨E1,Ls d y,Rw,F1,λ_=>True⟩) ⟨dB rfl, c8 rfl rfl, .refl _,λw h hM=>⟨hM.1,h.2⟩, au⟩ (df _ (ao λK8 gw=>?_));refine nw 14 λK9 l5 G S w0 aa=>?_;refine dC aa rfl (Zn dw aa rfl rfl rfl rfl (λw ab _=>ab.fact.1) (dC aa rfl (NV (fe:=xz) aa rfl rfl rfl rfl rfl j rfl hp rfl rfl (dX λ_ h _=>h.2.1.2.1) (dC aa rfl (NV (fe:=CY) aa rfl rfl rfl rfl rfl j rfl hp rfl rfl (dX λ_ h _=>h.2.1.2.2.1) (wL (F':=λw=>y.F w/\ar 129 dT p.A p.c p.l w/\ar 1 ps p.B p.d (p.l.map eV) w) aa [(uu y).den,.slice p.A p.l.length p.c,.slice p.B p.l.length p.d] rfl rfl rfl rfl (λ_=>rfl) Dj (λw ab _=>⟨ab.fact.2.2.2.2,ab.fact.2.1.2.2.2 p Cc⟩) λz _=>Zn dw aa rfl rfl rfl rfl (λw _ hu=>aD5 (hu 11 _ rfl (by kernel_rfl))) (ni aa (.b (!decide (dw=dw))) rfl rfl (aA9 rfl rfl rfl) (qO 46 false rfl (by simp) (jR aa (ah (l5 _ (dY rfl (aR (gw _ (ao λK10 nV=>?_)))))))))))))));have ll:∀d2:fU,d2.aI->d2.l=nl->∀e',gj e' ⟨(11,.a 11 0)::E1,⟨11,none,33,d2.parts⟩::Ls d y,Rw,λw=>d2.F w/\F1 w,λ_=>True⟩->cl b K10 119 e':=by
   intro d2 jS G6 e' hw;refine ft hw (nV _ ?_);have Te:=Sc jS;have dU:(iw 256 (dg d2.l)).length=32:=by rw [<-jS.tree.root];exact d2.t.uS
   have KJ:iw 256 (dg d2.l)=iw 256 (dg nl):=by rw [G6]
   obtain⟨r1,aa2⟩:∃r1,iw 256 (dg d.l)=r1:=⟨_,rfl⟩;obtain⟨r2,aa3⟩:∃r2,iw 256 (dg d2.l)=r2:=⟨_,rfl⟩;rw [aa2] at lj lG xN;rw [aa3] at Te dU KJ;rw [<-KJ] at xN;have vr:=M4 (f:=r1) (t:=r2) lG dU (A:=some ⟨gb,0,none⟩) (c:=dw.length) dw gS;rw [xN] at vr;refine ao λK12 sl=>?_;refine nw 7 λK13 wJ G S w0 aa=>?_;refine dC aa rfl (vp (F':=d.F) (r:=.q (aw 32 r1)) aa [(nU d).den] rfl rfl (how:=PS) rfl rfl (λ_=>rfl) (cq lG).1 lj (λ_ _ _ h=>h.fact.2.2.2.2.1) (dC aa rfl (vp (F':=d2.F) (r:=.q (aw 32 r2)) aa [(nU d2).den] rfl rfl (how:=PS) rfl rfl (λ_=>rfl) (cq dU).1 Te (λ_ _ _ h=>h.fact.1) (dC aa rfl (vp (F':=λw=>eI w/\ar 1 aY (some ⟨gb,0,none⟩) dw.length dw w) (r:=.v (.int .i64 ((0:Nat):Int))) aa [(aw 32 r1).den,(aw 32 r2).den,cj gb dw.length dw.length] rfl rfl (how:=PR) rfl rfl (λ_=>rfl) trivial vr (λ_ _ _ h=>⟨h.fact.2.2.1.1,h.fact.2.1⟩) (dC aa rfl (jR aa (ah (wJ _ (bn (((0:Nat):Int)≠0) rfl (λh=>absurd rfl h) (λ_=>aR (sl _ (ao λK14 xJ=>?_)))))))))))));refine rS λG=>?_;refine lv [0,1,2,3,4,5,6,7,8,9] 11 2 (λw=>iV (iH G (⟨11,none,33,d2.parts⟩::Ls d y)) w/\x.F w) rfl (sG mj λw h _=>h.2.2.1.2) ?_;refine cK 0 rfl (λ_ h=>h) (λ_ h=>h.1) (cK 1 rfl (λ_ h=>h) (λ_ h=>h.1) (cK 2 rfl (λ_ h=>h) (λ_ h=>h.1) (cK 3 rfl (λ_ h=>h) (λ_ h=>h.1) (kp (.v (.pointer (some ⟨ga,oa+1*j,none⟩))) 4 rfl rfl rfl (lO j rfl L5 rfl (by rw [<-GZ];rfl) rfl al) (LP (.q (xz p)) 5 rfl rfl rfl (Be (k':=1) (c:=x.X.2) (j:=j) (off:=0) (g:=ga) (a:=oa) (fe:=xz) (l:=x.ai) an rfl rfl hp rfl (JJ p).1 λG S w h=>by rw [<-GZ];exact h.fact.2.1) (cK 6 rfl (λ_ h=>h) (λ_ h=>h.1) (cK 7 rfl (λ_ h=>h) (λ_ h=>h.1) (kp (.v (.pointer (some ⟨gy,oy+1*j,none⟩))) 8 rfl rfl rfl (lO j rfl underlying25 rfl (by rw [<-Zl];rfl) rfl al) (LP (.q (CY p)) 9 rfl rfl rfl (Be (k':=1) (c:=x.Y.2) (j:=j) (off:=0) (g:=gy) (a:=oy) (fe:=CY) (l:=x.ai) an rfl rfl hp rfl (Se p).1 λG S w h=>by rw [<-Zl];exact h.fact.2.2.1) ?_)))))))));refine eN 10 rfl λKb mA=>?_;refine bY [(uu y).den,.slice p.A p.l.length p.c,.slice p.B p.l.length p.d] rfl T8 (λw h _=>⟨h.2.2.2.2.2,h.2.2.1.2.2.2 p Cc⟩) λ⟨y2,aIM,arT⟩=>ah (mA _ (sG mj λw h _=>h.2.2.2.1.2) (kQ [11,12] rfl (aj rfl (ah (Co ?_)))));let E2:aG:=(11,.a 11 0)::E1;let L2:aH:=⟨11,none,33,d2.parts⟩::Ls d2 y2;let F2:aE:=λw=>ar 1 aY (some ⟨gb,0,none⟩) dw.length dw w/\(eI w/\x.F w)/\(∀z∈ss,z.rd w)/\d2.F w/\y2.F w;refine ft (e':=⟨E2,L2,Rw,F2,λ_=>True⟩) ⟨dB rfl, c8 rfl rfl, .refl _,λw h _=>⟨h.2.2.1,h.2.2.2.1,h.2.2.2.2.1,h.2.1,h.1⟩, au⟩ (xJ _ ?_);have vE:jL 1 kg [(⟨some ⟨gb,0,none⟩,dw.length,dw⟩:cC)]:=λz _=>JI z;have vC:jL 32 (aw 32) [r2]:=λl hl=>by rw [bU.1 hl];exact cq dU
   have hRl:rs.length<=13:=by omega
   have SH:ss.length<=13:=by omega
   refine rS λG=>?_;refine lv [0,1,4,5] 8 3 (iV (iH G L2)) rfl (iE mj) ?_;refine j3 0 rfl (λ_ h=>h) (j3 1 rfl (λ_ h=>h) (j3 4 rfl (λ_ h=>h) (j3 5 rfl (λ_ h=>h) ?_)));refine eN 2 rfl λKc wK=>?_;refine jC (fe:=kg) an 0 [⟨some ⟨gb,0,none⟩,dw.length,dw⟩] rfl rfl rfl (λ_=>rfl) rfl vE (bl _) λP1=>iU 0 rfl (ah (wK _ (iE mj) ?_));refine eN 3 rfl λKd BQ=>?_;refine mc an 0 [(⟨some ⟨gb,0,none⟩,dw.length,dw⟩:cC)] (fe:=kg) rfl rfl rfl rfl rfl rfl rfl (dX λ_ h _=>h.1) (by show(ss.length+1)*24<=_;omega) (by show ss.length+1<=_;omega) (bl _) λT1 t1=>ah (BQ _ (iE mj) ?_);refine eN 6 rfl λKe J0=>?_;refine bY [(nU d2).den] (hf:=PS) rfl Te (λw h _=>h.2.2.2.2.1) λ_=>ah (J0 _ (iE mj) ?_);refine eN 7 rfl λKf J1=>?_;refine jC (fe:=aw 32) an 0 [r2] rfl rfl rfl (λ_=>rfl) rfl vC (bl _) λP2=>iU 0 rfl (ah (J1 _ (iE mj) (kQ [8,9,10] rfl (mc an 1 [r2] (fe:=aw 32) rfl rfl rfl rfl rfl rfl rfl (dX λ_ h _=>h.1) (by show(rs.length+1)*32<=_;omega) (by show rs.length+1<=_;omega) (bl _) λR1 r1'=>aj rfl (ah (Co ?_))))));have Zb:=hI.next hp jS (by rw [G6,aqT]) (arT.trans G6.symm) (z:=⟨some ⟨gb,0,none⟩,dw.length,dw⟩) gS dU aa3.symm (by rw [aa2];exact xN) (R1,r1') (T1,t1);refine cr _ (cE rfl ?_);exact cH ⟨j+1,d2,y2,rs++[r2],ss++[⟨some ⟨gb,0,none⟩,dw.length,dw⟩],(R1,r1'),(T1,t1)⟩ Zb (by show x.ai.length-(j+1)<x.ai.length-j;omega) ⟨⟨rO j x.ai.length (by omega) al,rfl,rfl,rfl,rfl,rfl,rfl,rfl,trivial⟩,c8 rfl rfl, .refl _,λw h _=>⟨h.2.2.2.2.1,λq hq=>(by
    rcases iA.1 hq with hq|hq
    .exact h.2.2.2.2.2.1 q hq
    .rw [bU.1 hq];exact h.2.2.2.1),h.2.2.2.2.2.2⟩, au⟩
  refine rS λG=>?_;refine lv [0,1,2,3,4] 7 1 (λw=>iV (iH G (Ls d y)) w/\x.F w) rfl (sG mj λw h _=>h.2.1.2) ?_;refine cK 0 rfl (λ_ h=>h) (λ_ h=>h.1) (cK 1 rfl (λ_ h=>h) (λ_ h=>h.1) (cK 2 rfl (λ_ h=>h) (λ_ h=>h.1) (kp (.v (.pointer (some ⟨ga,oa+1*j,none⟩))) 3 rfl rfl rfl (lO j rfl L5 rfl (by rw [<-GZ];rfl) rfl al) (LP (.q (xz p)) 4 rfl rfl rfl (Be (k':=1) (c:=x.X.2) (j:=j) (off:=0) (g:=ga) (a:=oa) (fe:=xz) (l:=x.ai) an rfl rfl hp rfl (JJ p).1 λG S w h=>by rw [<-GZ];exact h.fact.2.1) ?_))));refine adB 5 6 rfl rfl (λKa kM=>?pa) λKa kM=>?pb
  case' pa =>
   refine bY [(nU d).den,.slice p.A p.l.length p.c] rfl Tb (λw h _=>⟨h.2.1.1,h.2.2.2.1,(h.2.1.2.2.2 p Cc).1⟩) λd2=>?_;refine Uv (d2.aI/\d2.l=nl) (λ_ h _=>⟨h.1.2.1,h.1.2.2.2⟩) λ⟨jS,G6⟩=>?_;refine ah (kM _ (sG mj λw h _=>h.2.2.1.2) ?_);refine eN 6 rfl λKb mA=>?_;refine aj rfl (ah (mA _ (sG (λu h=>⟨dS _ h,(mj u h).2⟩) λw h _=>h.2.2.1.2) ?_))
  case' pb =>
   refine aj rfl (ah (kM _ (sG (λu h=>⟨dS _ h,(mj u h).2⟩) λw h _=>h.2.1.2) ?_));refine eN 5 rfl λKb mA=>?_;refine bY [(nU d).den,.slice p.A p.l.length p.c] rfl Tb (λw h _=>⟨h.2.1.1,h.2.2.2.1,(h.2.1.2.2.2 p Cc).1⟩) λd2=>?_;refine Uv (d2.aI/\d2.l=nl) (λ_ h _=>⟨h.1.2.1,h.1.2.2.2⟩) λ⟨jS,G6⟩=>?_;refine ah (mA _ (sG (λu h=>⟨dS _ h,(mj u h).2⟩) λw h _=>h.2.2.1.2) ?_)
  all_goals
   refine kQ [7] rfl (aj rfl ?_);refine ah (Co (ll d2 jS G6 _ ⟨dB rfl, c8 rfl rfl, .refl _,λw h _=>⟨h.1.1,h.2⟩, au⟩))
 .obtain rfl:x.ai.length=j:=by omega
  have At:=hx.pos;have hle:ss.length=rs.length:=by rw [xU,Dj]
  obtain⟨RA,Rc⟩:=R;obtain⟨eW,Tc⟩:=T;have Am:=RG (f:=dx) rfl (A:=eW) (B:=RA) (c:=Tc) (d:=Rc) ss rs Hc Cd;rw [if_pos hle,S6] at Am;have yU:=RG (f:=dx) rfl (A:=eW) (B:=tg 32 RA Rc 1) (c:=Tc) (d:=Rc-1) ss (rs.drop 1) Hc (λr hr=>Cd r (List.mem_of_mem_drop hr));rw [if_neg (by rw [k7];omega)] at yU;refine cG (a6 (a6 (cF (bu _ (ag1 1 rfl λOh hcR hnR=>ao λK20 apE=>aA rfl λK21 apF=>Ur (own:=[]) (λ_=>[(aw 32 dx).den,.slice eW ss.length Tc,.slice RA rs.length Rc]) rfl rfl rfl (λ_ _=>rfl) _ (λ_=>Am) (λG S w h=>⟨h.fact.1.1,fu 0 rfl G S w h,h.fact.2.1,fu 1 rfl G S w h⟩) λ_=>aj rfl (pd 86 false rfl rfl (aj rfl (b6 (.v (.slice (tg 32 RA Rc 1) (rs.length-1) (Rc-1))) rfl (afG (sz:=32) (by kernel_rfl) (by omega) hcR hnR rfl vJ rfl rfl) (me 90 (.v (.slice (tg 32 RA Rc 1) (rs.drop 1).length (Rc-1))) rfl (by rw [k7]) (aj rfl (Ur (own:=[]) (λ_=>[(aw 32 dx).den,.slice eW ss.length Tc,.slice (tg 32 RA Rc 1) (rs.drop 1).length (Rc-1)]) rfl rfl rfl (λ_ _=>rfl) _ (λ_=>yU) (λG S w h=>⟨h.fact.1.1,fu 0 rfl G S w h,h.fact.2.1,ayM (fu 1 rfl G S w h) (by omega)⟩) λ_=>aj rfl (pd 93 false rfl rfl (ah (apF _ (dY rfl (aR (apE _ (aA rfl λK22 apG=>aj rfl ?_))))))))))))))))));obtain⟨q,hq⟩:∃q,rs.length/2=q:=⟨_,rfl⟩;refine ca 12 (q:Int) rfl (by rw [<-hq];exact I6 rs.length 2 (by omega)) (aj rfl (ah (apG _ ?_)));have Ht:q<rs.length:=by omega
  obtain⟨r,hr⟩:∃r,rs[q]?=some r:=⟨_,da Ht⟩;have TD:r.length=32:=Cd r (eg hr);refine aA rfl λK23 apH=>jh an rfl rfl rfl q rfl hr rfl rfl (fu 1 rfl) (aj rfl (ah (apH _ (QE 1 rfl (show 0<rs.length by omega) λg hg=>?_))));subst hg;obtain⟨v,ab,Fb⟩:=aGT r[3];have yV:=aoG Oh hr (show 3<r.length by omega) v;have em:0+32*q+1*3=32*q+3:=by omega
  rw [<-em] at yV;refine ao λK24 apI=>QD 7 λG S w0 aa=>fa an aa rfl (oZ (.v (.pointer (some ⟨g,0+32*q,none⟩))) rfl (lO q rfl vJ rfl rfl rfl (by omega)) (oZ (.v (.pointer (some ⟨g,0+32*q+1*3,none⟩))) rfl (Md 3 rfl dp rfl rfl rfl (by decide)) (xH aa (.v (.int .u8 (r[3].toNat:Int))) rfl (azQ 1 _ rfl rfl rfl yV.1 nu rfl) (oZ (.v (.int .u8 (v.toNat:Int))) rfl (by rw [<-ab];exact afQ rfl rfl rfl) (oZ (.v (.pointer (some ⟨g,0+32*q,none⟩))) rfl (lO q rfl vJ rfl rfl rfl (by omega)) (p1 aa (b6 (.v (.pointer (some ⟨g,0+32*q+1*3,none⟩))) rfl (Md 3 rfl dp rfl rfl rfl (by decide)) ?_)))))));have Dh:jL 32 (aw 32) (rs.set q (r.set 3 v)):=Oh.set (cq (by rw [jO];exact TD));refine atE 1 (rs.set q (r.set 3 v)) rfl rfl rfl rfl rfl rfl rfl rfl rfl (eY.1 yV.1).1 jO Dh yV.2 (ah (apI _ ?_));have fX:=amE (ss.map cC.l) (by rw [dL];exact hle) S6 hr (aDD (da (by omega)) Fb);have n6:=RG (f:=dx) rfl (A:=eW) (B:=some ⟨g,0,none⟩) (c:=Tc) (d:=Rc) ss (rs.set q (r.set 3 v)) Hc (λr hr=>Nw (Dh r hr).1);rw [if_pos (by rw [jO];exact hle)] at n6;obtain⟨e,qS⟩:∃e,uo dx (ss.map cC.l) (rs.set q (r.set 3 v))=e:=⟨_,rfl⟩;rw [qS] at n6 fX;have y6:(rs.set q (r.set 3 v)).length=rs.length:=jO;refine aA rfl λK25 apJ=>aj rfl (me 111 (.v (cj g (rs.set q (r.set 3 v)).length Rc)) rfl (by rw [y6]) (Ur (own:=[]) (λ_=>[(aw 32 dx).den,.slice eW ss.length Tc,cj g (rs.set q (r.set 3 v)).length Rc]) rfl rfl rfl (λ_ _=>rfl) _ (λ_=>n6) (λG S w h=>⟨h.fact.1.1,fu 0 rfl G S w h,h.fact.2.1,fu 1 rfl G S w h⟩) λ_=>aj rfl (pd 14 true rfl (by simpa using fX) (aj rfl (ah (apJ _ (aA rfl λK26 apK=>b6 (.v (.pointer (some ⟨g,0+32*q,none⟩))) rfl (lO q rfl vJ rfl rfl rfl (show q<rs.length from Ht)) (H9 1 q (r.set 3 v) r rfl rfl rfl rfl (congrArg (λz:Nat=>some (aq.v (.pointer (some ⟨g,z,none⟩)))) (show 0+32*q=32*q+0 by omega)) rfl (vM Ht) (by kernel_rfl) (cq (show(r.set 3 v).length=32 by rw [jO];exact TD)).2 (cq TD) (ah (apK _ (ag rfl ?_)))))))))));exact aJ (lN 0 rfl (lN 0 rfl (bE () rfl aD au)))
open Go.ChangeShapes Go.WideShapes Go.ChangeAt
def own:ownKnob prog.godebug=none:=by kernel_rfl
def laidOut:laidOutB prog=true:=by kernel_rfl
section
variable{H:Type}{fp:TypeId×Value->H}{W W':yp}
theorem ahC:∀{ts:List TypeId} {vs:cU} {ds:List (DataW H)} {p:List MemPlace},(∀t∈ts,prog.readableRec t=true/\t<prog.types.size) ->
  DataW.TrodAll fp prog W 0 (λ_=>true) true ts vs ds p->Below W.heap.size W W'->(∀x∈p,x.block<W.heap.size)->DataW.TrodAll fp prog W' 0 (λb=>decide (b<W.heap.size)) true ts vs ds p
 | [],_,_,_,_,h,_,_=>by obtain⟨rfl,rfl,rfl⟩:=trodAll_nil h;exact trodAll_mk0
 | t::ts,_,_,_,Oz,h,hb,al=>by obtain⟨v,vs',d,ds',p,q,rfl,rfl,rfl,h0,h1⟩:=trodAll_cons h;obtain⟨hr,hz⟩:=Oz t (by simp);exact trodAll_cons_mk (Below.trod laidOut hr hz h0 hb (λx hx=>al x (by simp [hx]))) (ahC (λu hu=>Oz u (by simp [hu])) h1 hb (λx hx=>al x (by simp [hx])))
def atI{f:Func}{s:ChangeSpec}{args:ct}{ds gs:List (DataW H)}{before:List MemPlace}(hf:f.resultTypes = #[4])(aaD:s.vars=[])
 (Oz:∀t∈f.params.toList,prog.readableRec t=true/\t<prog.types.size)
 (hW:DataW.Whole fp prog f.params.toList s.vars false W args.toList ds gs before)(hs:s.fn H (ds++gs)={ results:=[.lit (.bool true)],args:=ds })(hb:Below W.heap.size W W') :
  s.post fp prog f false true false false W args (.bool true) W':=by
 have hW':=hW;obtain⟨p,q,hA,hV,rfl,_,_⟩:=hW;rw [aaD] at hV;obtain⟨rfl,rfl⟩:=trodVars_none hV;have al:∀x∈p,x.block<W.heap.size:=λx hx=>hW'.lt x (by simp [hx]);refine⟨ds,[],p++[],[],p,[],hW',?_,?_,?_,hb.frame _,λh=>by cases h⟩
 .rw [hs,hf];exact trodAll_mk1 (shut_bool underlying4 true)
 .rw [hs];exact ahC Oz hA hb al
 .rw [hs,aaD];rfl
end
def avJ{l:cU}{i:Nat}{v:Value}(h:(l.drop (i*1)).take 1=[v]):l[i]?=some v:=by
 rw [Nat.mul_one] at h;have h1:((l.drop i).take 1)[0]?=some v:=by rw [h];rfl
 rw [uq,if_pos (by omega),Fg] at h1;simpa using h1
open Go.ChangeShapes Go.WideShapes Go.ChangeAt
theorem adL{α:Type}(P:Nat->α->Prop):∀n,(∀i,i<n->∃l,P i l)->∃ks:List α,ks.length=n/\∀i l,ks[i]?=some l->P i l
 | 0,_=>⟨[],rfl,λi l h=>by simp at h⟩
 | n+1,h=>by
  obtain⟨ks,hl,hk⟩:=adL P n λi hi=>h i (by omega);obtain⟨l,hp⟩:=h n (by omega);refine⟨ks++[l],by simp [hl],λi x hx=>?_⟩;by_cases hi:i<ks.length
  .rw [uk hi] at hx;exact hk i x hx
  .rw [rz (by omega)] at hx
   have h0:i-ks.length=0:=by
    by_cases e:i-ks.length=0
    .exact e
    .rw [List.getElem?_eq_none (by simp;omega)] at hx;cases hx
   rw [h0] at hx;obtain rfl:l=x:=by simpa using hx
   obtain rfl:i=n:=by omega
   exact hp
def avL{α H:Type}{fp:TypeId×Value->H}{W:yp}{held:Bool}{fuel:Nat}{t e:TypeId}{k:Nat}{fe:α->aL}{cs:cU}{x:DataW H×List MemPlace}(ht:prog.underlying t=some (.slice e))(hk:prog.cellsOf e=k)(rH:0<k)
 (An:∀n cs x,jX fp prog W 0 (λ_=>true) held n e cs=some x->∃a:α,cs=(fe a).cp/\ch (fe a).fA/\(fe a).cp.length=k)
 (h:jX fp prog W 0 (λ_=>true) held fuel t cs=some x) :
  ∃(A:aO) (l:List α) (c:Nat),cs=[.slice A l.length c]/\ar k fe A c l W:=by
 rcases DataW.trod_slice ht h with⟨rfl,_⟩|⟨a,len,cap,elems,rest,n,rfl,rfl,rfl,_,hl,hm,hlen,ZI,_⟩
 .exact⟨none,[],0,rfl,ar.nil _ _ _⟩
 .rw [hk] at ZI
  obtain⟨ks,hk1,iD⟩:=adL (λi (y:α)=>(ch (fe y).fA/\(fe y).cp.length=k)/\W.cells? 0 (a.add (i*k)) k=some (fe y).cp) len λi hi=>by
   have h0:=ZI i hi;rw [da (by omega)] at h0;cases hc:W.cells? 0 (a.add (i*k)) k with
   | none=>rw [hc] at h0;cases h0
   | some cs =>
    rw [hc] at h0;obtain⟨y,rfl,h1⟩:=An _ _ _ h0;exact⟨y,h1,rfl⟩
  subst hk1;refine⟨some a,ks,cap,rfl,hl,(by unfold maxLen at hm;omega),λe=>(by cases e),λy hy=>?_,λAt=>?_⟩
  .obtain⟨i,hi,rfl⟩:=List.getElem_of_mem hy;exact(iD i _ (da hi)).1
  have p9:∀i y,ks[i]?=some y->∀j v,(fe y).cp[j]?=some v->W.cell? (a.add (i*k+j))=some v:=λi y hi j v hj=>by
   obtain⟨⟨_,fI⟩,hc⟩:=iD i y hi;obtain⟨_,_,h3⟩:=World.cells?_some hc;have iT:j<k:=by have:=(eY.1 hj).1;omega
   have:=h3 j iT;rw [Addr.add_add,hj] at this;exact this
  have h00:=iD 0 _ (da At);have hb:=World.cells?_block h00.2 rH;rw [Nat.zero_mul] at hb;obtain⟨b,o,sp⟩:=a;have arH:sp=none:=by
   obtain⟨v,ab⟩:∃v,(fe ks[0]).cp[0]?=some v:=⟨_,da (by rw [h00.1.2];exact rH)⟩;have:=p9 0 _ (da At) 0 v ab;rw [Nat.zero_mul,show(⟨b,o,sp⟩:Addr).add (0+0)=⟨b,o,sp⟩ from rfl,World.cell?] at this;cases sp with
   | none=>rfl
   | some s =>
    exfalso
    dsimp only at this
    split at this
    .simp at this
    .cases this
  subst arH;refine⟨b,o,rfl,hb,λi y hi j v hj=>?_⟩;have:=p9 i y hi j v hj;rw [Go.Addr.add_mid] at this
  rwa [kZ,Nat.mul_comm k i]
open Go.ChangeShapes Go.WideShapes Go.ChangeAt
def amC:prog.cellsOf 89 = 1:=by kernel_rfl
def Wh{W:yp}{nm:String}{g g0 t0 tid n fuel:Nat}{l:aC}{datum:DataW Unit}{cs:cU}{p:List MemPlace}(hg:prog.globalNamed nm=some g)(ht:(prog.globals[g]?).map (·.type)=some tid)(hu:prog.underlying tid=some (.array n 89))
 (hd:datum = .agg (l.map λ(x:Nat)=>.lit (.int .u64 (x:Int))))(Tm:prog.globalNamed nm=some g0)(wP:(prog.globals[g0]?).map (·.type)=some t0)(nn:W.var? prog nm=some cs.toArray)(BS:jX (λ_=>()) prog W 0 (λ_=>true) false fuel t0 cs=some (datum,p)) :
  ∀i,i<n->W.cell? ⟨g,i,none⟩=some (.int .u64 (l[i]! : Nat)):=by
 obtain rfl:=jm (hg.symm.trans Tm);obtain rfl:=jm (ht.symm.trans wP);obtain⟨xs,m1,rfl,rK,hlen,hn5,An⟩:=DataW.trod_array hu BS;have lI:=congrArg Prod.fst rK;rw [hd] at lI
 injection lI with lI
 intro i hi
 have h0:=An i hi;rw [amC] at h0;obtain⟨x,Dn⟩:∃x,xs[i]?=some x:=⟨xs[i]'(by omega),da (by omega)⟩;rw [Dn] at h0;obtain⟨n',e1,e2,_⟩:=oU zC h0
 have Ap:l.length=n:=by have:=congrArg jQ lI;simp only [dL] at this;omega
 have h3:(l.map λ(x:Nat)=>(DataW.lit (.int .u64 (x:Int)):DataW Unit))[i]?=(xs.map (·.1))[i]?:=by rw [lI]
 rw [lC,lC,Dn,da (by omega)] at h3;simp only [Option.map_some,Option.some.injEq] at h3;rw [e2] at h3
 have hn:n'=((l[i]! : Nat):Int):=by rw [getElem!_pos l i (by omega)];injection h3 with h3;injection h3 with _ h3;exact h3.symm
 subst hn;have p9:=World.var?_cell hg nn i;rw [p9];have:=avJ e1
 simpa using this
def Lh:List (String×DataW Unit):=[("witan/field.twice",Rows.laid_witan_field_twice),("witan/sha.starts",Rows.laid_witan_sha_starts),("witan/sha.steps",Rows.laid_witan_sha_steps)]
def an8(os:Os)(args:ct):laidMetH prog Lh ((World.doorLaid prog 400 os).forCall (λ_ _=>0) ⟨#[],args,[]⟩).memory :=
 laidMetH_of_parts3 (fuel:=8) (laidMet_of_run' 8 (by kernel_rfl) (by kernel_rfl)) (by kernel_rfl) (by kernel_rfl)
def avB{W:yp}(h:laidMetH prog Lh W):eI W:=by rw [MakeChecks.laidMetH_plain _ _ _ (by kernel_rfl)] at h;obtain⟨ai,⟨g0,t0,cs0,f0,p0,q0,Tm,wP,nn,BS,⟨g1,t1,cs1,f1,fc,q1,hg1,ht1,TW,hd1,⟨g2,t2,cs2,f2,p2,q2,sr,TM,tz,jS,_,_⟩,_⟩,_⟩,_,_⟩:=h;have c0:=Wh (l:=Gh) (n:=5) (g:=3) (tid:=232) (by kernel_rfl) (by kernel_rfl) zD (by kernel_rfl) Tm wP nn BS;have c1:=Wh (l:=jD) (n:=8) (g:=1) (tid:=267) (by kernel_rfl) (by kernel_rfl) Qe (by kernel_rfl) hg1 ht1 TW hd1;have c2:=Wh (l:=oQ) (n:=80) (g:=2) (tid:=300) (by kernel_rfl) (by kernel_rfl) underlying300 (by kernel_rfl) sr TM tz jS;exact⟨⟨c0,nE W ⟨3,0,none⟩ (c0 0 (by omega))⟩,⟨⟨c2,nE W ⟨2,0,none⟩ (c2 0 (by omega))⟩,c1,nE W ⟨1,0,none⟩ (c1 0 (by omega))⟩⟩
open Go.ChangeShapes Go.WideShapes Go.ChangeAt
def Yh(a:zP):(Aa a).cp=[.int .i64 a.who,.int .i64 a.ver,.int .i64 a.key,.bool a.wr,.bool a.cut]:=by simp [aL.cp,zP.parts,aL.den,nW,a7,bz.cells,eK.den]
def anC(a:zP):ch (Aa a).fA/\(Aa a).cp.length=5:=⟨λq hq=>by have hq:q∈a.parts:=hq;simp only [zP.parts,bT,List.not_mem_nil,or_false] at hq;rcases hq with rfl|rfl|rfl|rfl|rfl<;>exact⟨trivial,rfl,rfl⟩,by rw [Yh];rfl⟩
theorem YJ{α:Type}{l:List α}(h:l.length=5):∃a b c d e,l=[a,b,c,d,e]:=by
 match l,h with
 | [a,b,c,d,e],_=>exact⟨a,b,c,d,e,rfl⟩
def akH{H:Type}{fp:TypeId×Value->H}{W:yp}{held:Bool}(n:Nat)(cs:cU)(x:DataW H×List MemPlace)(h:jX fp prog W 0 (λ_=>true) held n 72 cs=some x) :
  ∃a:zP,cs=(Aa a).cp/\ch (Aa a).fA/\(Aa a).cp.length=5:=by
 obtain⟨xs,m,_,_,hl,hlen,hf⟩:=DataW.trod_struct underlying72 h;obtain⟨a,b,c,d,e,rfl⟩:=YJ (hl.trans (by kernel_rfl));obtain⟨x0,x1,x2,x3,x4,rfl⟩:=YJ (show xs.length=5 from hlen)
 have c0:prog.cellsOf 3 = 1:=by kernel_rfl
 have c1:prog.cellsOf 4 = 1:=by kernel_rfl
 have h0:jX fp prog W 0 (λ_=>true) held m 3 (([a,b,c,d,e].drop 0).take (prog.cellsOf 3))=some x0:=hf 0 _ rfl;have h1:jX fp prog W 0 (λ_=>true) held m 3 (([a,b,c,d,e].drop 1).take (prog.cellsOf 3))=some x1:=hf 1 _ rfl;have h2:jX fp prog W 0 (λ_=>true) held m 3 (([a,b,c,d,e].drop 2).take (prog.cellsOf 3))=some x2:=hf 2 _ rfl;have h3:jX fp prog W 0 (λ_=>true) held m 4 (([a,b,c,d,e].drop 3).take (prog.cellsOf 4))=some x3:=hf 3 _ rfl;have h4:jX fp prog W 0 (λ_=>true) held m 4 (([a,b,c,d,e].drop 4).take (prog.cellsOf 4))=some x4:=hf 4 _ rfl;rw [c0] at h0 h1 h2;rw [c1] at h3 h4;obtain⟨n0,e0,_⟩:=oU LY h0;obtain⟨n1,e1,_⟩:=oU LY h1;obtain⟨n2,e2,_⟩:=oU LY h2;obtain⟨n3,e3,_⟩:=DataW.trod_bool underlying4 h3;obtain⟨n4,e4,_⟩:=DataW.trod_bool underlying4 h4
 injection e0 with e0
 injection e1 with e1
 injection e2 with e2
 injection e3 with e3
 injection e4 with e4
 subst e0 e1 e2 e3 e4;exact⟨⟨n0,n1,n2,n3,n4⟩,(Yh ⟨n0,n1,n2,n3,n4⟩).symm,anC _⟩
end Go.Proofs.Q
