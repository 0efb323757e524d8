import Derived.Test.YtlhlkofpjhpaoaaGreatDoorQe
import Derived.Test.YtlhlkofpjhpaoaaGreatDoorQf
import Derived.Test.YtlhlkofpjhpaoaaGreatDoorQi
import Derived.Test.YtlhlkofpjhpaoaaGreatDoorQg
import Derived.Test.YtlhlkofpjhpaoaaGreatDoorQa
import Derived.Test.YtlhlkofpjhpaoaaGreatDoorQh
import Derived.StillTailTactics
import Derived.Deep.OwnRows
import Derived.OwnWalk
import Derived.Test.YtlhlkofpjhpaoaaGreatDoorQd
set_option maxRecDepth 100000
set_option maxHeartbeats 1000000
open Bool renaming and_eq_true->aK
open Go.Act renaming put->oQ
open Go.Instr renaming field->s7
open Go.IntKind renaming wrap_u64->a8
open Go.Obj renaming cells->gZ
open Go.Op renaming equalIn->bX
open Go.Region renaming wanted->aN,ready->aR,binds->cJ,noSelect_spec->dQ,free_spec->gH
open Go.Result renaming andThen_ok->aB
open Go.Sem renaming run_bind->aF,run_pure->aG
open List renaming replicate->aA,mem_singleton->aE,mem_cons_of_mem->aI,mem_cons->aJ,mem_cons_self->aM,getElem?_eq_getElem->aP,size_toArray->aV,length_take->aY,take_of_length_le->bH,setIfInBounds_toArray->dE,ext_getElem->dG,map_set->dR,set_cons_zero->eG,set_cons_succ->eH,mem_range'_1->gT,drop_zero->kH,range->mG,append_inj->p6,extract_eq_take_drop->qW,forIn_cons->sU
open Nat renaming le_refl->aH,blt->aO,zero_le->aQ,mod_eq_of_lt->aW,zero_add->aX,reducePow->b8,min_eq_left->cA,pow_succ->cG,mul_comm->c8,mul_assoc->fN,sub_self->gP,mul_le_mul->iP,pow_add->kB,pow_mul->l4,pow_le_pow_right->o5,div_lt_of_lt_mul->o6,add_mul_div_left->o7,pow_pos->sX
open Std.Legacy.Range renaming size->dV
namespace Go.Proofs.YtlhlkofpjhpaoaaGreatDoor
open Go.RowKit Go.IntWalk
section
variable{P:Program}{ops:Array Oper}{Q:Exit->Act->World->Prop}{Inv:World->Prop}
def wpAnyP(P:Program)(ops:Array Oper)(Q:Exit->Act->World->Prop)(Inv:World->Prop)(p:Nat->Bool)(Fin:Array Bool->Act->World->Prop):Nat->Array Bool->Act->World->Prop
  | 0,listed,a,w=>(∀j∈aR .any ops listed,∀i,p i=true->waitsT .any ops ops.size j i=true)/\Fin listed a w
  | fuel+1,listed,a,w=>aR .any ops listed≠[]/\∀i∈aR .any ops listed,wpOp P ops Q i (λa' w'=>Inv w'/\wpAnyP P ops Q Inv p Fin fuel (listed.setIfInBounds i true) a' w') a w
abbrev FinA(P:Program)(ops:Array Oper)(Q:Exit->Act->World->Prop)(m:Nat):Array Bool->Act->World->Prop:=λlisted a w=>wpAny P .any ops Q m listed a w
theorem wpAny_of_P{p:Nat->Bool}{m:Nat}:∀(fuel:Nat) (listed:Array Bool) (a:Act) (w:World),wpAnyP P ops Q Inv p (FinA P ops Q m) fuel listed a w->wpAny P .any ops Q (m+fuel) listed a w
 | 0,_,_,_,h=>h.2
 | fuel+1,_,_,_,h=>⟨λh0=>absurd h0 h.1,λi hi=>wpOp_mono (λa' w' h'=>wpAny_of_P fuel _ a' w' h'.2) (h.2 i hi)⟩
theorem P_first{p:Nat->Bool}{Fin:Array Bool->Act->World->Prop}{i:Nat}{oi:Oper}{v:Value}(hin:p i=true)(hi:ops[i]?=some oi)(hst:stillG oi.op=true)(hsel:∀(j:Nat) (o:Oper) cs b,ops[j]?=some o->o.op ≠ .select cs b)(hQ:∀c a d v w,Q (.panic c) (a.put d v) w->Q (.panic c) a w) :
  ∀(fuel:Nat) (listed:Array Bool) (a:Act) (w:World),Inv w->Closed .any ops listed ->
   (∀j oj,ops[j]?=some oj->j≠i->listed.getD j true=false->(∀e∈oj.after,cJ .any e=true->e.on≠i)->oi.apart ops oj=true) ->
   i∈aR .any ops listed->YieldsB P ops Inv oi (· = v) a->wpAnyP P ops Q Inv p Fin fuel (listed.setIfInBounds i true) (a.put oi.dst v) w->wpAnyP P ops Q Inv p Fin (fuel+1) listed a w:=by
 intro fuel
 induction fuel with
 | zero =>
  intro listed a w hC hcs _ hr hy H
  refine⟨λh=>(by rw [h] at hr;cases hr),λj hj=>?_⟩
  by_cases hji:j=i
  ·subst hji
   exact still_wpOp hi hst hy hC ⟨hC,H⟩
  ·have h1:=H.1 j (ready_mono hj hji) i hin
   obtain⟨_,oj,hoj,hall⟩:=mem_ready.1 hj;have h6:=hcs.waits _ j i oj hoj hall h1;rw [getD_ready hr] at h6
   cases h6
 | succ fuel ih =>
  intro listed a w hC hcs hfree hr hy H
  refine⟨λh=>(by rw [h] at hr;cases hr),λj hj=>?_⟩
  by_cases hji:j=i
  ·subst hji
   exact still_wpOp hi hst hy hC ⟨hC,H⟩
  ·obtain⟨hjun,oj,hoj,hall⟩:=mem_ready.1 hj
   have hnot:∀e∈oj.after,cJ .any e=true->e.on≠i:=λe he hb heq=>by
    have h1:=hall e he hb;rw [heq,getD_ready hr] at h1
    cases h1
   have h2:=wpOp_putB (V:=(· = v)) hoj (hfree j oj hoj hji hjun hnot) (λcs b=>hsel i oi cs b hi) (λcs b=>hsel j oj cs b hoj) ⟨v,rfl⟩ (.inr ⟨v,λ_ h=>h⟩) hQ hy (λu hu=>by
    subst hu
    exact H.2 j (ready_mono hj hji))
   have hun':∀k,(listed.setIfInBounds j true).getD k true=false->listed.getD k true=false:=λk hun=>by
    by_cases hjk:j=k
    ·subst hjk;exact hjun
    ·rw [getD_set_ne true hjk] at hun;exact hun
   refine wpOp_mono (λa' w' h3=>?_) h2;obtain⟨hy',h4⟩:=h3;obtain⟨hC',h5⟩:=h4 v rfl;refine⟨hC',ih (listed.setIfInBounds j true) a' w' hC' (hcs.set hj) (λk ok hk hki hun hno=>hfree k ok hk hki (hun' k hun) hno) (ready_mono hr (Ne.symm hji)) hy' ?_⟩;rw [Array.setIfInBounds_comm _ _ hji];exact h5
end
def pS(P:Program)(b:Base)(Q:Exit->Act->World->Prop)(N:Nat)(ops:Array Oper)(Inv:World->Prop)(p:Nat->Bool)(Fin:Array Bool->Act->World->Prop)(fuel:Nat)(listed:Array Bool)(e:Env):Prop:=Closed .any ops listed->∀a w,St b N e a w->Inv w->wpAnyP P ops (NoPanic Q) Inv p Fin fuel listed a w
def frontP(ops:Array Oper)(p:Nat->Bool)(i:Nat)(listed:Array Bool):Bool:=p i&&(aR .any ops listed).contains i&&Region.free .any ops listed i&&Region.noSelect ops
section
variable{P:Program}{T:List TyR}{b:Base}{ops:Array Oper}{Q:Exit->Act->World->Prop}{N fuel:Nat}{p:Nat->Bool}{Fin:Array Bool->Act->World->Prop}{listed:Array Bool}{E:SE}{L L0:List LV}{R:List Res}{F M:World->Prop}{Inv:World->Prop}{e:Env}
theorem panic_putP:∀c (a:Act) d v w,NoPanic Q (.panic c) (a.put d v) w->NoPanic Q (.panic c) a w:=λ_ _ _ _ _ h=>h
theorem p_front{o:Oper}{k:Nat}{v:SV}(hT:OkT P T)(i:Nat)(hc:frontP ops p i listed=true)(ho:ops[i]?=some o)(hg:o.guard=none)(hd:o.dst=some k)(hk:aO k N=true)(hs:stillG o.op=true)(hv:stepS T E L0 o.op=some v)(hsub:∀x∈L0,x∈L)
 (hn:pS P b Q N ops (InvL L0) p Fin fuel (listed.setIfInBounds i true) ⟨(k,v)::E,L,R,F,M⟩):pS P b Q N ops (InvL L0) p Fin (fuel+1) listed ⟨E,L,R,F,M⟩:=λhcs a w hst hI=>by
 obtain⟨G,S,h1,h2,h3⟩:=hst;simp only [frontP,aK] at hc;obtain⟨⟨⟨hin,hr⟩,hfr⟩,hsel⟩:=hc
 have hr':i∈aR .any ops listed:=by simpa using hr
 obtain⟨h4,h5⟩:=stepS_ok hT h2 (λx hx=>(h3.var x (hsub x hx)).2.1) hv;have h6:=hn (hcs.set hr') (a.put (some k) (v.den G)) w ⟨G,S,h1.put hk _,h2.cons h4,h3⟩ hI;refine P_first hin ho hs (dQ hsel) panic_putP fuel listed a w hI hcs (gH ho hfr) hr' (v:=v.den G) (.inl ⟨by simp [aN,hg],λw' hw'=>?_⟩) (by rw [hd];exact h6)
 unfold atB
 rw [h5 h1 λx hx=>by
  obtain⟨g,e1,e2⟩:=hw' x hx;rw [(h3.var x (hsub x hx)).2.2 g e1]
  exact e2]
 exact⟨rfl,rfl⟩
theorem p_frontO{o:Oper}{k:Nat}(v:SV)(hvo:v.Ok)(i:Nat)(hc:frontP ops p i listed=true)(ho:ops[i]?=some o)(hg:o.guard=none)(hd:o.dst=some k)(hk:aO k N=true)(hs:stillG o.op=true)(hv:∀(G:Nat->Nat) (a:Act) (w:World),Fr N (denE G E) a->(execOp a.eval o).run P w = .ok (.value (v.den G)) w)
 (hn:pS P b Q N ops Inv p Fin fuel (listed.setIfInBounds i true) ⟨(k,v)::E,L,R,F,M⟩):pS P b Q N ops Inv p Fin (fuel+1) listed ⟨E,L,R,F,M⟩:=λhcs a w hst hI=>by
 obtain⟨G,S,h1,h2,h3⟩:=hst;simp only [frontP,aK] at hc;obtain⟨⟨⟨hin,hr⟩,hfr⟩,hsel⟩:=hc
 have hr':i∈aR .any ops listed:=by simpa using hr
 have h6:=hn (hcs.set hr') (a.put (some k) (v.den G)) w ⟨G,S,h1.put hk _,h2.cons hvo,h3⟩ hI;refine P_first hin ho hs (dQ hsel) panic_putP fuel listed a w hI hcs (gH ho hfr) hr' (v:=v.den G) (.inl ⟨by simp [aN,hg],λw' _=>?_⟩) (by rw [hd];exact h6)
 unfold atB
 rw [hv G a w' h1];exact⟨rfl,rfl⟩
theorem p_weak{e':Env}(hw:Weak e e')(h:pS P b Q N ops Inv p Fin fuel listed e'):pS P b Q N ops Inv p Fin fuel listed e:=λhcs a w hst hI=>h hcs a w (hst.weak hw) hI
theorem p_step{o:Oper}(i:Nat)(hr:aR .any ops listed=[i])(ho:ops[i]?=some o)(h:∀K:Act->World->Prop,(∀e',(∀a w,St b N e' a w->Inv w)->pS P b Q N ops Inv p Fin fuel (listed.setIfInBounds i true) e'->kS b K N e')->lS P b ops (Exit.then K (NoPanic Q)) N [o] e):pS P b Q N ops Inv p Fin (fuel+1) listed e:=λhcs a w hst _ =>
 ⟨by rw [hr];simp,λj hj=>by
  rw [hr,aE] at hj;subst hj;have hcs':=hcs.set (i:=j) (by rw [hr];simp)
  exact wpOp_of_list ho (h (λa' w'=>Inv w'/\wpAnyP P ops (NoPanic Q) Inv p Fin fuel (listed.setIfInBounds j true) a' w') (λe' hI' ha a' w' hs'=>⟨hI' a' w' hs',ha hcs' a' w' hs' (hI' a' w' hs')⟩) a w hst)⟩
theorem p_step2{o o':Oper}(i i':Nat)(hr:aR .any ops listed=[i,i'])(ho:ops[i]?=some o)(ho':ops[i']?=some o')
 (h:∀K:Act->World->Prop,(∀e',(∀a w,St b N e' a w->Inv w)->pS P b Q N ops Inv p Fin fuel (listed.setIfInBounds i true) e'->kS b K N e')->lS P b ops (Exit.then K (NoPanic Q)) N [o] e)
 (h':∀K:Act->World->Prop,(∀e',(∀a w,St b N e' a w->Inv w)->pS P b Q N ops Inv p Fin fuel (listed.setIfInBounds i' true) e'->kS b K N e')->lS P b ops (Exit.then K (NoPanic Q)) N [o'] e):pS P b Q N ops Inv p Fin (fuel+1) listed e:=λhcs a w hst _ =>
 ⟨by rw [hr];simp,λj hj=>by
  rw [hr] at hj
  have key:∀(i:Nat) (o:Oper),i∈aR .any ops listed->ops[i]?=some o->(∀K:Act->World->Prop,(∀e',(∀a w,St b N e' a w->Inv w)->pS P b Q N ops Inv p Fin fuel (listed.setIfInBounds i true) e'->kS b K N e')->lS P b ops (Exit.then K (NoPanic Q)) N [o] e)->wpOp P ops (NoPanic Q) i (λa' w'=>Inv w'/\wpAnyP P ops (NoPanic Q) Inv p Fin fuel (listed.setIfInBounds i true) a' w') a w:=λi o hi ho h =>
   wpOp_of_list ho (h (λa' w'=>Inv w'/\wpAnyP P ops (NoPanic Q) Inv p Fin fuel (listed.setIfInBounds i true) a' w') (λe' hI' ha a' w' hs'=>⟨hI' a' w' hs',ha (hcs.set hi) a' w' hs' (hI' a' w' hs')⟩) a w hst)
  rcases aJ.1 hj with rfl|hj
  ·exact key _ o (by rw [hr];simp) ho h
  ·rw [aE] at hj
   subst hj
   exact key _ o' (by rw [hr];simp) ho' h'⟩
theorem p_frontI{o:Oper}{k:Nat}(v:SV)(hvo:v.Ok)(i:Nat)(hc:frontP ops p i listed=true)(ho:ops[i]?=some o)(hg:o.guard=none)(hd:o.dst=some k)(hk:aO k N=true)(hs:stillG o.op=true)(hv:∀(G:Nat->Nat) (a:Act) (w:World),Fr N (denE G E) a->Inv w->(execOp a.eval o).run P w = .ok (.value (v.den G)) w)
 (hn:pS P b Q N ops Inv p Fin fuel (listed.setIfInBounds i true) ⟨(k,v)::E,L,R,F,M⟩):pS P b Q N ops Inv p Fin (fuel+1) listed ⟨E,L,R,F,M⟩:=λhcs a w hst hI=>by
 obtain⟨G,S,h1,h2,h3⟩:=hst;simp only [frontP,aK] at hc;obtain⟨⟨⟨hin,hr⟩,hfr⟩,hsel⟩:=hc
 have hr':i∈aR .any ops listed:=by simpa using hr
 have h6:=hn (hcs.set hr') (a.put (some k) (v.den G)) w ⟨G,S,h1.put hk _,h2.cons hvo,h3⟩ hI;refine P_first hin ho hs (dQ hsel) panic_putP fuel listed a w hI hcs (gH ho hfr) hr' (v:=v.den G) (.inl ⟨by simp [aN,hg],λw' hw'=>?_⟩) (by rw [hd];exact h6)
 unfold atB
 rw [hv G a w' h1 hw'];exact⟨rfl,rfl⟩
theorem p_frontS{o:Oper}{k:Nat}{v:SV}(hT:OkT P T)(i:Nat)(hc:frontP ops p i listed=true)(ho:ops[i]?=some o)(hg:o.guard=none)(hd:o.dst=some k)(hk:aO k N=true)(hs:stillG o.op=true)(hv:stepS T E L0 o.op=some v)(hsub:∀x∈L0,x∈L)(hI:∀w,Inv w->InvL L0 w)
 (hn:pS P b Q N ops Inv p Fin fuel (listed.setIfInBounds i true) ⟨(k,v)::E,L,R,F,M⟩):pS P b Q N ops Inv p Fin (fuel+1) listed ⟨E,L,R,F,M⟩:=λhcs a w hst hI0=>by
 obtain⟨G,S,h1,h2,h3⟩:=hst;simp only [frontP,aK] at hc;obtain⟨⟨⟨hin,hr⟩,hfr⟩,hsel⟩:=hc
 have hr':i∈aR .any ops listed:=by simpa using hr
 obtain⟨h4,h5⟩:=stepS_ok hT h2 (λx hx=>(h3.var x (hsub x hx)).2.1) hv;have h6:=hn (hcs.set hr') (a.put (some k) (v.den G)) w ⟨G,S,h1.put hk _,h2.cons h4,h3⟩ hI0;refine P_first hin ho hs (dQ hsel) panic_putP fuel listed a w hI0 hcs (gH ho hfr) hr' (v:=v.den G) (.inl ⟨by simp [aN,hg],λw' hw'=>?_⟩) (by rw [hd];exact h6)
 unfold atB
 rw [h5 h1 λx hx=>by
  obtain⟨g,e1,e2⟩:=hI w' hw' x hx;rw [(h3.var x (hsub x hx)).2.2 g e1]
  exact e2]
 exact⟨rfl,rfl⟩
theorem p_frontA{o:Oper}{k:Nat}(v:SV)(hvo:v.Ok)(i:Nat)(hc:frontP ops p i listed=true)(ho:ops[i]?=some o)(hg:o.guard=none)(hd:o.dst=some k)(hk:aO k N=true)(hs:stillG o.op=true)(hsub:∀x∈L0,x∈L)(hI:∀w,Inv w->InvL L0 w)
 (hv:∀(G:Nat->Nat) (a:Act) (w:World),Fr N (denE G E) a->LAt G L0 w->(execOp a.eval o).run P w = .ok (.value (v.den G)) w)
 (hn:pS P b Q N ops Inv p Fin fuel (listed.setIfInBounds i true) ⟨(k,v)::E,L,R,F,M⟩):pS P b Q N ops Inv p Fin (fuel+1) listed ⟨E,L,R,F,M⟩:=λhcs a w hst hI0=>by
 obtain⟨G,S,h1,h2,h3⟩:=hst;simp only [frontP,aK] at hc;obtain⟨⟨⟨hin,hr⟩,hfr⟩,hsel⟩:=hc
 have hr':i∈aR .any ops listed:=by simpa using hr
 have h6:=hn (hcs.set hr') (a.put (some k) (v.den G)) w ⟨G,S,h1.put hk _,h2.cons hvo,h3⟩ hI0;refine P_first hin ho hs (dQ hsel) panic_putP fuel listed a w hI0 hcs (gH ho hfr) hr' (v:=v.den G) (.inl ⟨by simp [aN,hg],λw' hw'=>?_⟩) (by rw [hd];exact h6)
 unfold atB
 rw [hv G a w' h1 λx hx=>by
  obtain⟨g,e1,e2⟩:=hI w' hw' x hx;rw [(h3.var x (hsub x hx)).2.2 g e1]
  exact e2]
 exact⟨rfl,rfl⟩
theorem runO_ldL{o:Oper}{t:TypeId}{x:Operand}{j off:Nat}{d:TypeDesc}{ps:List Pt}(v:Value)(ho:o.op = .load t x)(hx:evS E x=some (.a j off))(hl:lookL L0 j=some ps)(hv:(catP ps)[off]?=some v)(hu:P.underlying t=some d)(hr:d.isRow=false) :
  ∀(G:Nat->Nat) (a:Act) (w:World),Fr N (denE G E) a->LAt G L0 w->(execOp a.eval o).run P w = .ok (.value ((SV.v v).den G)) w:=λG a w ha hw=>by
 have h1:a.eval x = .pointer (some ⟨G j,off,none⟩):=ha.eval (evS_ok hx);obtain⟨u,hu2,rfl,hps⟩:=lookL_mem hl;have h2:=(hw u hu2).cell off;rw [hps,hv] at h2;have h3:=run_load_cell hu hr h2
 unfold execOp
 simp only [ho,h1,aF,h3,aB,aG]
 rfl
theorem p_ldO{o:Oper}{k:Nat}{t ty:TypeId}{x:Operand}{g off:Nat}{ps:List Pt}{q:SQ}(hT:OkT P T)(i:Nat)(hc:frontP ops p i listed=true)(ho:ops[i]?=some o)(hg:o.guard=none)(hd:o.dst=some k)(hk:aO k N=true)(hop:o.op = .load t x)(hx:evS E x=some (.v (.pointer (some ⟨g,off,none⟩))))(hl:loadS T ps t off=some q)(hok:OkP ps)(hI:∀w,Inv w->ObjF g ty ps w)
 (hn:pS P b Q N ops Inv p Fin fuel (listed.setIfInBounds i true) ⟨(k,.q q)::E,L,R,F,M⟩):pS P b Q N ops Inv p Fin (fuel+1) listed ⟨E,L,R,F,M⟩ :=
 p_frontI (.q q) (loadS_at hT hok hl).1 i hc ho hg hd hk (by rw [hop];rfl) (λ_ _ w ha hw=>(load_obj hT hop hx hl ha (hI w hw)).2) hn
theorem inv_two{E':SE}{L':List LV}{R':List Res}{F' M':World->Prop}{p:World->Prop}(hsub:∀x∈L0,x∈L'/\x.g.isSome=true)(hp:∀w,F' w->M' w->p w):∀a w,St b N ⟨E',L',R',F',M'⟩ a w->InvL L0 w/\p w:=λa w hst=>by
 refine⟨?_,?_⟩
 ·obtain⟨G,S,_,_,h3⟩:=hst
  intro x hx
  obtain⟨h1,h2⟩:=hsub x hx;obtain⟨g,hg⟩:=Option.isSome_iff_exists.1 h2;have h4:=h3.var x h1;refine⟨g,hg,?_⟩;rw [<-h4.2.2 g hg];exact h4.1
 ·obtain⟨G,S,_,_,h3⟩:=hst
  exact hp w h3.view.fact h3.view.fresh
def forcedJ(ops:Array Oper):List Nat->Array Bool->Bool
  | [],listed=>(aR .any ops listed).isEmpty
  | k::ks,listed=>decide (aR .any ops listed=[k])&&forcedJ ops ks (listed.setIfInBounds k true)
def opsJ(l:List Oper):List Nat->List Oper
  | []=>[]
  | k::ks=>match l[k]? with
    | some o=>o::opsJ l ks
    | none=>[]
theorem wpAny_forcedJ{l:List Oper}:∀(ks:List Nat) (listed:Array Bool) (a:Act) (w:World),(∀k∈ks,k<l.length)->forcedJ l.toArray ks listed=true ->
  wpList P l.toArray Q (opsJ l ks) a w->wpAny P .any l.toArray Q ks.length listed a w
 | [],_,_,_,_,hB,h=>⟨by simpa [forcedJ] using hB,h⟩
 | k::ks,listed,a,w,hl,hB,h=>by
  obtain⟨o,ho⟩:∃o,l[k]?=some o:=⟨_,aP (hl k aM)⟩
  have h0:l.toArray[k]?=some o:=by simpa using ho
  simp only [forcedJ,aK,decide_eq_true_eq] at hB;obtain⟨hr,hB'⟩:=hB
  unfold opsJ at h
  rw [ho] at h
  dsimp only at h
  refine⟨λe=>(by rw [hr] at e;cases e),λi hi=>?_⟩;rw [hr,aE] at hi;subst hi;have hl':∀j∈ks,j<l.length:=λj hj=>hl j (aI _ hj)
  unfold wpOp
  simp only [h0]
  unfold wpList at h
  split
  ·rename_i hw
   simp only [hw,if_true] at h;exact h.imp (Oper.wp_mono λa' w' h'=>wpAny_forcedJ ks _ a' w' hl' hB' h') id
  ·rename_i hw
   simp only [hw] at h;exact wpAny_forcedJ ks _ _ _ hl' hB' (by simpa using h)
def memJ(ks:List Nat)(i:Nat):Bool:=ks.any λk=>Nat.beq k i
theorem p_tail{ks:List Nat}(js:List Nat){l l':List Oper}(hB:((aR .any l.toArray listed).all (λj=>ks.all λi=>waitsT .any l.toArray l.toArray.size j i)&&js.all (λk=>decide (k<l.length))&&forcedJ l.toArray js listed)=true)(hl:opsJ l js=l')(h:lS P b l.toArray (NoPanic Q) N l' e) :
  pS P b Q N l.toArray Inv (memJ ks) (FinA P l.toArray (NoPanic Q) js.length) 0 listed e:=λ_ a w hst _=>by
 subst hl;simp only [aK,List.all_eq_true,decide_eq_true_eq] at hB;refine⟨λj hj i hi=>?_,wpAny_forcedJ js listed a w hB.1.2 hB.2 (h a w hst)⟩;obtain⟨k,hk,e⟩:=List.any_eq_true.1 hi;obtain rfl:=Nat.eq_of_beq_eq_true e;exact hB.1.1 j hj k hk
theorem s_anyP{l:List Oper}{id:Nat}(ks:List Nat)(n m:Nat)(Inv:World->Prop)(hm:P.follows .mixedOrders=true)(hn:m+n=l.length)(h0:∀a w,St b N e a w->Inv w)(h:pS P b Q N l.toArray Inv (memJ ks) (FinA P l.toArray (NoPanic Q) m) n (Array.replicate l.toArray.size false) e):cS P b (.region id l.toArray true) Q N e:=λa w hst=>by
 refine wp_region_noPanic (wp_region_any hm ?_);obtain⟨G,S,h1,h2,h3⟩:=hst;have hd:St b N e a w.drew:=⟨G,S,h1,h2,h3.drew⟩;have h4:=wpAny_of_P n _ a w.drew (h (Closed.none _) a w.drew hd (h0 a _ hd))
 have e1:m+n=l.toArray.size:=by simpa using hn
 rw [e1] at h4;exact h4
end
end Go.Proofs.YtlhlkofpjhpaoaaGreatDoor
namespace Go.Proofs.YtlhlkofpjhpaoaaGreatDoor
open Go.RowKit Go.IntWalk Nums
theorem Us_oneA(l:List Nat):∀v∈(Us l).toArray.toList,v.oneCell'=true:=λv hv=>Us_one l v (by simpa using hv)
theorem us_size{l:List Nat}{n:Nat}(h:l.length=n):(Us l).toArray.size=n:=by rw [aV,Us_len,h]
theorem eb_zero:EB [0,0,0,0,0] 0:=EB.mk5 (by omega) (by omega) (by omega) (by omega) (by omega) j8
def zl:List Nat:=[0,0,0,0,0]
abbrev eE(l:List Nat):SQ:=.p [.agg 5 (Us l).toArray]
theorem eE_p{l:List Nat}(h:l.length=5):OkP [.agg 5 (Us l).toArray]:=λq hq=>by
 rw [aE.1 hq];exact⟨us_size h,Us_oneA l⟩
abbrev elP(v:Nums.F):Post {r:List Nat // EB r v}:={ ret:=λr=>.q (eE r.1) }
theorem Spec.el{f:FuncId}{args:List Value}{F:World->Prop}{v:Nums.F}(h:∀w,F w->Calls Tryz.prog f args.toArray w λe w'=>∃r,EB r v/\e = .returned (.agg (Us r).toArray)/\Below w.heap.size w w'):Spec f args [] F (elP v):=λw S _ hS _ hF =>
 (h w hF.now).mono λ_ _ ⟨r,hr,he,hb⟩=>⟨⟨r,hr⟩,S,he,eE_p hr.len,Chg.of_up hb,hS.keep λk hk=>hb.block k (hS.lt k hk),λ_ h _=>h,λ_ _=>trivial,λ_ _=>trivial⟩
instance:Pst Tw:=⟨λ_ _ h hb=>h.below hb⟩
section
variable{b:Base}{fn:Func}{N:Nat}{E:SE}{L:List LV}{F M:World->Prop}{rs:List ResultVar}
theorem k_el{v:Nums.F}(r:List Nat)(hv:EB r v)(hr:fn.results=rs.toArray)(hs:rs.length<=3)(h:resS TY E L rs=some [eE r]):kS b (bodyPost Tryz.prog fn (endS b (elP v)) .ret) N ⟨E,L,[],F,M⟩:=k_ret TY_ok ⟨r,hv⟩ hr hs h rfl rfl (λ_ _ _=>trivial) λ_ _=>trivial
end
theorem arr5:Arr 191 5:=⟨_,Tryz.underlying191,by kernel_rfl⟩
theorem carried_C{F:World->Prop}(a0 a1 a2 a3 a4:Nat)(h0:a0<18446744073709551616)(h1:a1<18446744073709551616)(h2:a2<18446744073709551616)(h3:a3<18446744073709551616)(h4:a4<18446744073709551616):Ct F 175 [eE [a0,a1,a2,a3,a4]] (one (.q (eE (crd a0 a1 a2 a3 a4)))):=⟨own_carried,Spec.pure (eE_p rfl) λw _=>carried_f a0 a1 a2 a3 a4 h0 h1 h2 h3 h4 w⟩
abbrev eM(s:Nat):SQ:=.p [.agg 2 (W2 s)]
abbrev eJ(n:Nat):SQ:=.c (.v (.int .u64 ((n:Nat):Int)))
theorem eM_ok(s:Nat):OkP [.agg 2 (W2 s)]:=λq hq=>by
 rw [aE.1 hq];exact⟨W2_size s,λv hv=>W2_one s v hv⟩
section
variable{b:Base}{Q:Exit->Act->World->Prop}{N:Nat}{E:SE}{L:List LV}{R:List Res}{F M:World->Prop}{y:Code}
theorem s_ps(j:Nat){ps:List Pt}(ps':List Pt)(hl:lookL L j=some ps)(he:catP ps'=catP ps)(hok:OkP ps')(hn:cS Tryz.prog b y Q N ⟨E,putL L j ps',R,F,M⟩):cS Tryz.prog b y Q N ⟨E,L,R,F,M⟩:=λa w ⟨G,S,g1,g2,g3⟩=>by
 obtain⟨u,hu,rfl,hps⟩:=lookL_mem hl;have hb:=g3.at u hu;have h:=g3.set (lookL_name hl) hok;rw [he,<-hps,setRow_self w (G u.j) _ u.t (0,0) hb] at h;exact hn a w ⟨G,S,g1,g2,h⟩
end
section
variable{F:World->Prop}
theorem eplus_C{s a b:Nat}(ha:a<18446744073709551616)(hb:b<18446744073709551616)(hs:s+a*b<340282366920938463463374607431768211456):Ct F 172 [eM s,eJ a,eJ b] (one (.q (eM (s+a*b)))):=⟨λ_ _=>by go_simp,Spec.pure (eM_ok _) λw _=>plus_f s a b ha hb hs w⟩
theorem low_C{s:Nat}:Ct F 173 [eM s] (one (.q (eJ ((s%2251799813685248:Nat))))):=⟨own_low,Spec.pure trivial λw _=>low_f s w⟩
theorem high_C{s:Nat}(hs:s<41538374868278621028243970633760768):Ct F 174 [eM s] (one (.q (eJ (s/2251799813685248:Nat)))):=⟨own_high,Spec.pure trivial λw _=>high_f s hs w⟩
end
theorem sub1r{x y:LV}{L:List LV}:∀z∈[x],z∈y::x::L:=λz hz=>by
 rw [aE.1 hz];exact .tail _ (.head _)
theorem inv1r{b:Base}{N:Nat}{E:SE}{x y:LV}{L:List LV}{R:List Res}{F M:World->Prop}(hx:x.g.isSome=true):∀a w,St b N ⟨E,y::x::L,R,F,M⟩ a w->InvL [x] w:=inv_of λz hz=>⟨sub1r z hz,by
 rw [aE.1 hz]
 exact hx⟩
theorem quoI(a c:Nat)(h:a<9223372036854775808):IntKind.i64.wrap ((a:Int).tdiv (c:Int))=((a/c:Nat):Int):=by
 have h2:=Nat.div_le_self a c;rw [show(a:Int).tdiv (c:Int)=((a/c:Nat):Int) from rfl];generalize a/c=d at *;rw [i64_left,wrap64_in _ (by omega)]
structure MV where
  k:Nat
  c0:Nat
  c1:Nat
  c2:Nat
  c3:Nat
  c4:Nat
  s0:Nat
  s1:Nat
  s2:Nat
  s3:Nat
  s4:Nat
section
variable{F:World->Prop}[Pst F]{a b:List Nat}{x y:Nums.F}
theorem mul_C(ha:EB a x)(hb:EB b y):Ct F 142 [eE a,eE b] (elP (x*y)):=⟨own_elmul,by
 obtain⟨b0,b1,b2,b3,b4,rfl,r0,r1,r2,r3,r4,rv⟩:=hb.nV;refine spec_S [eE a,eE [b0,b1,b2,b3,b4]] 95 Tryz.func142 rfl (by rw [Tryz.ntmps142];rfl) (two_ok (eE_p ha.len) (eE_p rfl)) λB=>?_;refine s_auto TY_ok rfl ?_;refine s_locs λG=>?_;refine s_seq λK hK=>?_;refine s_anyP [0,1,2,3,4,5,6,7,8,9,10,11,12,13,14] 20 0 (InvL [⟨3,some (G 3),193,[.agg 5 (Us [b0,b1,b2,b3,b4]).toArray]⟩]) (by kernel_rfl) rfl (inv1r rfl) ?_;refine p_front TY_ok 0 (by kernel_rfl) rfl rfl rfl rfl rfl rfl sub1r ?_;refine p_frontO (.a 3 (0+1*0)) trivial 1 (by kernel_rfl) rfl rfl rfl rfl rfl (runO_ixA 0 rfl Tryz.underlying191 rfl rfl rfl (by decide)) ?_;refine p_frontA (.v (.int .u64 (b0:Int))) trivial 2 (by kernel_rfl) rfl rfl rfl rfl rfl sub1r (λ_ h=>h) (runO_ldL _ rfl rfl rfl rfl Tryz.underlying123 rfl) ?_;refine p_front TY_ok 3 (by kernel_rfl) rfl rfl rfl rfl rfl rfl sub1r ?_;refine p_frontO (.a 3 (0+1*1)) trivial 4 (by kernel_rfl) rfl rfl rfl rfl rfl (runO_ixA 1 rfl Tryz.underlying191 rfl rfl rfl (by decide)) ?_;refine p_frontA (.v (.int .u64 (b1:Int))) trivial 5 (by kernel_rfl) rfl rfl rfl rfl rfl sub1r (λ_ h=>h) (runO_ldL _ rfl rfl rfl rfl Tryz.underlying123 rfl) ?_;refine p_front TY_ok 6 (by kernel_rfl) rfl rfl rfl rfl rfl rfl sub1r ?_;refine p_frontO (.a 3 (0+1*2)) trivial 7 (by kernel_rfl) rfl rfl rfl rfl rfl (runO_ixA 2 rfl Tryz.underlying191 rfl rfl rfl (by decide)) ?_;refine p_frontA (.v (.int .u64 (b2:Int))) trivial 8 (by kernel_rfl) rfl rfl rfl rfl rfl sub1r (λ_ h=>h) (runO_ldL _ rfl rfl rfl rfl Tryz.underlying123 rfl) ?_;refine p_front TY_ok 9 (by kernel_rfl) rfl rfl rfl rfl rfl rfl sub1r ?_;refine p_frontO (.a 3 (0+1*3)) trivial 10 (by kernel_rfl) rfl rfl rfl rfl rfl (runO_ixA 3 rfl Tryz.underlying191 rfl rfl rfl (by decide)) ?_;refine p_frontA (.v (.int .u64 (b3:Int))) trivial 11 (by kernel_rfl) rfl rfl rfl rfl rfl sub1r (λ_ h=>h) (runO_ldL _ rfl rfl rfl rfl Tryz.underlying123 rfl) ?_;refine p_front TY_ok 12 (by kernel_rfl) rfl rfl rfl rfl rfl rfl sub1r ?_;refine p_frontO (.a 3 (0+1*4)) trivial 13 (by kernel_rfl) rfl rfl rfl rfl rfl (runO_ixA 4 rfl Tryz.underlying191 rfl rfl rfl (by decide)) ?_;refine p_frontA (.v (.int .u64 (b4:Int))) trivial 14 (by kernel_rfl) rfl rfl rfl rfl rfl sub1r (λ_ h=>h) (runO_ldL _ rfl rfl rfl rfl Tryz.underlying123 rfl) ?_;refine p_step 15 (by kernel_rfl) rfl λK2 hK2=>l_E rfl (hK2 _ (inv1r rfl) ?_);refine p_step 16 (by kernel_rfl) rfl λK2 hK2=>l_E rfl (hK2 _ (inv1r rfl) ?_);refine p_step 17 (by kernel_rfl) rfl λK2 hK2=>l_E rfl (hK2 _ (inv1r rfl) ?_);refine p_step 18 (by kernel_rfl) rfl λK2 hK2=>l_E rfl (hK2 _ (inv1r rfl) ?_);refine p_step 19 (by kernel_rfl) rfl λK2 hK2=>l_E rfl (hK2 _ (inv1r rfl) ?_);refine p_tail [] (by kernel_rfl) rfl (l_E rfl (hK _ ?_));refine s_auto TY_ok rfl ?_
 refine s_ps 10 [.agg 2 (W2 0)] rfl rfl (eM_ok 0) (s_ps 11 [.agg 2 (W2 0)] rfl rfl (eM_ok 0) (s_ps 12 [.agg 2 (W2 0)] rfl rfl (eM_ok 0) (s_ps 13 [.agg 2 (W2 0)] rfl rfl (eM_ok 0) (s_ps 14 [.agg 2 (W2 0)] rfl rfl (eM_ok 0) ?_))));refine s_seq λK1 hK1=>?_;refine s_auto TY_ok rfl ?_;refine s_block ?_
 let V:MV->Env:=λs=>⟨[(32,.v (.int .i64 ((s.k:Nat):Int))),(5,.v (.int .u64 ((s.c0:Nat):Int))),(6,.v (.int .u64 ((s.c1:Nat):Int))),(7,.v (.int .u64 ((s.c2:Nat):Int))),(8,.v (.int .u64 ((s.c3:Nat):Int))),(9,.v (.int .u64 ((s.c4:Nat):Int))),(2,.a 2 0),(4,.a 4 0),(10,.a 10 0),(11,.a 11 0),(12,.a 12 0),(13,.a 13 0),(14,.a 14 0)],[⟨14,none,269,[.agg 2 (W2 s.s4)]⟩,⟨13,none,269,[.agg 2 (W2 s.s3)]⟩,⟨12,none,269,[.agg 2 (W2 s.s2)]⟩,⟨11,none,269,[.agg 2 (W2 s.s1)]⟩,⟨10,none,269,[.agg 2 (W2 s.s0)]⟩,⟨4,some (G 4),193,[.agg 5 (Us [0,0,0,0,0]).toArray]⟩,⟨2,some (G 2),193,[.agg 5 (Us a).toArray]⟩],[],F,λ_=>True⟩
 refine c_weak (e':=V ⟨0,b0,b1,b2,b3,b4,0,0,0,0,0⟩) ⟨⟨rfl,rfl,rfl,rfl,rfl,rfl,rfl,rfl,rfl,rfl,rfl,rfl,rfl,trivial⟩,⟨rfl,rfl,rfl,rfl,rfl,rfl,rfl,rfl,rfl,rfl,rfl,rfl,rfl,rfl,trivial⟩,.refl _,λ_ h _=>h,λ_ _=>trivial⟩ (s_loop (λs=>5-s.k) V (λs=>s.k<=5/\MM a y s.k s.c0 s.c1 s.c2 s.c3 s.c4 s.s0 s.s1 s.s2 s.s3 s.s4) ?_ ⟨0,b0,b1,b2,b3,b4,0,0,0,0,0⟩ ⟨aQ _,MM.start r0 r1 r2 r3 r4 rv⟩)
 rintro⟨k,c0,c1,c2,c3,c4,s0,s1,s2,s3,s4⟩ ⟨hk,hM⟩
 dsimp only at hk hM
 refine s_auto TY_ok rfl ?_;refine s_seq λK2 hK2=>?_;refine s_ifD ((k:Int)<5) rfl (λhlt=>?_) (λhge=>?_)
 ·have hlt:k<5:=by omega
  have hN:=hM.next ha hlt;have hv:=eb_get ha hlt
  obtain⟨g0,g1,g2,g3,g4,u4,t0,t1,t2,t3,t4⟩:c0<42784196465000448/\c1<42784196465000448/\c2<42784196465000448/\c3<42784196465000448/\c4<42784196465000448/\c4<2251799813947392/\s0<=385365782560107868259994584612864/\s1<=385365782560107868259994584612864/\s2<=385365782560107868259994584612864/\s3<=385365782560107868259994584612864/\s4<=385365782560107868259994584612864:=by
   obtain⟨_,_,g0,g1,g2,g3,g4,u0,u1,u2,u3,u4,t0,t1,t2,t3,t4⟩:=hM;exact⟨g0,g1,g2,g3,g4,u4 (by omega),by omega,by omega,by omega,by omega,by omega⟩
  have p0:=prod_le hv g0;have p1:=prod_le hv g1;have p2:=prod_le hv g2;have p3:=prod_le hv g3;have p4:=prod_le hv g4;have rd:(catP [.agg 5 (Us a).toArray])[0+k]?=some (.int .u64 ((a[k]! : Nat):Int)):=Us_in (by rw [ha.len];exact hlt);obtain⟨v,hve⟩:∃v,v=a[k]!:=⟨_,rfl⟩;rw [<-hve] at hN hv p0 p1 p2 p3 p4 rd;refine s_skip (hK2 _ ?_);refine s_seq λK3 hK3=>?_;refine s_block ?_;refine s_auto TY_ok rfl ?_;refine s_reg λK hK=>l_auto2 rfl (l_cell rfl arr5 hlt (.int .u64 (v:Int)) rd (l_N hK rfl ?_));refine s_reg λK hK=>l_X (eplus_C (s:=s0) (a:=v) (b:=c0) (by omega) (by omega) (by omega)) (λ_=>rfl) rfl λ_=>l_N hK rfl ?_;refine s_reg λK hK=>l_X (eplus_C (s:=s1) (a:=v) (b:=c1) (by omega) (by omega) (by omega)) (λ_=>rfl) rfl λ_=>l_N hK rfl ?_;refine s_reg λK hK=>l_X (eplus_C (s:=s2) (a:=v) (b:=c2) (by omega) (by omega) (by omega)) (λ_=>rfl) rfl λ_=>l_N hK rfl ?_;refine s_reg λK hK=>l_X (eplus_C (s:=s3) (a:=v) (b:=c3) (by omega) (by omega) (by omega)) (λ_=>rfl) rfl λ_=>l_N hK rfl ?_;refine s_reg λK hK=>l_X (eplus_C (s:=s4) (a:=v) (b:=c4) (by omega) (by omega) (by omega)) (λ_=>rfl) rfl λ_=>l_N hK rfl ?_;refine s_autoE TY_ok rfl (hK3 _ ?_);refine s_autoE TY_ok rfl ?_;exact k_next ⟨k+1,19*c4,c0,c1,c2,c3,s0+v*c0,s1+v*c1,s2+v*c2,s3+v*c3,s4+v*c4⟩ ⟨hlt,hN⟩ (by show 5-(k+1)<5-k;omega) ⟨⟨congrArg (λx=>some (SV.v (.int .i64 x))) (addI k 1 (by omega)),congrArg (λx=>some (SV.v (.int .u64 x))) (by show IntKind.u64.wrap (19*(c4:Int))=((19*c4:Nat):Int);rw [a8];omega),rfl,rfl,rfl,rfl,rfl,rfl,rfl,rfl,rfl,rfl,rfl,trivial⟩,⟨rfl,rfl,rfl,rfl,rfl,rfl,rfl,rfl,rfl,rfl,rfl,rfl,rfl,rfl,trivial⟩,.refl _,λ_ h _=>h,λ_ h=>h⟩
 ·obtain rfl:k=5:=by omega
  obtain⟨hv,m0,m1,m2,m3,m4,d0,d1,d2,d3,d4⟩:=hM.fin ha
  have hE:EB (crd (s0%2251799813685248+19*(s4/2251799813685248)) (s1%2251799813685248+s0/2251799813685248) (s2%2251799813685248+s1/2251799813685248) (s3%2251799813685248+s2/2251799813685248) (s4%2251799813685248+s3/2251799813685248)) (x*y):=by
   have hE:=rE (a0:=s0%2251799813685248+19*(s4/2251799813685248)) (a1:=s1%2251799813685248+s0/2251799813685248) (a2:=s2%2251799813685248+s1/2251799813685248) (a3:=s3%2251799813685248+s2/2251799813685248) (a4:=s4%2251799813685248+s3/2251799813685248) (by omega) (by omega) (by omega) (by omega) (by omega);have h:fof (lv (crd s0 s1 s2 s3 s4))=x*y:=hv
   unfold crd at h
   rw [h] at hE;exact hE
  refine s_exit (k_pass (k_pass (k_out (hK1 _ ?_))));refine s_N 29 [] (by kernel_rfl) λK hK G S w0 hst=>?_;refine n_X hst (low_C (s:=s0)) rfl λ_=>n_X hst (high_C m4) rfl λ_=>n_X hst (low_C (s:=s1)) rfl λ_=>n_X hst (high_C m0) rfl λ_=>n_X hst (low_C (s:=s2)) rfl λ_=>n_X hst (high_C m1) rfl λ_=>n_X hst (low_C (s:=s3)) rfl λ_=>n_X hst (high_C m2) rfl λ_=>n_X hst (low_C (s:=s4)) rfl λ_=>n_X hst (high_C m3) rfl λ_=>?_;refine n_auto2 hst rfl (n_num 71 ((s0%2251799813685248+19*(s4/2251799813685248):Nat):Int) rfl (by rw [a8,a8];omega) (n_num 76 ((s1%2251799813685248+s0/2251799813685248:Nat):Int) rfl (by rw [a8];omega) (n_num 81 ((s2%2251799813685248+s1/2251799813685248:Nat):Int) rfl (by rw [a8];omega) (n_num 86 ((s3%2251799813685248+s2/2251799813685248:Nat):Int) rfl (by rw [a8];omega) (n_num 91 ((s4%2251799813685248+s3/2251799813685248:Nat):Int) rfl (by rw [a8];omega) ?_)))));refine n_f hst (.q (.p [.agg 5 (Us [s0%2251799813685248+19*(s4/2251799813685248),s1%2251799813685248+s0/2251799813685248,s2%2251799813685248+s1/2251799813685248,s3%2251799813685248+s2/2251799813685248,s4%2251799813685248+s3/2251799813685248]).toArray])) (eE_p rfl) (λC0 Q' _ hQ=>f_build ([s0%2251799813685248+19*(s4/2251799813685248),s1%2251799813685248+s0/2251799813685248,s2%2251799813685248+s1/2251799813685248,s3%2251799813685248+s2/2251799813685248,s4%2251799813685248+s3/2251799813685248].zipIdx.map λx=>(x.2,.int .u64 ((x.1:Nat):Int))) (Us [s0%2251799813685248+19*(s4/2251799813685248),s1%2251799813685248+s0/2251799813685248,s2%2251799813685248+s1/2251799813685248,s3%2251799813685248+s2/2251799813685248,s4%2251799813685248+s3/2251799813685248]).toArray rfl rfl rfl rfl rfl (by kernel_rfl) hQ) ?_;refine n_X hst (carried_C (s0%2251799813685248+19*(s4/2251799813685248)) (s1%2251799813685248+s0/2251799813685248) (s2%2251799813685248+s1/2251799813685248) (s3%2251799813685248+s2/2251799813685248) (s4%2251799813685248+s3/2251799813685248) (by omega) (by omega) (by omega) (by omega) (by omega)) rfl λ_=>n_N hst rfl hK rfl (s_ret ?_)
  exact k_el _ hE rfl (by decide) rfl⟩
omit [Pst F] in
theorem add_C(ha:EB a x)(hb:EB b y):Ct F 149 [eE a,eE b] (elP (x+y)):=⟨own_eladd,by
 refine spec_S [eE a,eE b] 23 Tryz.func149 rfl (by rw [Tryz.ntmps149];rfl) (two_ok (eE_p ha.len) (eE_p hb.len)) λB=>?_;refine s_auto TY_ok rfl ?_;refine s_seq λK1 hK1=>?_;refine s_auto TY_ok rfl ?_;refine s_block ?_
 let f:Nat->Nat:=λj=>a[j]! + b[j]!
 let V:Nat->Env:=λk=>⟨[(6,.v (.int .i64 ((k:Nat):Int))),(2,.a 2 0),(3,.a 3 0),(4,.a 4 0)],[⟨4,none,193,[.agg 5 (Us [0,0,0,0,0]).toArray]⟩,⟨3,none,193,[.agg 5 (Us b).toArray]⟩,⟨2,none,193,[.agg 5 (Us (mx f a k)).toArray]⟩],[],F,λ_=>True⟩
 have eL:(some ⟨2,none,193,[.agg 5 (Us a).toArray]⟩:Option LV)=some ⟨2,none,193,[.agg 5 (Us (mx f a 0)).toArray]⟩:=by rw [mx_zero _ ha.len]
 refine c_weak (e':=V 0) ⟨⟨rfl,rfl,rfl,rfl,trivial⟩,⟨rfl,rfl,rfl,rfl,eL,rfl,trivial⟩,.refl _,λ_ h _=>h,λ_ _=>trivial⟩ (s_loop (λk=>5-k) V (λk=>k<=5) ?_ 0 (aQ _))
 intro k hk
 refine s_auto TY_ok rfl ?_;refine s_seq λK2 hK2=>?_;refine s_ifD ((k:Int)<5) rfl (λhlt=>?_) (λhge=>?_)
 ·have hlt:k<5:=by omega
  have ra:(catP [.agg 5 (Us (mx f a k)).toArray])[0+k]?=some (.int .u64 ((a[k]! : Nat):Int)):=(Us_in (by rw [mx_len];exact hlt)).trans (by rw [mx_get _ _ hlt]);have rb:(catP [.agg 5 (Us b).toArray])[0+k]?=some (.int .u64 ((b[k]! : Nat):Int)):=Us_in (by rw [hb.len];exact hlt);have b0:=eb_get ha hlt;have b1:=eb_get hb hlt;refine s_skip (hK2 _ ?_);refine s_seq λK3 hK3=>?_;refine s_block ?_;refine s_auto TY_ok rfl ?_;refine s_drawnN 10 (by kernel_rfl) λG S w0 hst=>?_;refine n_auto2 hst rfl (n_cell hst rfl arr5 hlt (.int .u64 ((a[k]! : Nat):Int)) ra ?_);refine n_auto2 hst rfl (n_cell hst rfl arr5 hlt (.int .u64 ((b[k]! : Nat):Int)) rb ?_);refine n_auto2 hst rfl (n_num 17 ((f k:Nat):Int) rfl (by show _=((a[k]! + b[k]! : Nat):Int);rw [a8];omega) (n_L hst rfl ?_));refine l_put rfl arr5 hlt [.agg 5 (Us (mx f a (k+1))).toArray] (eE_p (mx_len _ _ _)) ?_ ?_ (s_end (hK3 _ ?_))
  ·show 0+k<(Us (mx f a k)).toArray.size
   rw [aV,Us_len,mx_len]
   omega
  ·show Us (mx f a (k+1))=(Us (mx f a k)).set (0+k) (.int .u64 ((f k:Nat):Int))
   rw [aX,Us,Us,<-mx_set,dR]
  refine s_autoE TY_ok rfl ?_;exact k_next (k+1) hlt (by show 5-(k+1)<5-k;omega) ⟨⟨congrArg (λx=>some (SV.v (.int .i64 x))) (addI k 1 (by omega)),rfl,rfl,rfl,trivial⟩,⟨rfl,rfl,rfl,rfl,rfl,rfl,trivial⟩,.refl _,λ_ h _=>h,λ_ h=>h⟩
 ·obtain rfl:k=5:=by omega
  obtain⟨a0,a1,a2,a3,a4,rfl,p0,p1,p2,p3,p4,pv⟩:=ha.nV;obtain⟨b0,b1,b2,b3,b4,rfl,r0,r1,r2,r3,r4,rv⟩:=hb.nV;have hE:=rE (a0:=a0+b0) (a1:=a1+b1) (a2:=a2+b2) (a3:=a3+b3) (a4:=a4+b4) (by omega) (by omega) (by omega) (by omega) (by omega);rw [wG,iV,pv,rv] at hE;refine s_exit (k_pass (k_pass (k_out (hK1 _ ?_))));refine s_reg λK hK=>l_X (carried_C (a0+b0) (a1+b1) (a2+b2) (a3+b3) (a4+b4) (by omega) (by omega) (by omega) (by omega) (by omega)) (λ_=>rfl) rfl λ_=>l_N hK rfl (s_ret ?_)
  exact k_el _ hE rfl (by decide) rfl⟩
theorem sub_C(ha:EB a x)(hb:EB b y):Ct Tw 147 [eE a,eE b] (elP (x-y)):=⟨own_elsub,by
 refine spec_S [eE a,eE b] 27 Tryz.func147 rfl (by rw [Tryz.ntmps147];rfl) (two_ok (eE_p ha.len) (eE_p hb.len)) λB=>?_;refine s_auto TY_ok rfl ?_;refine s_seq λK1 hK1=>?_;refine s_auto TY_ok rfl ?_;refine s_block ?_
 let f:Nat->Nat:=λj=>a[j]! + (twl[j]! - b[j]!)
 let V:Nat->Env:=λk=>⟨[(6,.v (.int .i64 ((k:Nat):Int))),(2,.a 2 0),(3,.a 3 0),(4,.a 4 0)],[⟨4,none,193,[.agg 5 (Us [0,0,0,0,0]).toArray]⟩,⟨3,none,193,[.agg 5 (Us b).toArray]⟩,⟨2,none,193,[.agg 5 (Us (mx f a k)).toArray]⟩],[],Tw,λ_=>True⟩
 have eL:(some ⟨2,none,193,[.agg 5 (Us a).toArray]⟩:Option LV)=some ⟨2,none,193,[.agg 5 (Us (mx f a 0)).toArray]⟩:=by rw [mx_zero _ ha.len]
 refine c_weak (e':=V 0) ⟨⟨rfl,rfl,rfl,rfl,trivial⟩,⟨rfl,rfl,rfl,rfl,eL,rfl,trivial⟩,.refl _,λ_ h _=>h,λ_ _=>trivial⟩ (s_loop (λk=>5-k) V (λk=>k<=5) ?_ 0 (aQ _))
 intro k hk
 refine s_auto TY_ok rfl ?_;refine s_seq λK2 hK2=>?_;refine s_ifD ((k:Int)<5) rfl (λhlt=>?_) (λhge=>?_)
 ·have hlt:k<5:=by omega
  have ra:(catP [.agg 5 (Us (mx f a k)).toArray])[0+k]?=some (.int .u64 ((a[k]! : Nat):Int)):=(Us_in (by rw [mx_len];exact hlt)).trans (by rw [mx_get _ _ hlt]);have rb:(catP [.agg 5 (Us b).toArray])[0+k]?=some (.int .u64 ((b[k]! : Nat):Int)):=Us_in (by rw [hb.len];exact hlt);have b0:=eb_get ha hlt;have b1:=eb_get hb hlt;have b2:=twl_get hlt;refine s_skip (hK2 _ ?_);refine s_seq λK3 hK3=>?_;refine s_block ?_;refine s_auto TY_ok rfl ?_;refine s_drawnN 14 (by kernel_rfl) λG S w0 hst=>?_;refine n_auto2 hst rfl (n_cell hst rfl arr5 hlt (.int .u64 ((a[k]! : Nat):Int)) ra ?_);refine n_auto2 hst rfl (n_tab hst rfl rfl rfl rfl arr5 hlt Tryz.underlying123 rfl (λw h=>h.at hlt) ?_);refine n_auto2 hst rfl (n_cell hst rfl arr5 hlt (.int .u64 ((b[k]! : Nat):Int)) rb ?_);refine n_auto2 hst rfl (n_num 21 ((f k:Nat):Int) rfl (by show _=((a[k]! + (twl[k]! - b[k]!):Nat):Int);rw [a8,a8];omega) (n_L hst rfl ?_));refine l_put rfl arr5 hlt [.agg 5 (Us (mx f a (k+1))).toArray] (eE_p (mx_len _ _ _)) ?_ ?_ (s_end (hK3 _ ?_))
  ·show 0+k<(Us (mx f a k)).toArray.size
   rw [aV,Us_len,mx_len]
   omega
  ·show Us (mx f a (k+1))=(Us (mx f a k)).set (0+k) (.int .u64 ((f k:Nat):Int))
   rw [aX,Us,Us,<-mx_set,dR]
  refine s_autoE TY_ok rfl ?_;exact k_next (k+1) hlt (by show 5-(k+1)<5-k;omega) ⟨⟨congrArg (λx=>some (SV.v (.int .i64 x))) (addI k 1 (by omega)),rfl,rfl,rfl,trivial⟩,⟨rfl,rfl,rfl,rfl,rfl,rfl,trivial⟩,.refl _,λ_ h _=>h,λ_ h=>h⟩
 ·obtain rfl:k=5:=by omega
  obtain⟨a0,a1,a2,a3,a4,rfl,p0,p1,p2,p3,p4,pv⟩:=ha.nV;obtain⟨b0,b1,b2,b3,b4,rfl,r0,r1,r2,r3,r4,rv⟩:=hb.nV;have hE:=rE (a0:=a0+(4503599627370458-b0)) (a1:=a1+(4503599627370494-b1)) (a2:=a2+(4503599627370494-b2)) (a3:=a3+(4503599627370494-b3)) (a4:=a4+(4503599627370494-b4)) (by omega) (by omega) (by omega) (by omega) (by omega);rw [vV r0 r1 r2 r3 r4,pv,rv] at hE;refine s_exit (k_pass (k_pass (k_out (hK1 _ ?_))));refine s_reg λK hK=>l_X (carried_C (a0+(4503599627370458-b0)) (a1+(4503599627370494-b1)) (a2+(4503599627370494-b2)) (a3+(4503599627370494-b3)) (a4+(4503599627370494-b4)) (by omega) (by omega) (by omega) (by omega) (by omega)) (λ_=>rfl) rfl λ_=>l_N hK rfl (s_ret ?_)
  exact k_el _ hE rfl (by decide) rfl⟩
omit [Pst F] in
theorem ewhole_C(ha:EB a x):Ct F 176 [eE a] (one (.q (eE (whole a)))):=⟨own_whole,Spec.pure (eE_p (gB ha).1) λw _=>whole_f ha w⟩
omit [Pst F] in
theorem hash_C(ha:EB a x):Ct F 143 [eE a] (one (.q (eY 32 (enc x)))):=⟨own_hash,by
 obtain⟨hl,hb,hL⟩:=gB ha;have hbl:(enc x).length=32:=fX x
 have hby:∀k,k<4->∀j,j<8->((enc x)[8*k+j]!).toNat=wd (lv (whole a)) k/2^(8*j)%256:=λk hk j hj=>by
  rw [wd_byte _ _ _ hj,hL];exact bytes_get 32 x.val (by omega)
 have hC:=ewhole_C (F:=F) ha;generalize enc x=e at *;generalize whole a=l at *;have fok:∀n,OkP [.agg 32 (By (fb e n)).toArray]:=λn=>(eY_ok (fb_len e n)).1;refine spec_S [eE a] 51 Tryz.func143 rfl (by rw [Tryz.ntmps143];rfl) (one_ok (eE_p ha.len)) λB=>?_;refine s_auto TY_ok rfl ?_;refine s_reg λK hK=>l_X hC (λ_=>rfl) rfl λ_=>l_N hK rfl ?_;refine s_auto TY_ok rfl ?_;refine s_seq λK1 hK1=>?_;refine s_auto TY_ok rfl ?_;refine s_block ?_
 let W:SE->Nat->Env:=λE n=>⟨E++[(2,.a 2 0),(3,.a 3 0),(4,.a 4 0)],[⟨4,none,45,[.agg 32 (By (fb e n)).toArray]⟩,⟨3,none,193,[.agg 5 (Us l).toArray]⟩,⟨2,none,45,[.agg 32 (By (aA 32 0)).toArray]⟩],[],F,λ_=>True⟩
 let V:Nat->Env:=λk=>W [(11,.v (.int .i64 ((k:Nat):Int)))] (8*k)
 have eL:(some ⟨4,none,45,[.agg 32 (By (aA 32 0)).toArray]⟩:Option LV)=some ⟨4,none,45,[.agg 32 (By (fb e (8*0))).toArray]⟩:=by rw [fb_zero]
 refine c_weak (e':=V 0) ⟨⟨rfl,rfl,rfl,rfl,trivial⟩,⟨eL,rfl,rfl,rfl,rfl,rfl,trivial⟩,.refl _,λ_ h _=>h,λ_ _=>trivial⟩ (s_loop (λk=>4-k) V (λk=>k<=4) ?_ 0 (aQ _))
 intro k hk
 refine s_auto TY_ok rfl ?_;refine s_seq λK2 hK2=>?_;refine s_ifD ((k:Int)<4) rfl (λhlt=>?_) (λhge=>?_)
 ·have hlt:k<4:=by omega
  have hwd:=wd_limbs hl hb hlt;have hW:=hby k hlt;have q:∀i,i<5->(catP [.agg 5 (Us l).toArray])[0+i]?=some (.int .u64 ((l[i]! : Nat):Int)):=λi hi=>Us_in (by rw [hl];exact hi);have r1:=q (64*k/51) (by omega);have r2:=q (64*k/51+1) (by omega)
  have hr:64*k%51<=51:=by omega
  obtain⟨wk,hwk⟩:∃wk,wk=wd (lv l) k:=⟨_,rfl⟩;rw [<-hwk] at hwd hW;refine s_skip (hK2 _ ?_);refine s_seq λK3 hK3=>?_;refine s_block ?_;refine s_auto TY_ok rfl ?_;refine s_reg λK hK=>l_auto2 rfl (l_num 6 ((64*k:Nat):Int) rfl (mulI 64 k (by omega)) (s_end (hK _ ?_)));refine s_N 19 [] (by kernel_rfl) λK hK G S w0 hst=>?_;refine n_auto2 hst rfl (n_num 17 ((64*k/51:Nat):Int) rfl (quoI (64*k) 51 (by omega)) (n_cell hst rfl arr5 (by show 64*k/51<5;omega) _ r1 ?_));refine n_auto2 hst rfl (n_num 26 ((64*k/51+1:Nat):Int) rfl ((congrArg (λx=>IntKind.i64.wrap (x+1)) (quoI (64*k) 51 (by omega))).trans (addI _ 1 (by omega))) (n_cell hst rfl arr5 (by show 64*k/51+1<5;omega) _ r2 ?_));refine n_auto TY_ok hst rfl (n_num 32 ((51-64*k%51:Nat):Int) rfl (subI 51 (64*k%51) hr (by omega)) ?_);refine n_auto2 hst rfl (n_num 34 ((wk:Nat):Int) rfl (by rw [kw64.shr (64*k%51) (Nat.le_trans hr (by decide)),cA (by show 51-64*k%51<=64;omega),<-hwd,Int.natCast_ediv,Int.natCast_pow];rfl) (n_N hst rfl hK rfl ?_));refine s_auto TY_ok rfl ?_;refine s_block ?_
  let V2:Nat->Env:=λj=>W [(35,.v (.int .i64 ((j:Nat):Int))),(11,.v (.int .i64 ((k:Nat):Int))),(5,.v (.int .i64 ((k:Nat):Int))),(7,.v (.int .u64 ((wk:Nat):Int)))] (8*k+j)
  refine c_weak (e':=V2 0) ⟨⟨rfl,rfl,rfl,rfl,rfl,rfl,rfl,trivial⟩,⟨rfl,rfl,rfl,rfl,rfl,rfl,trivial⟩,.refl _,λ_ h _=>h,λ_ h=>h⟩ (s_loop (λj=>8-j) V2 (λj=>j<=8) ?_ 0 (aQ _))
  intro j hj
  refine s_auto TY_ok rfl ?_;refine s_seq λK4 hK4=>?_;refine s_ifD ((j:Int)<8) rfl (λhlj=>?_) (λhge=>?_)
  ·have hlj:j<8:=by omega
   have hbj:=hW j hlj;refine s_skip (hK4 _ ?_);refine s_seq λK5 hK5=>?_;refine s_block ?_;refine s_auto TY_ok rfl ?_;refine s_lit (l_autoS TY_ok rfl (l_num 44 ((8*j:Nat):Int) rfl (mulI 8 j (by omega)) ?_));refine l_auto2 rfl (l_num 41 ((8*k+j:Nat):Int) rfl ((congrArg (λx=>IntKind.i64.wrap (x+(j:Int))) (mulI 8 k (by omega))).trans (addI _ j (by omega))) ?_);refine l_num 46 (((e[8*k+j]!).toNat:Nat):Int) rfl (by rw [kw64.shr (8*j) (by omega),IntKind.wrap_u8',hbj];omega) ?_;refine l_put rfl arr32 (by show 8*k+j<32;omega) [.agg 32 (By (fb e (8*k+(j+1)))).toArray] (fok _) ?_ ?_ (l_E rfl (hK5 _ ?_))
   ·show 0+(8*k+j)<(By (fb e (8*k+j))).toArray.size
    rw [aV,By_len,fb_len]
    omega
   ·show By (fb e (8*k+j+1))=(By (fb e (8*k+j))).set (0+(8*k+j)) (.int .u8 ((e[8*k+j]!).toNat:Int))
    rw [aX,By,By,<-fb_set,dR]
   refine s_autoE TY_ok rfl ?_;exact k_next (j+1) hlj (by show 8-(j+1)<8-j;omega) ⟨⟨congrArg (λx=>some (SV.v (.int .i64 x))) (addI j 1 (by omega)),rfl,rfl,rfl,rfl,rfl,rfl,trivial⟩,⟨rfl,rfl,rfl,rfl,rfl,rfl,trivial⟩,.refl _,λ_ h _=>h,λ_ h=>h⟩
  ·obtain rfl:j=8:=by omega
   refine s_exit (k_pass (k_pass (k_out (hK3 _ ?_))));refine s_autoE TY_ok rfl ?_;exact k_next (k+1) hlt (by show 4-(k+1)<4-k;omega) ⟨⟨congrArg (λx=>some (SV.v (.int .i64 x))) (addI k 1 (by omega)),rfl,rfl,rfl,trivial⟩,⟨rfl,rfl,rfl,rfl,rfl,rfl,trivial⟩,.refl _,λ_ h _=>h,λ_ h=>h⟩
 ·obtain rfl:k=4:=by omega
  have eL2:(some ⟨4,none,45,[.agg 32 (By (fb e (8*4))).toArray]⟩:Option LV)=some ⟨4,none,45,[.agg 32 (By e).toArray]⟩:=by rw [show 8*4=32 from rfl,fb_all hbl]
  refine s_exit (k_pass (k_pass (k_out (hK1 _ ?_))));refine c_weak (e':=⟨[(2,.a 2 0),(4,.a 4 0)],[⟨4,none,45,[.agg 32 (By e).toArray]⟩,⟨2,none,45,[.agg 32 (By (aA 32 0)).toArray]⟩],[],F,λ_=>True⟩) ⟨⟨rfl,rfl,trivial⟩,⟨eL2,rfl,rfl,rfl,trivial⟩,.refl _,λ_ h _=>h,λ_ h=>h⟩ ?_;refine s_auto TY_ok rfl (s_ret ?_)
  exact k_ret TY_ok () rfl (by decide) rfl rfl rfl (λ_ _ _=>trivial) λ_ _=>trivial⟩
end
end Go.Proofs.YtlhlkofpjhpaoaaGreatDoor
namespace Go.Proofs.YtlhlkofpjhpaoaaGreatDoor
open Go.RowKit Nums
end Go.Proofs.YtlhlkofpjhpaoaaGreatDoor
namespace Nums
end Nums
namespace Nums
end Nums
namespace Nums
end Nums
namespace Go.Proofs.YtlhlkofpjhpaoaaGreatDoor
open Go.RowKit Go.IntWalk Nums
end Go.Proofs.YtlhlkofpjhpaoaaGreatDoor
namespace Nums
end Nums
namespace Go.Proofs.YtlhlkofpjhpaoaaGreatDoor
open Go.RowKit Go.IntWalk Nums
def isGood(b:List UInt8):Bool:=decide ((b[31]!).toNat<128)&&decide (enc (fof (le b%57896044618658097711785492504343953926634992332820282019728792003956564819968))=b)
theorem wd_more(T y q r:Nat)(hr:r<8)(hT:T<256^(8*q+r))(hy:y<256)(j:Nat) :
  wd (T+256^(8*q+r)*y) j=if j=q then wd T j+256^r*y else wd T j:=by
 have hp:(256:Nat)^(8*q+r)=18446744073709551616^q*256^r:=by rw [kB,l4]
 have hr8:(256:Nat)^(r+1)<=18446744073709551616:=o5 (by omega) (show r+1<=8 by omega);have hr9:(256:Nat)^(r+1)=256^r*256:=cG ..;have hm:(256:Nat)^r*y<=256^r*255:=iP (aH _) (by omega);rw [hp] at hT ⊢;have hPq:0<(18446744073709551616:Nat)^q:=sX (by omega)
 unfold wd
 by_cases hjq:j=q
 ·subst hjq
  rw [if_pos rfl,fN,o7 _ _ hPq];have hz:T/18446744073709551616^j<256^r:=o6 hT;rw [aW (by omega),aW (by omega)]
 ·rw [if_neg hjq]
  rcases Nat.lt_or_gt_of_ne hjq with hlt|hgt
  ·obtain⟨d,rfl⟩:∃d,q=j+1+d:=⟨q-j-1,by omega⟩
   have e:(18446744073709551616:Nat)^(j+1+d)*256^r*y=18446744073709551616^j*(18446744073709551616*(18446744073709551616^d*256^r*y)):=by
    rw [kB,cG];simp only [fN]
   rw [e,o7 _ _ (sX (by omega)),Nat.add_mul_mod_self_left]
  ·obtain⟨d,rfl⟩:∃d,j=q+1+d:=⟨j-q-1,by omega⟩
   have e:(18446744073709551616:Nat)^(q+1+d)=18446744073709551616^q*18446744073709551616*18446744073709551616^d:=by rw [kB,cG]
   have hd:0<(18446744073709551616:Nat)^d:=sX (by omega)
   have hb:18446744073709551616^q*18446744073709551616<=(18446744073709551616:Nat)^(q+1+d):=by
    rw [e];exact Nat.le_mul_of_pos_right _ hd
   have h1:18446744073709551616^q*256^r+18446744073709551616^q*256^r*y<=18446744073709551616^q*18446744073709551616:=by
    rw [fN,<-Nat.mul_add];exact iP (aH _) (by omega)
   rw [Nat.div_eq_of_lt (by omega),Nat.div_eq_of_lt (by omega)]
theorem le_take{b:List UInt8}{n:Nat}(h:n<b.length):le (b.take (n+1))=le (b.take n)+256^n*(b[n]!).toNat:=by
 rw [List.take_succ_eq_append_getElem h,gD,aY,cA (by omega),getElem!_pos b n h]
 show le (b.take n)+256^n*((b[n]).toNat+256*0)=_
 rw [Nat.mul_zero,Nat.add_zero]
def wds(b:List UInt8)(n:Nat):List Nat:=(mG 5).map λj=>wd (le (b.take n)) j
theorem wds_len(b:List UInt8)(n:Nat):(wds b n).length=5:=by simp [wds]
theorem wds_get(b:List UInt8)(n:Nat){j:Nat}(h:j<5):(wds b n)[j]! = wd (le (b.take n)) j:=by
 rw [getElem!_pos _ j (by rw [wds_len];exact h)]
 simp [wds]
theorem wds_zero(b:List UInt8):wds b 0=[0,0,0,0,0]:=by
 have e:∀j,wd (le (b.take 0)) j=0:=λj=>by
  show 0/_%_=0
  rw [Nat.zero_div]
 simp only [wds,e]
 rfl
theorem wd_small{T n:Nat}(hT:T<256^n):wd T (n/8)<2^(8*(n%8)):=by
 have e:(256:Nat)^n=18446744073709551616^(n/8)*2^(8*(n%8)):=by
  have h:(256:Nat)^n=256^(8*(n/8)+n%8):=by congr 1;omega
  rw [h,kB,l4,l4]
 rw [e] at hT;have hz:=o6 hT;exact Nat.lt_of_le_of_lt (Nat.mod_le _ _) hz
theorem wds_set{b:List UInt8}{n:Nat}(h:n<b.length):(wds b n).set (n/8) (wd (le (b.take n)) (n/8)+2^(8*(n%8))*(b[n]!).toNat)=wds b (n+1):=by
 have hT:=nL (b.take n);rw [aY,cA (by omega)] at hT
 have e2:(256:Nat)^n=256^(8*(n/8)+n%8):=by congr 1;omega
 have e3:(2:Nat)^(8*(n%8))=256^(n%8):=by rw [l4]
 have hy:=(b[n]!).toNat_lt
 apply dG (by simp [wds])
 intro j h1 h2
 have hj:j<5:=by simpa [wds] using h2
 rw [List.getElem_set];simp only [wds,List.getElem_map,List.getElem_range];rw [le_take h,e2,wd_more _ _ _ _ (by omega) (by rw [<-e2];exact hT) hy]
 by_cases hjq:n/8=j
 ·subst hjq
  rw [if_pos rfl,if_pos rfl,e3]
 ·rw [if_neg hjq,if_neg (λe=>hjq e.symm)]
theorem or_byte{old y m:Nat}(hm:m<=56)(hold:old<2^m)(hy:y<256) :
  bits .or .u64 (old:Int) (IntKind.u64.wrap ((y:Int)*2^m))=((old+2^m*y:Nat):Int):=by
 have hp:(2:Nat)^m<=2^56:=o5 (by omega) hm
 have h56:(2:Nat)^56=72057594037927936:=by decide
 have hx:y*2^m<=255*2^56:=iP (by omega) hp
 have f2:IntKind.u64.wrap ((y:Int)*2^m)=((y*2^m:Nat):Int):=by
  have:((y:Int)*2^m)=((y*2^m:Nat):Int):=by simp
  rw [this,wrapN _ (by omega)]
 rw [f2,u64_or_nat _ _ (by omega) (by omega),Nat.or_comm,nat_join m _ _ (Nat.mul_mod_left ..) hold,Nat.add_comm,c8]
def lbs(L:Nat):List Nat:=(mG 5).map λi=>L/2251799813685248^i%2251799813685248
theorem lbs_eb(L:Nat):EB (lbs L) (fof (L%57896044618658097711785492504343953926634992332820282019728792003956564819968)):=by
 refine EB.mk5 (a0:=L/2251799813685248^0%2251799813685248) (a1:=L/2251799813685248^1%2251799813685248) (a2:=L/2251799813685248^2%2251799813685248) (a3:=L/2251799813685248^3%2251799813685248) (a4:=L/2251799813685248^4%2251799813685248) (by omega) (by omega) (by omega) (by omega) (by omega) ?_
 congr 1
 rw [lv5];simp only [b8]
 omega
theorem lb_words{L:Nat}(hL:L<115792089237316195423570985008687907853269984665640564039457584007913129639936){i:Nat}(hi:i<5) :
  bits .and .u64 (bits .or .u64 ((wd L (51*i/64):Nat)/2^(51*i%64):Int) (IntKind.u64.wrap ((wd L (51*i/64+1):Nat)*2^(64-51*i%64):Int))) 2251799813685247=((L/2251799813685248^i%2251799813685248:Nat):Int):=by
 have key:∀(k x y r t R:Nat),y*2^t%18446744073709551616%2^k=0->x/2^r<2^k->x/2^r<18446744073709551616->y*2^t%18446744073709551616+x/2^r<18446744073709551616->(y*2^t%18446744073709551616+x/2^r)%2251799813685248=R ->
   bits .and .u64 (bits .or .u64 ((x:Nat)/2^r:Int) (IntKind.u64.wrap ((y:Nat)*2^t:Int))) 2251799813685247=(R:Int):=by
  intro k x y r t R e1 e2 e3 e5 e4
  have f1:((x:Int)/2^r)=((x/2^r:Nat):Int):=by simp
  have f2:IntKind.u64.wrap ((y:Int)*2^t)=((y*2^t%18446744073709551616:Nat):Int):=by
   rw [a8]
   simp
  rw [f1,f2,u64_or_nat _ _ e3 (by omega),Nat.or_comm,nat_join k _ _ e1 e2,maskW _ e5,e4]
 have h5:i=0\/i=1\/i=2\/i=3\/i=4:=by omega
 unfold wd
 rcases h5 with rfl|rfl|rfl|rfl|rfl
 ·exact key 64 (L/18446744073709551616^0%18446744073709551616) (L/18446744073709551616^1%18446744073709551616) 0 64 _ (by omega) (by omega) (by omega) (by omega) (by simp only [b8];omega)
 ·exact key 13 (L/18446744073709551616^0%18446744073709551616) (L/18446744073709551616^1%18446744073709551616) 51 13 _ (by omega) (by omega) (by omega) (by omega) (by simp only [b8];omega)
 ·exact key 26 (L/18446744073709551616^1%18446744073709551616) (L/18446744073709551616^2%18446744073709551616) 38 26 _ (by omega) (by omega) (by omega) (by omega) (by simp only [b8];omega)
 ·exact key 39 (L/18446744073709551616^2%18446744073709551616) (L/18446744073709551616^3%18446744073709551616) 25 39 _ (by omega) (by omega) (by omega) (by omega) (by simp only [b8];omega)
 ·exact key 52 (L/18446744073709551616^3%18446744073709551616) (L/18446744073709551616^4%18446744073709551616) 12 52 _ (by omega) (by omega) (by omega) (by omega) (by simp only [b8];omega)
theorem own_newE:Own 136:=λ_ _=>by go_simp
theorem new_W{F:World->Prop}[Pst F]{b:List UInt8}{α:Type}{g:α->RV}(hb:b.length=32)(hy:isGood b=true->∀r,EB r (fof (le b%57896044618658097711785492504343953926634992332820282019728792003956564819968))->∃v,g v = .t [eE r,.c (.v (.bool true))])(hn:isGood b=false->∃v,g v = .t [eE zl,.c (.v (.bool false))]):Ct F 136 [eY 32 b] { ret:=g }:=⟨own_newE,by
 have hG:isGood b=decide (enc (fof (le b%57896044618658097711785492504343953926634992332820282019728792003956564819968))=b):=by
  unfold isGood
  by_cases he:enc (fof (le b%57896044618658097711785492504343953926634992332820282019728792003956564819968))=b
  ·have h128:(b[31]!).toNat<128:=by
    have:=pU (fof (le b%57896044618658097711785492504343953926634992332820282019728792003956564819968))
    rwa [he] at this
   rw [decide_eq_true h128,Bool.true_and]
  ·rw [decide_eq_false he,Bool.and_false]
 rw [hG] at hy hn;clear hG
 let f:Nat->Nat:=λi=>le b/2251799813685248^i%2251799813685248
 have hE:EB (mx f [0,0,0,0,0] 5) (fof (le b%57896044618658097711785492504343953926634992332820282019728792003956564819968)):=lbs_eb (le b);generalize fof (le b%57896044618658097711785492504343953926634992332820282019728792003956564819968)=z at *;have hL:=nL b;rw [hb] at hL;have hC:Ct F 143 [eE (mx f [0,0,0,0,0] 5)] (one (.q (eY 32 (enc z)))):=hash_C hE;have hez:=fX z;generalize enc z=ez at *;refine spec_S [eY 32 b] 60 Tryz.func136 rfl (by rw [Tryz.ntmps136];rfl) (one_ok (eY_ok hb).1) λB=>?_;refine s_auto TY_ok rfl ?_;refine s_auto TY_ok rfl ?_;refine s_seq λK1 hK1=>?_;refine s_auto TY_ok rfl ?_;refine s_block ?_
 let V:Nat->Env:=λn=>⟨[(9,.v (.int .i64 ((n:Nat):Int))),(1,.a 1 0),(2,.a 2 0),(4,.a 4 0)],[⟨4,none,191,[.agg 5 (Us (wds b n)).toArray]⟩,⟨2,none,193,[.agg 5 (Us zl).toArray]⟩,⟨1,none,45,[.agg 32 (By b).toArray]⟩],[],F,λ_=>True⟩
 have eL:(some ⟨4,none,191,[.agg 5 (Us [0,0,0,0,0]).toArray]⟩:Option LV)=some ⟨4,none,191,[.agg 5 (Us (wds b 0)).toArray]⟩:=by rw [wds_zero]
 refine c_weak (e':=V 0) ⟨⟨rfl,rfl,rfl,rfl,trivial⟩,⟨eL,rfl,rfl,rfl,rfl,rfl,trivial⟩,.refl _,λ_ h _=>h,λ_ _=>trivial⟩ (s_loop (λn=>32-n) V (λn=>n<=32) ?_ 0 (aQ _))
 intro n hn2
 refine s_auto TY_ok rfl ?_;refine s_seq λK2 hK2=>?_;refine s_ifD ((n:Int)<32) rfl (λhlt=>?_) (λhge=>?_)
 ·have hlt:n<32:=by omega
  have hT:=nL (b.take n);rw [aY,cA (by omega)] at hT;have hsm:=wd_small hT
  have h0:n/8<5:=by omega
  have ra:(catP [.agg 5 (Us (wds b n)).toArray])[0+n/8]?=some (.int .u64 ((wd (le (b.take n)) (n/8):Nat):Int)):=(Us_in (by rw [wds_len];exact h0)).trans (by rw [wds_get b n h0])
  have rb:(catP [.agg 32 (By b).toArray])[0+n]?=some (.int .u8 ((b[n]!).toNat:Int)):=by rw [aX];exact By_get (by omega)
  have hy8:=(b[n]!).toNat_lt
  have hm:8*(n%8)<=56:=by omega
  have hmm:8*(n%8)<=64:=by omega
  refine s_skip (hK2 _ ?_);refine s_seq λK3 hK3=>?_;refine s_block ?_;refine s_auto TY_ok rfl ?_;refine s_drawnN 13 (by kernel_rfl) λG S w0 hst=>?_;refine n_auto TY_ok hst rfl (n_num 13 ((n/8:Nat):Int) rfl (quoI n 8 (by omega)) (n_cell hst rfl arr5 h0 _ ra ?_));refine n_auto TY_ok hst rfl (n_cell hst rfl arr32 hlt _ rb ?_);refine n_auto TY_ok hst rfl (n_num 22 ((8*(n%8):Nat):Int) rfl ((mulI (n%8) 8 (by omega)).trans (by rw [c8])) ?_);refine n_auto2 hst rfl (n_num 24 ((wd (le (b.take n)) (n/8)+2^(8*(n%8))*(b[n]!).toNat:Nat):Int) rfl (by rw [wrapN _ (by omega),show min (8*(n%8)) IntKind.u64.bits=8*(n%8) from cA hmm];exact or_byte hm hsm hy8) (n_L hst rfl ?_));refine l_put rfl arr5 h0 [.agg 5 (Us (wds b (n+1))).toArray] (eE_p (wds_len _ _)) ?_ ?_ (s_end (hK3 _ ?_))
  ·show 0+n/8<(Us (wds b n)).toArray.size
   rw [aV,Us_len,wds_len]
   omega
  ·show Us (wds b (n+1))=(Us (wds b n)).set (0+n/8) (.int .u64 _)
   rw [aX,Us,Us,<-wds_set (by omega),dR]
  refine s_autoE TY_ok rfl ?_;exact k_next (n+1) hlt (by show 32-(n+1)<32-n;omega) ⟨⟨congrArg (λx=>some (SV.v (.int .i64 x))) (addI n 1 (by omega)),rfl,rfl,rfl,trivial⟩,⟨rfl,rfl,rfl,rfl,rfl,rfl,trivial⟩,.refl _,λ_ h _=>h,λ_ h=>h⟩
 obtain rfl:n=32:=by omega
 have hT:b.take 32=b:=bH (by omega);have rw5:∀j,j<5->(catP [.agg 5 (Us (wds b 32)).toArray])[0+j]?=some (.int .u64 ((wd (le b) j:Nat):Int)):=λj hj=>(Us_in (by rw [wds_len];exact hj)).trans (by rw [wds_get b 32 hj,hT]);refine s_exit (k_pass (k_pass (k_out (hK1 _ ?_))));refine s_auto TY_ok rfl ?_;refine s_seq λK1 hK1=>?_;refine s_auto TY_ok rfl ?_;refine s_block ?_
 let U:Nat->Env:=λk=>⟨[(27,.v (.int .i64 ((k:Nat):Int))),(1,.a 1 0),(2,.a 2 0),(4,.a 4 0),(6,.a 6 0)],[⟨6,none,193,[.agg 5 (Us (mx f [0,0,0,0,0] k)).toArray]⟩,⟨4,none,191,[.agg 5 (Us (wds b 32)).toArray]⟩,⟨2,none,193,[.agg 5 (Us zl).toArray]⟩,⟨1,none,45,[.agg 32 (By b).toArray]⟩],[],F,λ_=>True⟩
 refine c_weak (e':=U 0) ⟨⟨rfl,rfl,rfl,rfl,rfl,trivial⟩,⟨rfl,rfl,rfl,rfl,rfl,rfl,rfl,rfl,trivial⟩,.refl _,λ_ h _=>h,λ_ h=>h⟩ (s_loop (λk=>5-k) U (λk=>k<=5) ?_ 0 (aQ _))
 intro k hk
 refine s_auto TY_ok rfl ?_;refine s_seq λK2 hK2=>?_;refine s_ifD ((k:Int)<5) rfl (λhlt=>?_) (λhge=>?_)
 ·have hlt:k<5:=by omega
  have hlb:=lb_words hL hlt
  have h0:51*k/64<5:=by omega
  have h1:51*k/64+1<5:=by omega
  have hr:51*k%64<=64:=by omega
  refine s_skip (hK2 _ ?_);refine s_seq λK3 hK3=>?_;refine s_block ?_;refine s_auto TY_ok rfl ?_;refine s_reg λK hK=>l_auto2 rfl (l_num 8 ((51*k:Nat):Int) rfl (mulI 51 k (by omega)) (s_end (hK _ ?_)));refine s_drawnN 20 (by kernel_rfl) λG S w0 hst=>?_;refine n_auto TY_ok hst rfl (n_num 34 ((51*k/64:Nat):Int) rfl (quoI (51*k) 64 (by omega)) (n_cell hst rfl arr5 h0 _ (rw5 _ h0) ?_));refine n_auto2 hst rfl (n_num 42 ((51*k/64+1:Nat):Int) rfl ((congrArg (λx=>IntKind.i64.wrap (x+1)) (quoI (51*k) 64 (by omega))).trans (addI _ 1 (by omega))) (n_cell hst rfl arr5 h1 _ (rw5 _ h1) ?_));refine n_auto TY_ok hst rfl (n_num 47 ((64-51*k%64:Nat):Int) rfl (subI 64 (51*k%64) hr (by omega)) ?_);refine n_auto2 hst rfl (n_num 50 ((f k:Nat):Int) rfl (by rw [kw64.shr (51*k%64) hr,cA (by show 64-51*k%64<=64;omega),Int.natCast_ediv,Int.natCast_pow];exact hlb) (n_L hst rfl ?_));refine l_put rfl arr5 hlt [.agg 5 (Us (mx f [0,0,0,0,0] (k+1))).toArray] (eE_p (mx_len _ _ _)) ?_ ?_ (s_end (hK3 _ ?_))
  ·show 0+k<(Us (mx f [0,0,0,0,0] k)).toArray.size
   rw [aV,Us_len,mx_len]
   omega
  ·show Us (mx f [0,0,0,0,0] (k+1))=(Us (mx f [0,0,0,0,0] k)).set (0+k) (.int .u64 ((f k:Nat):Int))
   rw [aX,Us,Us,<-mx_set,dR]
  refine s_autoE TY_ok rfl ?_;exact k_next (k+1) hlt (by show 5-(k+1)<5-k;omega) ⟨⟨congrArg (λx=>some (SV.v (.int .i64 x))) (addI k 1 (by omega)),rfl,rfl,rfl,rfl,trivial⟩,⟨rfl,rfl,rfl,rfl,rfl,rfl,rfl,rfl,trivial⟩,.refl _,λ_ h _=>h,λ_ h=>h⟩
 obtain rfl:k=5:=by omega
 refine s_exit (k_pass (k_pass (k_out (hK1 _ ?_))));refine s_seq λK1 hK1=>?_;refine s_N 4 [] (by kernel_rfl) λK hK G S w0 hst=>n_X hst hC rfl λ_=>?_;refine n_auto2 hst rfl (n_op hst (.b (!decide (ez=b))) trivial rfl rfl rfl (run_neqY rfl rfl rfl Tryz.underlying45 (by kernel_rfl) hez hb) ?_);refine n_N hst rfl hK rfl ?_;refine s_if (!decide (ez=b)) rfl (λh=>?_) (λh=>?_)
 ·obtain⟨v,hv⟩:=hn (by rwa [Bool.not_eq_true'] at h)
  refine s_auto TY_ok rfl (s_ret ?_);exact k_ret TY_ok v rfl (by decide) rfl hv rfl (λ_ _ _=>trivial) λ_ _=>trivial
 ·obtain⟨v,hv⟩:=hy (by rwa [Bool.not_eq_false'] at h) _ hE
  refine s_skip (hK1 _ ?_);refine s_auto TY_ok rfl (s_ret ?_)
  exact k_ret TY_ok v rfl (by decide) rfl hv rfl (λ_ _ _=>trivial) λ_ _=>trivial⟩
theorem info64:(Tryz.prog.info? 123).map (λi=>(i.zero,i.size,i.bytes))=some (some (.int .u64 0),1,8):=by kernel_rfl
theorem partU_at(w:World)(l:List Nat)(i:Nat)(hi:i<l.length):(part 123 (Us l).toArray (i*1)).run Tryz.prog w = .ok (.int .u64 (l[i]:Nat)) w:=by
 have hagg:(isAgg 123).run Tryz.prog w = .ok false w:=by
  unfold isAgg
  rw [aF,run_underlying Tryz.underlying123 w]
  rfl
 have hc:(Us l)[i]?=some (.int .u64 (l[i]:Nat)):=by simp [Us,aP hi]
 unfold part
 simp [aF,hagg,hc,aG]
theorem oneU_eq(d x y:Nat)(w:World):(bX (d+1) 123 (.int .u64 (x:Int)) (.int .u64 (y:Int))).run Tryz.prog w = .ok (decide (x=y)) w:=by
 simp [bX,run_underlying Tryz.underlying123]
 by_cases h:x=y
 ·simp [h]
 ·simp [h]
  omega
theorem equalIn_words(d n t:Nat)(l m:List Nat)(ht:Tryz.prog.underlying t=some (.array n 123))(hl:l.length=n)(hm:m.length=n)(w:World) :
  (bX (d+2) t (.agg (Us l).toArray) (.agg (Us m).toArray)).run Tryz.prog w = .ok (decide (l=m)) w:=by
 obtain⟨i0,hi0,hz0,hz1,hz2⟩:=info_parts info64
 have hI:∀(I:List Nat),(∀i∈I,i<n)->(forIn I ((none:Option Bool),()) λi _=>do
   let a <-part 123 (Us l).toArray (i*1)
   let b <-part 123 (Us m).toArray (i*1)
   let r <-bX (d+1) 123 a b
   if (!r)=true then pure (ForInStep.done (some false,())) else pure (ForInStep.yield (none,()))).run Tryz.prog w = .ok (if ∀i∈I,l[i]! = m[i]! then(none,()) else(some false,())) w:=by
  intro I
  induction I with
  | nil=>intro _;simp [aG]
  | cons i I ih =>
   intro h
   have hi:i<l.length:=by have:=h i (by simp);omega
   have hj:i<m.length:=by have:=h i (by simp);omega
   have hp:=partU_at w l i hi;have hq:=partU_at w m i hj;have he:=oneU_eq d l[i] m[i] w;have e1:l[i]! = l[i]:=getElem!_pos l i hi;have e2:m[i]! = m[i]:=getElem!_pos m i hj
   by_cases hx:l[i]=m[i]
   ·rw [show decide (l[i]=m[i])=true by simp [hx]] at he
    simp only [sU,aF,hp,hq,aB,he,Bool.not_true,Bool.false_eq_true,if_false,aG];rw [ih (λj hj=>h j (by simp [hj]))]
    congr 1
    by_cases ha:∀i∈I,l[i]! = m[i]!
    ·have hb:∀j∈i::I,l[j]! = m[j]!:=by
      intro j hj
      rcases List.mem_cons.mp hj with rfl|hj
      ·rw [e1,e2,hx]
      ·exact ha j hj
     rw [if_pos ha,if_pos hb]
    ·rw [if_neg ha,if_neg (λhb=>ha λj hj=>hb j (aI _ hj))]
   ·rw [show decide (l[i]=m[i])=false by simp [hx]] at he
    simp only [sU,aF,hp,hq,aB,he,Bool.not_false,if_true,aG];rw [if_neg (λhb=>hx (by have:=hb i (aM ..);rw [e1,e2] at this;exact this))]
 rw [bX];simp only [aF,run_underlying ht,aB,sizeOf,typeInfo,run_program,hi0,hz1,aG,Std.Legacy.Range.forIn_eq_forIn_range']
 rw [hI _ (λi hi=>by
  have:=gT.1 hi
  simp [dV] at this
  omega)]
 by_cases hlm:l=m
 ·subst hlm
  simp [aG]
 ·have hne:¬ ∀i∈List.range' 0 n 1,l[i]! = m[i]!:=λha=>hlm (by
   apply dG (by rw [hl,hm])
   intro i h1 h2
   have:=ha i (gT.2 (by omega))
   rwa [getElem!_pos l i h1,getElem!_pos m i h2] at this)
  have hs:dV [:n]=n:=by simp [dV]
  rw [hs,if_neg hne,show decide (l=m)=false by simp [hlm]]
  rfl
theorem partEl(w:World)(l:List Nat)(hl:l.length=5):(part 191 (Us l).toArray 0).run Tryz.prog w = .ok (.agg (Us l).toArray) w:=by
 have hagg:(isAgg 191).run Tryz.prog w = .ok true w:=by
  unfold isAgg
  rw [aF,run_underlying Tryz.underlying191 w]
  rfl
 have hs:(sizeOf 191).run Tryz.prog w = .ok 5 w:=by kernel_rfl
 have he:(Us l).toArray.extract 0 (0+5)=(Us l).toArray:=by
  apply Array.ext'
  simp only [List.extract_toArray,qW,aX,Nat.sub_zero,kH];exact bH (by rw [Us_len,hl];exact aH _)
 unfold part
 simp only [aF,hagg,aB,if_true,hs,aG,he]
theorem run_field_el(l:List Nat)(hl:l.length=5)(w:World):(s7 193 (.agg (Us l).toArray) 0).run Tryz.prog w = .ok (.agg (Us l).toArray) w:=by
 have hp:=partEl w l hl
 unfold s7
 simp only [aF,run_underlying Tryz.underlying193,aB];exact hp
theorem equal_el(l m:List Nat)(hl:l.length=5)(hm:m.length=5)(w:World) :
  (bX 10000 193 (.agg (Us l).toArray) (.agg (Us m).toArray)).run Tryz.prog w = .ok (decide (l=m)) w:=by
 have he:=equalIn_words 9997 5 191 l m Tryz.underlying191 hl hm w
 have hst:Tryz.prog.stoodInHeld 193 = false:=by kernel_rfl
 rw [bX];simp only [aF,run_underlying Tryz.underlying193,aB,run_program,hst];have he':(bX 9999 191 (.agg (Us l).toArray) (.agg (Us m).toArray)).run Tryz.prog w = .ok (decide (l=m)) w:=he;rw [if_neg (by decide)];have hp:=partEl w l hl;have hq:=partEl w m hm;generalize decide (l=m)=q at *
 cases q<;>simp [aF,hp,hq,he',aG]
theorem lv_inj:∀{a b:List Nat},a.length=b.length->(∀y∈a,y<2251799813685248)->(∀y∈b,y<2251799813685248)->lv a=lv b->a=b
 | [],[],_,_,_,_=>rfl
 | x::a,y::b,hl,ha,hb,h=>by
  have h1:=ha x (aM ..);have h2:=hb y (aM ..);have h3:x+2251799813685248*lv a=y+2251799813685248*lv b:=h
  have h4:x=y:=by omega
  have h5:lv a=lv b:=by omega
  rw [h4,lv_inj (by simpa using hl) (λz hz=>ha z (aI _ hz)) (λz hz=>hb z (aI _ hz)) h5]
theorem whole_iff{a b:List Nat}{x y:F}(ha:EB a x)(hb:EB b y):whole a=whole b↔x=y:=by
 obtain⟨l1,b1,v1⟩:=gB ha;obtain⟨l2,b2,v2⟩:=gB hb
 constructor
 ·intro h
  apply Fin.ext
  rw [<-v1,<-v2,h]
 ·rintro rfl
  exact lv_inj (by rw [l1,l2]) b1 b2 (by rw [v1,v2])
theorem is_f{a b:List Nat}{x y:F}(ha:EB a x)(hb:EB b y)(w:World) :
  Calls Tryz.prog 177 #[.agg (Us a).toArray,.agg (Us b).toArray] w λe w'=>e = .returned (.bool (decide (x=y)))/\Below w.heap.size w w':=by
 have hq:decide (x=y)=decide (whole a=whole b):=decide_eq_decide.2 (whole_iff ha hb).symm;rw [hq];clear hq;have l1:=(gB ha).1;have l2:=(gB hb).1;have hE:=λw1=>equal_el (whole a) (whole b) l1 l2 w1;have H1:=λw1=>whole_f ha w1;have H2:=λw1=>whole_f hb w1;generalize decide (whole a=whole b)=q at *;generalize whole a=u at *;generalize whole b=v at *;have hza:=ha.len;have hzb:=hb.len;have h0:Blk ((w.alloc (gZ (Us a).toArray 193)).alloc (gZ (Us b).toArray 193)) w.heap.size 193 (Us a).toArray:=heap_alloc2_old w _ _;have h1:Blk ((w.alloc (gZ (Us a).toArray 193)).alloc (gZ (Us b).toArray 193)) (w.heap.size+1) 193 (Us b).toArray:=heap_alloc2_new w _ _;have hbel:Below w.heap.size w ((w.alloc (gZ (Us a).toArray 193)).alloc (gZ (Us b).toArray 193)):=((Below.refl _ _).alloc (aH _) _).alloc (by simp) _;clear ha hb
 go_enter Tryz.func177,Tryz.ntmps177
 go_wp2
 refine reg_q (by kernel_rfl) (tail_ok (by kernel_rfl)) (λ_ _ d _ _ h=>by cases d<;>exact h) ?_;refine b_el w.heap.size hza _ rfl rfl rfl (λ_ h=>h.blk h0) ?_;simp only [oQ,dE,eG,eH];refine b_one rfl own_whole (λw1=>H1 w1) rfl rfl ?_;simp only [oQ,dE,eG,eH];refine b_el (w.heap.size+1) hzb _ rfl rfl rfl (λ_ h=>h.blk h1) ?_;simp only [oQ,dE,eG,eH];refine b_one rfl own_whole (λw1=>H2 w1) rfl rfl ?_;simp only [oQ,dE,eG,eH];refine b_eq (Us u).toArray (Us v).toArray rfl rfl rfl rfl (by kernel_rfl) hE ?_;simp only [oQ,dE,eG,eH];refine b_assign rfl rfl ?_;simp only [oQ,dE,eG,eH];refine wpB_nil ?_
 intro w1 hw1
 have hb2:=below_up hbel hw1
 go_wp2
 go_ret
 exact⟨rfl,hb2⟩
theorem whole_odd{a:List Nat}{x:F}(ha:EB a x):(whole a)[0]! % 2=x.val%2:=by
 obtain⟨l1,_,v1⟩:=gB ha;obtain⟨a0,a1,a2,a3,a4,h⟩:=nV l1;rw [<-v1,h,lv5]
 show a0%2=_
 omega
theorem odd_f{a:List Nat}{x:F}(ha:EB a x)(w:World) :
  Calls Tryz.prog 144 #[.agg (Us a).toArray] w λe w'=>e = .returned (.bool (decide (x.val%2=1)))/\Below w.heap.size w w':=by
 have ho:=whole_odd ha;obtain⟨l1,l2,_⟩:=gB ha;have H1:=λw1=>Lib.hid (whole_f ha w1);rw [<-ho];clear ho;obtain⟨a0,a1,a2,a3,a4,h⟩:=nV l1;rw [h] at H1 l2 ⊢;have ha0:a0<2251799813685248:=l2 a0 (by simp);have e0:(Us [a0,a1,a2,a3,a4]).toArray = #[.int .u64 (a0:Int),.int .u64 (a1:Int),.int .u64 (a2:Int),.int .u64 (a3:Int),.int .u64 (a4:Int)]:=rfl;have e1:[a0,a1,a2,a3,a4][0]! = a0:=rfl;rw [e1];rw [e0] at H1;have hza:=len_us ha.len;have h0:=Blk.new w 193 (Us a).toArray;have hbel:Below w.heap.size w (w.alloc (gZ (Us a).toArray 193)):=(Below.refl _ _).alloc (aH _) _
 have hand:bits .and .u64 (a0:Int) 1=((a0%2:Nat):Int):=by
  have h:=u64_and_nat a0 1 (by omega) (by omega);rw [nat_mask1] at h;exact h
 go_enter Tryz.func144,Tryz.ntmps144
 go_wp2_with (refine wpList_load_row rfl 193 _ rfl w.heap.size rfl 193 (Us a).toArray (0,0) _ h0 Tryz.underlying193 rfl (size_el _ hza) ?_)
 refine(H1 _).out.mono ?_
 rintro e w1 ⟨rfl,hw1⟩
 have hb2:=below_up hbel hw1
 have hfl:∀w1,(s7 193 (.agg #[.int .u64 (a0:Int),.int .u64 (a1:Int),.int .u64 (a2:Int),.int .u64 (a3:Int),.int .u64 (a4:Int)]) 0).run Tryz.prog w1 = .ok (.agg #[.int .u64 (a0:Int),.int .u64 (a1:Int),.int .u64 (a2:Int),.int .u64 (a3:Int),.int .u64 (a4:Int)]) w1 :=
  λw1=>run_field_el [a0,a1,a2,a3,a4] rfl w1
 have hix:∀w1,(Instr.index 191 (.agg #[.int .u64 (a0:Int),.int .u64 (a1:Int),.int .u64 (a2:Int),.int .u64 (a3:Int),.int .u64 (a4:Int)]) (.int .i64 0)).run Tryz.prog w1 = .ok (.int .u64 (a0:Int)) w1:=λw1=>by kernel_rfl
 have hdec:(((a0%2:Nat):Int)==1)=decide (a0%2=1):=by
  rw [Bool.eq_iff_iff]
  simp
  omega
 generalize ha2:a0%2=m at hand;rw [ha2] at hdec;have HD:=Lib.hid (show decide (m=1)=decide (a0%2=1) by rw [ha2]);clear ha2
 go_wp2
 go_ret
 exact⟨congrArg (λq=>Ending.returned (Value.bool q)) HD.out,hb2⟩
theorem small1_f(w:World):Calls Tryz.prog 145 #[.int .u64 1] w λe w'=>∃r,EB r 1/\e = .returned (.agg (Us r).toArray)/\Below w.heap.size w w':=by
 have h:=small_f 1 (by omega) w;rw [fQ] at h;exact h
section
variable{F:World->Prop}
theorem small1_C:Ct F 145 [.c (.v (.int .u64 1))] (elP 1):=⟨own_small,Spec.el λw _=>small1_f w⟩
end
section
variable{F:World->Prop}{a:List Nat}{x:Nums.F}
theorem own_odd:Own 144:=λ_ _=>by go_simp
theorem odd_C(ha:EB a x):Ct F 144 [eE a] (one (.q (.c (.b (decide (x.val%2=1)))))):=⟨own_odd,Spec.pure trivial λw _=>odd_f ha w⟩
end
end Go.Proofs.YtlhlkofpjhpaoaaGreatDoor
namespace Nums
namespace Ed
section
variable{n:Nat}[NeZero n]{d:Fin n}
theorem Rep.wK(hn:bU n){x y z t:Fin n}{P:Pt n}(r:Rep x y z P)(ht:t*z=x*y):t=P.x*P.y*z:=by
 refine cancel hn r.z ?_;rw [ht,r.x,r.y]
 grind only
theorem vZ(px py qx qy z1 z2:Fin n):(py*z1+px*z1)*(qy*z2+qx*z2)-(py*z1-px*z1)*(qy*z2-qx*z2)=(px*qy+py*qx)*(2*(z1*z2)):=by grind only
theorem vY(px py qx qy z1 z2:Fin n):(py*z1+px*z1)*(qy*z2+qx*z2)+(py*z1-px*z1)*(qy*z2-qx*z2)=(py*qy+px*qx)*(2*(z1*z2)):=by grind only
theorem tR(px py qx qy z1 z2 d:Fin n):px*py*z1*((qx*qy*z2+qx*qy*z2)*d)=d*px*qx*py*qy*(2*(z1*z2)):=by grind only
theorem tQ(z1 z2:Fin n):z1*(z2+z2)=2*(z1*z2):=by grind only
theorem wV(k u:Fin n):u+k*u=(1+k)*u:=by grind only
theorem wW(k u:Fin n):u-k*u=(1-k)*u:=by grind only
theorem Rep.wX(g:Good n d){P Q:Pt n}(hP:On d P)(hQ:On d Q){e f gg h u:Fin n}(hu:u≠0)(he:e=(P.x*Q.y+P.y*Q.x)*u)(hf:f=(1-kk d P Q)*u)(hg:gg=(1+kk d P Q)*u)(hh:h=(P.y*Q.y+P.x*Q.x)*u) :
  Rep (e*f) (gg*h) (f*gg) (Ed.add d P Q):=by
 have hx:=oL g hP hQ;have hy:=oK g hP hQ;have n1:=jQ g hP hQ;have n2:=gL g hP hQ;subst he hf hg hh;refine⟨cL g.pr (cL g.pr n2 hu) (cL g.pr n1 hu),?_,?_⟩
 ·rw [<-hx]
  grind only
 ·rw [<-hy]
  grind only
theorem Rep.plus(g:Good n d){P Q:Pt n}(hP:On d P)(hQ:On d Q){x1 y1 z1 t1 x2 y2 z2 t2:Fin n}(r:Rep x1 y1 z1 P)(h1:t1*z1=x1*y1)(s:Rep x2 y2 z2 Q)(h2:t2*z2=x2*y2){un li z t e f gg h:Fin n}
 (hun:un=(y1-x1)*(y2-x2))(hli:li=(y1+x1)*(y2+x2))(hz:z=z1*(z2+z2))(ht:t=t1*((t2+t2)*d))(he:e=li-un)(hf:f=z-t)(hg:gg=z+t)(hh:h=li+un) :
  Rep (e*f) (gg*h) (f*gg) (Ed.add d P Q)/\e*h*(f*gg)=e*f*(gg*h):=by
 have e1:=r.wK g.pr h1;have e2:=s.wK g.pr h2;have hu:(2:Fin n)*(z1*z2)≠0:=cL g.pr g.two (cL g.pr r.z s.z);refine⟨Rep.wX g hP hQ hu ?_ ?_ ?_ ?_,by grind only⟩
 ·rw [he,hli,hun,r.x,r.y,s.x,s.y,vZ]
 ·rw [hf,hz,ht,e1,e2,tR,tQ,<-wW]
  rfl
 ·rw [hg,hz,ht,e1,e2,tR,tQ,<-wV]
  rfl
 ·rw [hh,hli,hun,r.x,r.y,s.x,s.y,vY]
theorem w8(px py z:Fin n):px*z*(py*z)+px*z*(py*z)=(px*py+py*px)*(z*z):=by grind only
theorem w6(px py z:Fin n):py*z*(py*z)-px*z*(px*z)=(py*py-px*px)*(z*z):=by grind only
theorem wZ(px py z:Fin n):py*z*(py*z)+px*z*(px*z)=(py*py+px*px)*(z*z):=by grind only
theorem w7(k u:Fin n):u+u-(1+k)*u=(1-k)*u:=by grind only
theorem wT{P:Pt n}(hP:On d P):P.y*P.y-P.x*P.x=1+kk d P P:=by
 have h:P.y*P.y-P.x*P.x=1+d*P.x*P.x*P.y*P.y:=hP;rw [h]
 rfl
theorem Rep.dbl(g:Good n d){P:Pt n}(hP:On d P){x y z:Fin n}(r:Rep x y z P){xx yy zz xy e gg h f:Fin n}(hxx:xx=x*x)(hyy:yy=y*y)(hzz:zz=z*z)(hxy:xy=x*y)
 (he:e=xy+xy)(hg:gg=yy-xx)(hh:h=yy+xx)(hf:f=zz+zz-gg):Rep (e*f) (gg*h) (f*gg) (Ed.add d P P)/\e*h*(f*gg)=e*f*(gg*h):=by
 have hu:z*z≠0:=cL g.pr r.z r.z
 have hgg:gg=(1+kk d P P)*(z*z):=by rw [hg,hyy,hxx,r.x,r.y,w6,wT hP]
 refine⟨Rep.wX g hP hP hu ?_ ?_ hgg ?_,by grind only⟩
 ·rw [he,hxy,r.x,r.y,w8]
 ·rw [hf,hzz,hgg,w7]
 ·rw [hh,hyy,hxx,r.x,r.y,wZ]
theorem Rep.one(hn:bU n)(x y:Fin n):Rep x y 1 ⟨x,y⟩:=⟨λh=>lD hn h.symm,by show x=x*1;grind only,by show y=y*1;grind only⟩
theorem wH(g:Good n d){P:Pt n}(hP:On d P)(hy:P.y=1):P=zero:=by
 have h:P.y*P.y-P.x*P.x=1+d*P.x*P.x*P.y*P.y:=hP;rw [hy] at h
 have h2:P.x*P.x*(d+1)=0:=by grind only
 have hd:d+1≠0:=λh0=>by
  obtain⟨i,hi⟩:=g.i;refine g.d i ?_;rw [hi]
  grind only
 have hx:P.x=0:=by
  by_cases hx:P.x=0
  ·exact hx
  ·exact absurd h2 (cL g.pr (cL g.pr hx hx) hd)
 cases P
 simp only at hx hy;rw [hx,hy]
 rfl
theorem Rep.wI(g:Good n d){P:Pt n}(hP:On d P){x y z:Fin n}(r:Rep x y z P):y=z↔P=Ed.zero:=by
 constructor
 ·intro h
  refine wH g hP (cancel g.pr r.z ?_);rw [<-r.y,h]
  grind only
 ·rintro rfl
  rw [r.y]
  show 1*z=z
  grind only
end
end Ed
end Nums
namespace Go.Proofs.YtlhlkofpjhpaoaaGreatDoor
open Go.RowKit Go.IntWalk Nums
def pc(X Y Z T:List Nat):List Nat:=X++(Y++(Z++T))
def pz:List Nat:=pc zl zl zl zl
theorem Us_pc(X Y Z T:List Nat):Us (pc X Y Z T)=Us X++(Us Y++(Us Z++Us T)):=by simp [pc,Us]
theorem pc_len{X Y Z T:List Nat}(hX:X.length=5)(hY:Y.length=5)(hZ:Z.length=5)(hT:T.length=5):(pc X Y Z T).length=20:=by simp [pc,hX,hY,hZ,hT]
theorem size_ad{n:Nat}(h:n=20):(Tryz.prog.info? 236).map (·.size)=some n:=by
 rw [h]
 kernel_rfl
theorem part_pt(w:World)(A V Z:List Nat)(off:Nat)(ho:A.length=off)(hV:V.length=5):(part 193 (Us A++(Us V++Us Z)).toArray off).run Tryz.prog w = .ok (.agg (Us V).toArray) w:=by
 have hagg:(isAgg 193).run Tryz.prog w = .ok true w:=by
  unfold isAgg
  rw [aF,run_underlying Tryz.underlying193 w]
  rfl
 have hs:(sizeOf 193).run Tryz.prog w = .ok 5 w:=by kernel_rfl
 have he:(Us A++(Us V++Us Z)).toArray.extract off (off+5)=(Us V).toArray:=by
  apply Array.ext'
  simp only [List.extract_toArray,qW];rw [List.drop_append,List.drop_eq_nil_of_le (by rw [Us_len];omega),Us_len,ho,gP,kH,List.nil_append,Nat.add_sub_cancel_left,List.take_append,Us_len,hV,gP,List.take_zero,List.append_nil,bH (by rw [Us_len,hV];exact aH _)]
 unfold part
 simp only [aF,hagg,aB,if_true,hs,aG,he]
theorem equal_elD(d:Nat)(l m:List Nat)(hl:l.length=5)(hm:m.length=5)(w:World) :
  (bX (d+3) 193 (.agg (Us l).toArray) (.agg (Us m).toArray)).run Tryz.prog w = .ok (decide (l=m)) w:=by
 have he:=equalIn_words d 5 191 l m Tryz.underlying191 hl hm w
 have hst:Tryz.prog.stoodInHeld 193 = false:=by kernel_rfl
 rw [bX];simp only [aF,run_underlying Tryz.underlying193,aB,run_program,hst];rw [if_neg (by decide)];have hp:=partEl w l hl;have hq:=partEl w m hm;generalize decide (l=m)=q at *
 cases q<;>simp [aF,hp,hq,he,aG]
theorem equal_pt(X Y Z T X' Y' Z' T':List Nat)(hX:X.length=5)(hY:Y.length=5)(hZ:Z.length=5)(hT:T.length=5)(hX':X'.length=5)(hY':Y'.length=5)(hZ':Z'.length=5)(hT':T'.length=5)(w:World) :
  (bX 10000 195 (.agg (Us (pc X Y Z T)).toArray) (.agg (Us (pc X' Y' Z' T')).toArray)).run Tryz.prog w = .ok (decide (X=X'/\Y=Y'/\Z=Z'/\T=T')) w:=by
 have e1:=equal_elD 9996 X X' hX hX' w;have e2:=equal_elD 9996 Y Y' hY hY' w;have e3:=equal_elD 9996 Z Z' hZ hZ' w;have e4:=equal_elD 9996 T T' hT hT' w
 have p1:∀X Y Z T:List Nat,X.length=5->(part 193 (Us (pc X Y Z T)).toArray 0).run Tryz.prog w = .ok (.agg (Us X).toArray) w:=λX Y Z T h=>by
  have:=part_pt w [] X (Y++(Z++T)) 0 rfl h
  simpa [pc,Us] using this
 have p2:∀X Y Z T:List Nat,X.length=5->Y.length=5->(part 193 (Us (pc X Y Z T)).toArray 5).run Tryz.prog w = .ok (.agg (Us Y).toArray) w:=λX Y Z T h h2=>by
  have:=part_pt w X Y (Z++T) 5 h h2
  simpa [pc,Us] using this
 have p3:∀X Y Z T:List Nat,X.length=5->Y.length=5->Z.length=5->(part 193 (Us (pc X Y Z T)).toArray 10).run Tryz.prog w = .ok (.agg (Us Z).toArray) w:=λX Y Z T h h2 h3=>by
  have:=part_pt w (X++Y) Z T 10 (by simp [h,h2]) h3
  simpa [pc,Us] using this
 have p4:∀X Y Z T:List Nat,X.length=5->Y.length=5->Z.length=5->T.length=5->(part 193 (Us (pc X Y Z T)).toArray 15).run Tryz.prog w = .ok (.agg (Us T).toArray) w:=λX Y Z T h h2 h3 h4=>by
  have:=part_pt w (X++(Y++Z)) T [] 15 (by simp [h,h2,h3]) h4
  simpa [pc,Us] using this
 have hst:Tryz.prog.stoodInHeld 195 = false:=by kernel_rfl
 have a1:=p1 X Y Z T hX;have a2:=p2 X Y Z T hX hY;have a3:=p3 X Y Z T hX hY hZ;have a4:=p4 X Y Z T hX hY hZ hT;have b1:=p1 X' Y' Z' T' hX';have b2:=p2 X' Y' Z' T' hX' hY';have b3:=p3 X' Y' Z' T' hX' hY' hZ';have b4:=p4 X' Y' Z' T' hX' hY' hZ' hT';generalize (Us (pc X Y Z T)).toArray=u at *;generalize (Us (pc X' Y' Z' T')).toArray=v at *;clear p1 p2 p3 p4;rw [bX];simp only [aF,run_underlying Tryz.underlying195,aB,run_program,hst];rw [if_neg (by decide)]
 by_cases h1:X=X'<;>by_cases h2:Y=Y'<;>by_cases h3:Z=Z'<;>by_cases h4:T=T' <;>
  simp only [h1,h2,h3,h4,decide_true,decide_false,and_true,and_false] at e1 e2 e3 e4 ⊢ <;>
  simp [aF,a1,a2,a3,a4,b1,b2,b3,b4,e1,e2,e3,e4,h1,h2,h3,h4,aG]
structure QB(l:List Nat)(A:Ed.Pt p):Prop where
  ex:∃X Y Z T x y z t,l=pc X Y Z T/\EB X x/\EB Y y/\EB Z z/\EB T t/\Ed.Rep x y z A/\t*z=x*y
  on:Ed.On dd A
def PB(l:List Nat)(A:Ed.Pt p):Prop:=(l=pz/\A=Ed.zero)\/QB l A
structure AB(l:List Nat)(A:Ed.Pt p):Prop where
  ex:∃X Y Z T x y z t,l=pc X Y Z T/\EB X (y+x)/\EB Y (y-x)/\EB Z (z+z)/\EB T ((t+t)*dd)/\Ed.Rep x y z A/\t*z=x*y
  on:Ed.On dd A
theorem PB.on{l:List Nat}{A:Ed.Pt p}(h:PB l A):Ed.On dd A:=by
 rcases h with⟨_,rfl⟩|h
 ·exact Ed.jR
 ·exact h.on
theorem ne_zl{l:List Nat}{z:F}(h:EB l z)(hz:z≠0):l≠zl:=by
 rintro rfl
 exact hz (h.val.symm.trans j8)
theorem QB.ne{X Y Z T:List Nat}{z:F}(hZ:EB Z z)(hz:z≠0):¬(X=zl/\Y=zl/\Z=zl/\T=zl):=λh=>ne_zl hZ hz h.2.2.1
theorem own_at:Own 137:=λ_ _=>by go_simp
theorem own_pwhole:Own 140:=λ_ _=>by go_simp
theorem own_factor:Own 148:=λ_ _=>by go_simp
theorem own_addend:Own 169:=λ_ _=>by go_simp
theorem own_plus:Own 167:=λ_ _=>by go_simp
theorem own_doubled:Own 150:=λ_ _=>by go_simp
theorem eq_pz(w:World):(bX 10000 195 (.agg (Us pz).toArray) (.agg (Us pz).toArray)).run Tryz.prog w = .ok true w:=by
 have:=equal_pt zl zl zl zl zl zl zl zl rfl rfl rfl rfl rfl rfl rfl rfl w;rw [decide_eq_true ⟨rfl,rfl,rfl,rfl⟩] at this;exact this
theorem ne_pz{l:List Nat}{A:Ed.Pt p}(h:QB l A)(w:World):(bX 10000 195 (.agg (Us l).toArray) (.agg (Us pz).toArray)).run Tryz.prog w = .ok false w:=by
 obtain⟨⟨X,Y,Z,T,x,y,z,t,rfl,hX,hY,hZ,hT,hr,_⟩,_⟩:=h;have:=equal_pt X Y Z T zl zl zl zl hX.len hY.len hZ.len hT.len rfl rfl rfl rfl w;rw [decide_eq_false (QB.ne hZ hr.z)] at this;exact this
def facB:List UInt8:=[163,120,89,19,202,77,235,117,171,216,65,65,77,10,112,0,152,232,121,119,121,64,199,140,115,254,111,43,238,108,3,82]
def bxB:List UInt8:=[26,213,37,143,96,45,86,201,178,167,37,149,96,199,44,105,92,220,214,253,49,226,164,192,254,83,110,205,211,54,105,33]
def byB:List UInt8:=[88,102,102,102,102,102,102,102,102,102,102,102,102,102,102,102,102,102,102,102,102,102,102,102,102,102,102,102,102,102,102,102]
theorem good_fac:isGood facB=true:=by decide +kernel
theorem good_bx:isGood bxB=true:=by decide +kernel
theorem good_by:isGood byB=true:=by decide +kernel
theorem le_fac:fof (le facB%57896044618658097711785492504343953926634992332820282019728792003956564819968)=dd:=iK (by decide +kernel)
theorem le_bx:fof (le bxB%57896044618658097711785492504343953926634992332820282019728792003956564819968)=fof bx:=iK (by decide +kernel)
theorem le_by:fof (le byB%57896044618658097711785492504343953926634992332820282019728792003956564819968)=fof bY:=iK (by decide +kernel)
structure PtV where
  X:List Nat
  Y:List Nat
  Z:List Nat
  T:List Nat
def PtV.l(P:PtV):List Nat:=pc P.X P.Y P.Z P.T
abbrev PtV.ps(P:PtV):List Pt:=[.agg 5 (Us P.X).toArray,.agg 5 (Us P.Y).toArray,.agg 5 (Us P.Z).toArray,.agg 5 (Us P.T).toArray]
abbrev ePt(P:PtV):SQ:=.p P.ps
structure PtV.Ok(P:PtV):Prop where
  X:P.X.length=5
  Y:P.Y.length=5
  Z:P.Z.length=5
  T:P.T.length=5
theorem PtV.Ok.ps{P:PtV}(h:P.Ok):OkP P.ps:=λq hq=>by
 simp only [PtV.ps,aJ,List.not_mem_nil,or_false] at hq
 rcases hq with rfl|rfl|rfl|rfl
 ·exact⟨us_size h.X,Us_oneA _⟩
 ·exact⟨us_size h.Y,Us_oneA _⟩
 ·exact⟨us_size h.Z,Us_oneA _⟩
 ·exact⟨us_size h.T,Us_oneA _⟩
theorem den_pt(P:PtV):(ePt P).den = .agg (Us P.l).toArray:=by
 show Value.agg (catP P.ps)=_
 unfold PtV.l
 rw [Us_pc,PtV.ps,catP_cons,catP_cons,catP_cons,catP_cons]
 simp [Pt.cells,catP]
theorem ptv_ok{X Y Z T:List Nat}{x y z t:Nums.F}(hX:EB X x)(hY:EB Y y)(hZ:EB Z z)(hT:EB T t):(⟨X,Y,Z,T⟩:PtV).Ok:=⟨hX.len,hY.len,hZ.len,hT.len⟩
abbrev ptP(V:List Nat->Prop):Post {P:PtV // V P.l/\P.Ok}:={ ret:=λP=>.q (ePt P.1) }
theorem pc_inj{P:PtV}(hP:P.Ok){X Y Z T:List Nat}{x y z:Nums.F}(hX:EB X x)(hY:EB Y y)(hZ:EB Z z)(e:P.l=pc X Y Z T):P=⟨X,Y,Z,T⟩:=by
 obtain⟨X',Y',Z',T'⟩:=P
 unfold PtV.l pc at e
 obtain⟨h1,e⟩:=p6 e (hP.X.trans hX.len.symm);obtain⟨h2,e⟩:=p6 e (hP.Y.trans hY.len.symm);obtain⟨h3,h4⟩:=p6 e (hP.Z.trans hZ.len.symm)
 dsimp only at h1 h2 h3 h4
 rw [h1,h2,h3,h4]
theorem QB.nums{P:PtV}{A:Ed.Pt p}(h:QB P.l A)(hP:P.Ok):∃x y z t,EB P.X x/\EB P.Y y/\EB P.Z z/\EB P.T t/\Ed.Rep x y z A/\t*z=x*y:=by
 obtain⟨X,Y,Z,T,x,y,z,t,e,hX,hY,hZ,hT,hr⟩:=h.ex;obtain rfl:=pc_inj hP hX hY hZ e;exact⟨x,y,z,t,hX,hY,hZ,hT,hr⟩
theorem AB.nums{P:PtV}{A:Ed.Pt p}(h:AB P.l A)(hP:P.Ok):∃x y z t,EB P.X (y+x)/\EB P.Y (y-x)/\EB P.Z (z+z)/\EB P.T ((t+t)*dd)/\Ed.Rep x y z A/\t*z=x*y:=by
 obtain⟨X,Y,Z,T,x,y,z,t,e,hX,hY,hZ,hT,hr⟩:=h.ex;obtain rfl:=pc_inj hP hX hY hZ e;exact⟨x,y,z,t,hX,hY,hZ,hT,hr⟩
theorem QB.of{X Y Z T:List Nat}{x y z t:Nums.F}{A:Ed.Pt p}(hX:EB X x)(hY:EB Y y)(hZ:EB Z z)(hT:EB T t)(hR:Ed.Rep x y z A)(ht:t*z=x*y)(hon:Ed.On dd A):QB (PtV.l ⟨X,Y,Z,T⟩) A/\PtV.Ok ⟨X,Y,Z,T⟩:=⟨⟨⟨X,Y,Z,T,x,y,z,t,rfl,hX,hY,hZ,hT,hR,ht⟩,hon⟩,ptv_ok hX hY hZ hT⟩
section
variable{b:Base}{fn:Func}{N:Nat}{E:SE}{L:List LV}{F M:World->Prop}{rs:List ResultVar}
theorem k_pt{V:List Nat->Prop}(P:PtV)(hP:V P.l/\P.Ok)(hr:fn.results=rs.toArray)(hs:rs.length<=3)(h:resS TY E L rs=some [ePt P]):kS b (bodyPost Tryz.prog fn (endS b (ptP V)) .ret) N ⟨E,L,[],F,M⟩:=k_ret TY_ok ⟨P,hP⟩ hr hs h rfl rfl (λ_ _ _=>trivial) λ_ _=>trivial
end
end Go.Proofs.YtlhlkofpjhpaoaaGreatDoor
