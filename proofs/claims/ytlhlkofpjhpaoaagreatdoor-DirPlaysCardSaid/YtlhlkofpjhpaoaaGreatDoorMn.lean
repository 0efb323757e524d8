import Derived.Test.YtlhlkofpjhpaoaaGreatDoorMe
import Derived.RangeFuncNested
import Derived.RangeFuncBound
import Derived.RangeFuncCalls
import Derived.RangeFuncLeaves
import Derived.OrdersIn
import Derived.Test.YtlhlkofpjhpaoaaGreatDoorMj
import Derived.Test.YtlhlkofpjhpaoaaGreatDoorMi
import Derived.Test.YtlhlkofpjhpaoaaGreatDoorMh
import Derived.Test.YtlhlkofpjhpaoaaGreatDoorMm
set_option maxRecDepth 100000
set_option maxHeartbeats 4000000
open Array renaming replicate->aX,getElem?_toList->dR,mem_of_getElem?->jP
open Bool renaming and_eq_true->aN
open Go.Addr renaming add_mid->dA
open Go.Exit renaming inBlock->dN
open Go.Fence renaming wide->mE
open Go.Oper renaming wp_mono->tJ
open Go.Region renaming Mode->cT
open Go.Result renaming andThen_ok->aD
open Go.Sem renaming run_bind->aG,run_pure->aH
open Go.Value renaming int->bM
open Int renaming tmod_eq_emod_of_nonneg->iD
open List renaming mem_singleton->aE,getElem?_eq_getElem->aK,mem_cons->aL,mem_cons_self->aP,size_toArray->aT,length_take->aU,getElem?_eq_some_iff->bA,take_of_length_le->bG,append_nil->bT,all_eq_true->cA,getElem?_append_right->cG,length_filter_le->cZ,getElem?_take->dE,take_succ_eq_append_getElem->gA
open List.Pairwise renaming nil->sV
open Nat renaming le_refl->aF,zero_le->aI,zero_add->aZ,le_trans->b8,lt_of_le_of_lt->dP,div_le_self->dU,add_le_add_right->jN
open Option.some renaming injEq->aW
namespace Go.Proofs.YtlhlkofpjhpaoaaGreatDoor
open Go.RowKit Go.IntWalk
abbrev FW(ro:Option Nat):Fence:={ mE with round:=ro }
class NoOut (Q:Exit->Act->World->Prop):Prop where
  no:∀a w,¬Q .outgrown a w
instance{K:Act->World->Prop}{Q:Exit->Act->World->Prop}[h:NoOut Q]:NoOut (Exit.then K Q):=⟨λa w hq=>h.no a w hq⟩
instance{id:Nat}{Q:Exit->Act->World->Prop}[h:NoOut Q]:NoOut (dN id Q):=⟨λa w hq=>h.no a w hq⟩
instance{Q:Exit->Act->World->Prop}[h:NoOut Q]:NoOut (NoPanic Q):=⟨λa w hq=>h.no a w hq⟩
theorem calls_in{ro:Option Nat}{n:Nat}{P:Program}{f:FuncId}{args:Array Value}{w:World}{R:Ending->World->Prop}(h:Calls P f args w R):CallsIn (FW ro) n P f args w R:=(callsIn_wide (n:=n)).2 h
theorem rows_in{ro:Option Nat}{n:Nat}{P:Program}{row:String}{args:Array Value}{w:World}{R:Value->World->Prop}(h:Rows P row args w R):RowsIn (FW ro) n P row args w R:=λc cs _=>by
 obtain⟨v,w',r,s⟩:=h c cs;exact⟨v,w',r,(stepsIn_wide (P:=P)).2 s⟩
section
variable{P:Program}{ro:Option Nat}{n:Nat}{Q:Exit->Act->World->Prop}{ops:Array Oper}
theorem op_in[hQ:NoOut Q]{o:Oper}{a:Act}{w:World}{next:Act->World->Prop}(hd:∀c,o.op ≠ .defer c)(h:o.wp P a w next Q\/(o.asks P a w/\LetsOut Q)):o.wpIn (FW ro) n P a w next Q:=by
 rcases h with h|⟨_,a',w',h⟩
 ·refine⟨λ_ _=>trivial,?_⟩
  rw [Oper.semAt_eq _ _ _ hd]
  unfold Oper.wp at h
  generalize (execOp a.eval o).run P w=r at *
  cases r with
  | ok x w' =>
   cases x with
   | enter f args=>exact⟨λe=>(by cases e),calls_in h⟩
   | row row args=>exact⟨λe=>(by cases e),rows_in h⟩
   | _=>first|exact h|exact h.elim
  | halt x w'=>cases x<;>exact h
 ·exact absurd h (hQ.no a' w')
def noDef(l:List Oper):Bool:=l.all λo=>match o.op with | .defer _=>false|_=>true
theorem noDef_mem{l:List Oper}(h:noDef l=true){o:Oper}(ho:o∈l):∀c,o.op ≠ .defer c:=λc e=>by
 have:=cA.1 h o ho;rw [e] at this
 cases this
theorem list_in[NoOut Q]:∀{l:List Oper} {a:Act} {w:World},noDef l=true->wpList P ops Q l a w->wpListIn (FW ro) n P ops Q l a w
 | [],_,_,_,h=>h
 | o::l,a,w,hd,h=>by
  have hd':noDef l=true:=by
   unfold noDef at hd ⊢
   rw [List.all_cons,aN] at hd;exact hd.2
  unfold wpList at h
  unfold wpListIn
  split
  ·rename_i hw
   rw [if_pos hw] at h;exact op_in (noDef_mem hd aP) (h.imp (tJ λa' w' h'=>list_in hd' h') id)
  ·rename_i hw
   rw [if_neg hw] at h;exact⟨λ_ _=>trivial,list_in hd' h⟩
theorem any_in[NoOut Q]{md:cT}(hd:noDef ops.toList=true):∀{fuel:Nat} {listed:Array Bool} {a:Act} {w:World},wpAny P md ops Q fuel listed a w->wpAnyIn (FW ro) n P md ops Q fuel listed a w
 | 0,_,_,_,h=>h
 | fuel+1,listed,a,w,h=>by
  refine⟨h.1,λi hi=>?_⟩;have h2:=h.2 i hi
  unfold wpOp at h2
  unfold wpOpIn
  split
  ·rename_i hn
   rw [hn] at h2;exact any_in hd h2
  ·rename_i o ho
   rw [ho] at h2
   dsimp only at h2
   split
   ·rename_i hw
    rw [if_pos hw] at h2;exact op_in (noDef_mem hd (by simpa using jP ho)) (h2.imp (tJ λa' w' h'=>any_in hd h') id)
   ·rename_i hw
    rw [if_neg hw] at h2;exact⟨λ_ _=>trivial,any_in hd h2⟩
end
def rS(ro:Option Nat)(n:Nat)(b:Base)(c:Code)(Q:Exit->Act->World->Prop)(N:Nat)(e:Env):Prop:=∀a w,St b N e a w->c.wpIn (FW ro) n Tryz.prog Q a w
section
variable{T:List TyR}{ro:Option Nat}{n:Nat}{b:Base}{Q:Exit->Act->World->Prop}{N:Nat}{e e':Env}{E:SE}{L:List LV}{R:List Res}{F M:World->Prop}{id:Nat}{l l':List Oper}{x y:Code}
theorem r_seq(h:∀K:Act->World->Prop,(∀e',rS ro n b y Q N e'->kS b K N e')->rS ro n b x (Exit.then K Q) N e):rS ro n b (.seq x y) Q N e:=λa w hs =>
 wpIn_seq_k λK hK=>h K (λ_ h' a' w' hs'=>hK _ _ (h' a' w' hs')) a w hs
theorem r_lit[NoOut Q](hd:noDef l=true)(h:lS Tryz.prog b l.toArray Q N l e):rS ro n b (.region id l.toArray false) Q N e:=λa w hs=>wpIn_region_lit (list_in hd (h a w hs))
theorem r_auto{E':SE}{L':List LV}[NoOut Q](hd:noDef l=true)(hT:OkT Tryz.prog T)(h:autoS T l.toArray N l E L=([],E',L'))(hn:rS ro n b y Q N ⟨E',L',R,F,M⟩):rS ro n b (.seq (.region id l.toArray false) y) Q N ⟨E,L,R,F,M⟩ :=
 r_seq λ_ hK=>r_lit hd (l_autoS hT h (zJ (hK _ hn)))
theorem r_autoE{E':SE}{L':List LV}[NoOut Q](hd:noDef l=true)(hT:OkT Tryz.prog T)(h:autoS T l.toArray N l E L=([],E',L'))(hn:kS b (Q .normal) N ⟨E',L',R,F,M⟩):rS ro n b (.region id l.toArray false) Q N ⟨E,L,R,F,M⟩:=r_lit hd (l_autoS hT h (zJ hn))
theorem any_gS(m:Nat)(hn:m<=l.length)(hB:tailH l.toArray m (l.drop m).length=true){G:Nat->Nat}{w:World}{a:Act}(ha:Fr N (denE G E) a)(hE:OkE E)(h:gS Tryz.prog b l.toArray Q N (l.drop m) G w (idx 0 (l.take m)) E) :
  wpAny Tryz.prog .any l.toArray Q l.toArray.size (aX l.toArray.size false) a w.drew:=by
 have hL:(l.take m).length=m:=by rw [aU];omega
 have hG:GoodF Bel (Up w) (λ_ _=>True) w.drew:=⟨λ_ _ _ _ _=>trivial,Up.drew w,λ_=>trivial⟩
 have hP:Pend l.toArray m (idx 0 (l.take m)) (aX l.toArray.size false):=by
  refine⟨by simp,λx hx=>?_,λj o hj ho _=>?_,λj _ hj=>by
   have hj':j<l.length:=by simpa using hj
   simp [hj'],idx_sort _ _,Closed.none _⟩
  ·obtain⟨_,h2⟩:=idx_mem hx
   rw [Nat.sub_zero,dE] at h2
   split at h2
   ·rename_i hlt
    have h3:x.1<l.length:=(bA.1 h2).1;exact⟨by simpa using h2,hlt,by simp [h3]⟩
   ·cases h2
  ·have h1:=mem_idx (k:=0) (l:=l.take m) (j:=j) (o:=o) (by rw [dE,if_pos hj];simpa using ho)
   rwa [aZ] at h1
 have h2:=reg_any (Q:=Q) (λ_ _ h k=>Up.step h k) hB (λj _=>by simp) m (idx 0 (l.take m)) _ _ a w.drew (by rw [idx_len,hL]) hP hG (λ_ _ _=>trivial) (h hE a _ ha (λx hx=>by cases hx))
 have e:(l.drop m).length+m=l.toArray.size:=by simp;omega
 rw [e] at h2;exact h2
theorem r_drawn[NoOut Q](m:Nat)(hn:m<=l.length)(hm:Tryz.prog.follows .mixedOrders=true)(hB:tailH l.toArray m (l.drop m).length=true)(hd:noDef l=true)
 (h:∀G S w0,StW b G S L R F M w0->gS Tryz.prog b l.toArray Q N (l.drop m) G w0 (idx 0 (l.take m)) E):rS ro n b (.region id l.toArray true) Q N ⟨E,L,R,F,M⟩:=λa w ⟨G,S,h1,h2,h3⟩ =>
 wpIn_region_any hm (any_in (by simpa using hd) (any_gS m hn hB h1 h2 (h G S w h3)))
theorem r_regD[NoOut Q](m:Nat)(hn:m<=l.length)(hm:Tryz.prog.follows .mixedOrders=true)(hB:tailH l.toArray m (l.drop m).length=true)(hd:noDef l=true)
 (h:∀K:Act->World->Prop,(∀e',rS ro n b y Q N e'->kS b K N e')->∀G S w0,StW b G S L R F M w0->gS Tryz.prog b l.toArray (Exit.then K Q) N (l.drop m) G w0 (idx 0 (l.take m)) E):rS ro n b (.seq (.region id l.toArray true) y) Q N ⟨E,L,R,F,M⟩ :=
 r_seq λK hK=>r_drawn m hn hm hB hd (h K hK)
theorem r_yes{c:Operand}(hc:evS E c=some (.v (.bool true)))(h1:rS ro n b x Q N ⟨E,L,R,F,M⟩):rS ro n b (.cond c x y) Q N ⟨E,L,R,F,M⟩:=λa w hs=>by
 have hs':=hs;obtain⟨G,S,h3⟩:=hs;exact wpIn_cond_true (h3.fr.eval (evS_ok hc)) (h1 a w hs')
theorem r_no{c:Operand}(hc:evS E c=some (.v (.bool false)))(h1:rS ro n b y Q N ⟨E,L,R,F,M⟩):rS ro n b (.cond c x y) Q N ⟨E,L,R,F,M⟩:=λa w hs=>by
 have hs':=hs;obtain⟨G,S,h3⟩:=hs;exact wpIn_cond_false (h3.fr.eval (evS_ok hc)) (h1 a w hs')
theorem r_block{c:Code}(h:rS ro n b c (dN id Q) N e):rS ro n b (.block id c) Q N e:=λa w hs=>wpIn_block (h a w hs)
theorem r_skip(h:kS b (Q .normal) N e):rS ro n b .skip Q N e:=λa w hs=>wpIn_skip (h a w hs)
theorem r_ret(h:kS b (Q .ret) N e):rS ro n b .ret Q N e:=λa w hs=>wpIn_ret (h a w hs)
end
def YSpec(l:Nat)(args:List Value)(Fy:World->Prop)(r r1 r0:Res):Prop:=∀(w:World) (S:Nat->Prop),r.holds w S->Stb S Fy w->∀m,YieldAt mE m Tryz.prog l args.toArray w λe w'=>∃(t:Bool) (S':Nat->Prop),e = .returned (.bool t)/\Chg S w w'/\(bif t then r1 else r0).holds w' S'/\∀k,S' k->k<w.heap.size->S k
def bpost(r1 r0:Res):Post Bool:={ ret:=λt=>.v (.bool t),own:=λt=>[bif t then r1 else r0] }
theorem star1{r:Res}{w:World}{S:Nat->Prop}:starL [r] w S↔r.holds w S:=by
 constructor
 ·rintro⟨S1,S2,h1,h2,h3,_⟩
  have:S=S1:=funext λk=>propext ⟨λh=>((h3 k).1 h).resolve_right (h2 k),λh=>(h3 k).2 (.inl h)⟩
  rwa [this]
 ·exact λh=>⟨S,λ_=>False,h,λ_ h=>h,λk=>⟨.inl,λh=>h.elim id False.elim⟩,λ_ _ h=>h⟩
def tS(ro:Option Nat)(n:Nat)(b:Base)(ops:Array Oper)(Q:Exit->Act->World->Prop)(N:Nat)(l:List Oper)(e:Env):Prop:=∀a w,St b N e a w->wpListIn (FW ro) n Tryz.prog ops Q l a w
section
variable{ro:Option Nat}{n:Nat}{b:Base}{ops:Array Oper}{Q:Exit->Act->World->Prop}{N:Nat}{e:Env}{E:SE}{L L0:List LV}{R R':List Res}{F M:World->Prop}{o:Oper}{rest l:List Oper}{k:Nat}{y:Operand}{xs:Array Operand}{ats:Array TypeId}{svs:List SV}{Inv:World->Prop}
theorem t_list[NoOut Q](hd:noDef l=true)(h:lS Tryz.prog b ops Q N l e):tS ro n b ops Q N l e:=λa w hs=>list_in hd (h a w hs)
theorem t_yield{g:Nat}{r r1 r0:Res}{Fy:World->Prop}(args:List Value)(hg:o.guard=none)(hd:o.dst=some k)(hk:Nat.blt k N=true)(ho:o.op = .call { callee:=.value y,args:=xs,argTypes:=ats })(hy:evS E y=some (.v (.func (.yield g) #[] #[])))(hx:evSs E xs.toList=some svs)
 (ha:∀G:Nat->Nat,svs.map (SV.den G)=args)(hs:YSpec g args Fy r r1 r0)(hF:∀w,F w->M w->Fy w)(hn:∀t:Bool,tS ro n b ops Q N rest ⟨(k,.v (.bool t))::E,L,(bif t then r1 else r0)::R',F,M⟩):tS ro n b ops Q N (o::rest) ⟨E,L,r::R',F,M⟩:=λa w ⟨G,S,h1,h2,h3⟩=>by
 have hv:a.eval y = .func (.yield g) #[] #[]:=h1.eval (evS_ok hy);have hm:=map_eval (args:=(svs.map (SV.den G)).toArray) (h1.evals _ _ (by rw [evSs_ok hx]));rw [ha G] at hm;obtain⟨S1,S2,k1,k2,kS,kd⟩:=StW.split (own:=[r]) h3;obtain⟨fn,tmps,assign,body,hyr,hR⟩:=hs w S1 (star1.1 k1) ((h3.all.imp λw hw=>hF w hw.1 hw.2).less λk _ hk=>.inr (.inl ((kS k).2 (.inl hk)))) (n-1)
 have hrun:(execOp a.eval o).run Tryz.prog w = .ok (.round g fn tmps assign body) w:=by
  unfold execOp
  simp only [ho,resolve,hv,hm,Deferred.ofValue,aG,aH,aD,invoke]
  simp [hyr]
 unfold wpListIn
 rw [if_pos (by simp [Region.wanted,hg])];refine⟨λ_ _=>trivial,?_⟩;rw [Oper.semAt_eq _ _ _ (λc e=>by rw [ho] at e;cases e),hrun];refine⟨λe=>(by cases e),?_⟩;have hR':RoundIn (FW ro) (n-1) Tryz.prog g fn tmps assign body w _:=hR;refine hR'.mono ?_
 rintro ex w' ⟨t,S',rfl,hc,hr',hS'⟩
 rw [hd];have h5:=h1.put hk (.bool t);exact hn t _ w' ⟨G,λk=>S' k\/S2 k,h5,h2.cons trivial,StW.lent (own:=[r]) (own':=[bif t then r1 else r0]) h3 k2 kS kd hc (star1.2 hr') hS'⟩
abbrev FinR(ro:Option Nat)(n:Nat)(ops:Array Oper)(Q:Exit->Act->World->Prop)(m:Nat):Array Bool->Act->World->Prop:=λlisted a w=>wpAnyIn (FW ro) n Tryz.prog .any ops Q m listed a w
theorem opIn_of[NoOut Q](hd:noDef ops.toList=true){i:Nat}{K K':Act->World->Prop}{a:Act}{w:World}(hK:∀a w,K a w->K' a w)(h:wpOp Tryz.prog ops Q i K a w):wpOpIn (FW ro) n Tryz.prog ops Q i K' a w:=by
 unfold wpOp at h
 unfold wpOpIn
 split
 ·rename_i hn
  rw [hn] at h;exact hK _ _ h
 ·rename_i o ho
  rw [ho] at h
  dsimp only at h
  split
  ·rename_i hw
   rw [if_pos hw] at h;exact op_in (noDef_mem hd (by simpa using jP ho)) (h.imp (tJ hK) id)
  ·rename_i hw
   rw [if_neg hw] at h;exact⟨λ_ _=>trivial,hK _ _ h⟩
theorem anyIn_of_P[NoOut Q](hd:noDef ops.toList=true){p:Nat->Bool}{m:Nat}:∀(fuel:Nat) (listed:Array Bool) (a:Act) (w:World),wpAnyP Tryz.prog ops Q Inv p (FinR ro n ops Q m) fuel listed a w->wpAnyIn (FW ro) n Tryz.prog .any ops Q (m+fuel) listed a w
 | 0,_,_,_,h=>h.2
 | fuel+1,_,_,_,h=>⟨λh0=>absurd h0 h.1,λi hi=>opIn_of hd (λa' w' h'=>anyIn_of_P hd fuel _ a' w' h'.2) (h.2 i hi)⟩
theorem wpAnyIn_forcedJ{l:List Oper}:∀(ks:List Nat) (listed:Array Bool) (a:Act) (w:World),(∀k∈ks,k<l.length)->forcedJ l.toArray ks listed=true ->
  wpListIn (FW ro) n Tryz.prog l.toArray Q (opsJ l ks) a w->wpAnyIn (FW ro) n Tryz.prog .any l.toArray Q ks.length listed a w
 | [],_,_,_,_,hB,h=>⟨by simpa [forcedJ] using hB,h⟩
 | k::ks,listed,a,w,hl,hB,h=>by
  obtain⟨o,ho⟩:∃o,l[k]?=some o:=⟨_,aK (hl k aP)⟩
  have h0:l.toArray[k]?=some o:=by simpa using ho
  simp only [forcedJ,aN,decide_eq_true_eq] at hB;obtain⟨hr,hB'⟩:=hB
  unfold opsJ at h
  rw [ho] at h
  dsimp only at h
  refine⟨λe=>(by rw [hr] at e;cases e),λi hi=>?_⟩;rw [hr,aE] at hi;subst hi;have hl':∀j∈ks,j<l.length:=λj hj=>hl j (List.mem_cons_of_mem _ hj)
  unfold wpOpIn
  simp only [h0]
  unfold wpListIn at h
  split
  ·rename_i hw
   simp only [hw,if_true] at h;exact Oper.wpIn_mono (λa' w' h'=>wpAnyIn_forcedJ ks _ a' w' hl' hB' h') h
  ·rename_i hw
   simp only [hw] at h;exact⟨λ_ _=>trivial,wpAnyIn_forcedJ ks _ _ _ hl' hB' (by simpa using h.2)⟩
theorem p_tailR{ks:List Nat}{listed:Array Bool}(js:List Nat){l l':List Oper}(hB:((Region.ready .any l.toArray listed).all (λj=>ks.all λi=>waitsT .any l.toArray l.toArray.size j i)&&js.all (λk=>decide (k<l.length))&&forcedJ l.toArray js listed)=true)(hl:opsJ l js=l')(h:tS ro n b l.toArray (NoPanic Q) N l' e) :
  pS Tryz.prog b Q N l.toArray Inv (memJ ks) (FinR ro n l.toArray (NoPanic Q) js.length) 0 listed e:=λ_ a w hst _=>by
 subst hl;simp only [aN,cA,decide_eq_true_eq] at hB;refine⟨λj hj i hi=>?_,wpAnyIn_forcedJ js listed a w hB.1.2 hB.2 (h a w hst)⟩;obtain⟨k,hk,e⟩:=List.any_eq_true.1 hi;obtain rfl:=Nat.eq_of_beq_eq_true e;exact hB.1.1 j hj k hk
theorem r_anyP[NoOut Q]{l:List Oper}{id:Nat}(ks:List Nat)(f m:Nat)(Inv:World->Prop)(hm:Tryz.prog.follows .mixedOrders=true)(hn:m+f=l.length)(hd:noDef l=true)(h0:∀a w,St b N e a w->Inv w)(h:pS Tryz.prog b Q N l.toArray Inv (memJ ks) (FinR ro n l.toArray (NoPanic Q) m) f (aX l.toArray.size false) e):rS ro n b (.region id l.toArray true) Q N e:=λa w hst=>by
 refine wpIn_mono (Q:=NoPanic Q) (wpIn_region_any hm ?_) λe a w h=>NoPanic.imp e a w h;obtain⟨G,S,h1,h2,h3⟩:=hst;have hs:St b N e a w.drew:=⟨G,S,h1,h2,h3.drew⟩;have h4:=anyIn_of_P (by simpa using hd) f _ a w.drew (h (Closed.none _) a w.drew hs (h0 a _ hs))
 have e1:m+f=l.toArray.size:=by simpa using hn
 rw [e1] at h4;exact h4
instance{fn:Func}{b:Base}{α:Type}{post:Post α}:NoOut (bodyPost Tryz.prog fn (endS b post)):=⟨λa w hq=>by
  obtain⟨_,_,h,_⟩:=hq
  cases h⟩
theorem s_of_r{c:Code}(h:rS none 0 b c Q N e):cS Tryz.prog b c Q N e:=λa w hs=>(wpIn_wide (n:=0)).1 (h a w hs)
end
def withD(ds:List Deferred)(a:Act):Act:={ a with defers:=a.defers++ds }
theorem put_withD(ds:List Deferred)(a:Act)(d:Option Tmp)(v:Value):(withD ds a).put d v=withD ds (a.put d v):=by cases d<;>rfl
def Qd(ds:List Deferred)(Q:Exit->Act->World->Prop):Exit->Act->World->Prop:=λe a w=>Q e (withD ds a) w
def dS(ds:List Deferred)(b:Base)(c:Code)(Q:Exit->Act->World->Prop)(N:Nat)(e:Env):Prop:=∀a w,St b N e a w->c.wp Tryz.prog Q (withD ds a) w
def kD(ds:List Deferred)(b:Base)(K:Act->World->Prop)(N:Nat)(e:Env):Prop:=∀a w,St b N e a w->K (withD ds a) w
section
variable{P:Program}{ds:List Deferred}{Q:Exit->Act->World->Prop}{ops:Array Oper}
theorem op_withD{o:Oper}{a:Act}{w:World}{next next':Act->World->Prop}(hn:∀a w,next a w->next' (withD ds a) w)(h:o.wp P a w next (Qd ds Q)\/(o.asks P a w/\LetsOut (Qd ds Q))):o.wp P (withD ds a) w next' Q\/(o.asks P (withD ds a) w/\LetsOut Q):=by
 rcases h with h|⟨h1,a',w',h2⟩
 ·refine .inl ?_
  unfold Oper.wp at h ⊢
  have e:(withD ds a).eval=a.eval:=rfl;rw [e];generalize (execOp a.eval o).run P w=r at *
  cases r with
  | ok x w' =>
   cases x with
   | value v =>
    show next' ((withD ds a).put o.dst v) w'
    rw [put_withD];exact hn _ _ h
   | skip =>
    show next' ((withD ds a).put o.dst undef) w'
    rw [put_withD];exact hn _ _ h
   | defer d =>
    have h':next (({ a with defers:=d::a.defers }:Act).put o.dst undef) w':=h;have h2:=hn _ _ h';rw [<-put_withD] at h2;exact h2
   | enter f args =>
    have h':Calls P f args w' _:=h;refine h'.mono λe w'' he=>?_
    cases e with
    | returned v =>
     show next' ((withD ds a).put o.dst v) w''
     rw [put_withD];exact hn _ _ he
    | panicked c=>exact he
    | outgrown =>
     obtain⟨a1,w1,h1⟩:=he;exact⟨_,w1,h1⟩
   | row row args =>
    have h':Rows P row args w' _:=h;refine h'.mono λv w'' he=>?_
    show next' ((withD ds a).put o.dst v) w''
    rw [put_withD];exact hn _ _ he
   | _=>exact h.elim
  | halt x w'=>cases x<;>exact h
 ·exact .inr ⟨h1,_,w',h2⟩
theorem list_withD:∀{l:List Oper} {a:Act} {w:World},wpList P ops (Qd ds Q) l a w->wpList P ops Q l (withD ds a) w
 | [],_,_,h=>h
 | o::l,a,w,h=>by
  unfold wpList at h ⊢
  have e:(withD ds a).tmps=a.tmps:=rfl;rw [e]
  split
  ·rename_i hw
   rw [if_pos hw] at h;exact op_withD (λa' w' h'=>list_withD h') h
  ·rename_i hw
   rw [if_neg hw] at h;rw [put_withD];exact list_withD h
theorem any_withD{md:cT}:∀{fuel:Nat} {listed:Array Bool} {a:Act} {w:World},wpAny P md ops (Qd ds Q) fuel listed a w->wpAny P md ops Q fuel listed (withD ds a) w
 | 0,_,_,_,h=>h
 | fuel+1,listed,a,w,h=>by
  refine⟨h.1,λi hi=>?_⟩;have h2:=h.2 i hi
  unfold wpOp at h2 ⊢
  have e:(withD ds a).tmps=a.tmps:=rfl;rw [e]
  split
  ·rename_i hn
   rw [hn] at h2;exact any_withD h2
  ·rename_i o ho
   rw [ho] at h2
   dsimp only at h2
   split
   ·rename_i hw
    rw [if_pos hw] at h2;exact op_withD (λa' w' h'=>any_withD h') h2
   ·rename_i hw
    rw [if_neg hw] at h2;rw [put_withD];exact any_withD h2
end
section
variable{T:List TyR}{ds:List Deferred}{b:Base}{Q:Exit->Act->World->Prop}{N:Nat}{e e':Env}{E:SE}{L:List LV}{R:List Res}{F M:World->Prop}{id:Nat}{l l':List Oper}{x y:Code}
theorem d_weak{c:Code}(hw:Weak e e')(h:dS ds b c Q N e'):dS ds b c Q N e:=λa w hs=>h a w (hs.weak hw)
theorem d_seq(h:∀K:Act->World->Prop,(∀e',dS ds b y Q N e'->kD ds b K N e')->dS ds b x (Exit.then K Q) N e):dS ds b (.seq x y) Q N e:=λa w hs =>
 wp_seq_k λK hK=>h K (λ_ h' a' w' hs'=>hK _ _ (h' a' w' hs')) a w hs
theorem d_lit(h:lS Tryz.prog b l.toArray (Qd ds Q) N l e):dS ds b (.region id l.toArray false) Q N e:=λa w hs=>wp_region_lit (list_withD (h a w hs))
theorem d_auto{E':SE}{L':List LV}(hT:OkT Tryz.prog T)(h:autoS T l.toArray N l E L=([],E',L'))(hn:dS ds b y Q N ⟨E',L',R,F,M⟩):dS ds b (.seq (.region id l.toArray false) y) Q N ⟨E,L,R,F,M⟩ :=
 d_seq λ_ hK=>d_lit (l_autoS hT h (zJ (hK _ hn)))
theorem d_regA{E':SE}{L':List LV}(hT:OkT Tryz.prog T)(h:autoS T l.toArray N l E L=(l',E',L'))(hn:∀K:Act->World->Prop,(∀e',dS ds b y Q N e'->kD ds b K N e')->lS Tryz.prog b l.toArray (Qd ds (Exit.then K Q)) N l' ⟨E',L',R,F,M⟩):dS ds b (.seq (.region id l.toArray false) y) Q N ⟨E,L,R,F,M⟩ :=
 d_seq λK hK=>d_lit (l_autoS hT h (hn K hK))
theorem d_end{ops:Array Oper}{K:Act->World->Prop}(h:kD ds b K N e):lS Tryz.prog b ops (Qd ds (Exit.then K Q)) N [] e:=λa w hs=>h a w hs
theorem d_drawn(m:Nat)(hn:m<=l.length)(hm:Tryz.prog.follows .mixedOrders=true)(hB:tailH l.toArray m (l.drop m).length=true)
 (h:∀G S w0,StW b G S L R F M w0->gS Tryz.prog b l.toArray (Qd ds Q) N (l.drop m) G w0 (idx 0 (l.take m)) E):dS ds b (.region id l.toArray true) Q N ⟨E,L,R,F,M⟩:=λ_ w ⟨G,S,h1,h2,h3⟩ =>
 wp_region_any hm (any_withD (any_gS m hn hB h1 h2 (h G S w h3)))
theorem d_regD(m:Nat)(hn:m<=l.length)(hm:Tryz.prog.follows .mixedOrders=true)(hB:tailH l.toArray m (l.drop m).length=true)
 (h:∀K:Act->World->Prop,(∀e',dS ds b y Q N e'->kD ds b K N e')->∀G S w0,StW b G S L R F M w0->gS Tryz.prog b l.toArray (Qd ds (Exit.then K Q)) N (l.drop m) G w0 (idx 0 (l.take m)) E):dS ds b (.seq (.region id l.toArray true) y) Q N ⟨E,L,R,F,M⟩ :=
 d_seq λK hK=>d_drawn m hn hm hB (h K hK)
theorem d_no{c:Operand}(hc:evS E c=some (.v (.bool false)))(h1:dS ds b y Q N ⟨E,L,R,F,M⟩):dS ds b (.cond c x y) Q N ⟨E,L,R,F,M⟩:=λa w hs=>by
 have hs':=hs;obtain⟨G,S,h3⟩:=hs;exact wp_cond_false (show(withD ds a).eval c=_ from h3.fr.eval (evS_ok hc)) (h1 a w hs')
theorem d_block{c:Code}(h:dS ds b c (dN id Q) N e):dS ds b (.block id c) Q N e:=λa w hs=>wp_block (h a w hs)
theorem d_skip(h:kD ds b (Q .normal) N e):dS ds b .skip Q N e:=λa w hs=>wp_skip (h a w hs)
theorem d_ret(h:kD ds b (Q .ret) N e):dS ds b .ret Q N e:=λa w hs=>wp_ret (h a w hs)
end
def DefR(D:Nat):Res where
  holds w S:=w.heap[D]?=some (.deferred (some []))/\∀k,S k↔k=D
  keep:=λ⟨h1,h2⟩ hk=>⟨(hk D ((h2 D).2 rfl)).trans h1,h2⟩
  lt:=λ⟨h1,h2⟩ k hk=>by rw [(h2 k).1 hk];exact(Array.getElem?_eq_some_iff.1 h1).1
abbrev dD(D:Nat):Deferred:={ target:=.collected D,args:=#[] }
abbrev bodyM(fn:Func)(R:Ending->World->Prop):Exit->Act->World->Prop:=bodyPostM mE 0 Tryz.prog fn R
theorem chg_putObj(w:World)(l:Nat)(o:Obj):Chg (λk=>k=l) w (w.putObj l o):=⟨rfl,rfl,rfl,by simp,λk _ hn=>World.putObj_heap_other hn⟩
theorem StW.drop{b:Base}{G:Nat->Nat}{S:Nat->Prop}{L:List LV}{r:Res}{R:List Res}{F M:World->Prop}{w w':World}{D:Nat}(h:StW b G S L (r::R) F M w)(hr:∀S1,r.holds w S1->S1 D)(hc:Chg (λk=>k=D) w w'):∃S2,StW b G S2 L R F M w':=by
 obtain⟨S1,S2,h1,h2,h3,h4⟩:=h.res
 have hD:∀k,k=D->S1 k:=λk hk=>by rw [hk];exact hr S1 h1
 have:=h.chgd (R':=R) (S1:=S1) (S2:=S2) (S':=λ_=>False) h3 (hc.mono λk _ hk=>hD k hk) ((h2.keep λk hk=>hc.block k (h2.lt k hk) λe=>h4 k (hD k e) hk).same λk=>⟨.inr,λh=>h.elim False.elim id⟩) λ_ h _=>h.elim;exact⟨_,this⟩
theorem k_retM{b:Base}{fn:Func}{N:Nat}{E:SE}{L:List LV}{R:List Res}{F M:World->Prop}{α:Type}{post:Post α}:∀(Ds:List Nat),kS b (bodyPost Tryz.prog fn (endS b post) .ret) N ⟨E,L,R,F,M⟩->kD (Ds.map dD) b (bodyM fn (endS b post) .ret) N ⟨E,L,Ds.map DefR++R,F,M⟩
 | [],h=>λa w hs=>by
  have h1:=(h a w hs).2
  have e:(withD ([].map dD) a).defers=[]:=by
   obtain⟨G,S,h3⟩:=hs
   show a.defers++[]=[]
   rw [bT];exact h3.fr.defers
  show LeavesInM mE 0 Tryz.prog fn a.tmps (endS b post) (withD ([].map dD) a).defers .returning w
  rw [e];exact h1
 | D::Ds,h=>λa w ⟨G,S,h1,h2,h3⟩=>by
  obtain⟨S1,S2,k1,_⟩:=h3.res;obtain⟨S3,h4⟩:=StW.drop (D:=D) h3 (λS1 hS=>(hS.2 D).2 rfl) (chg_putObj w D (.deferred none));have h5:=k_retM Ds h a _ ⟨G,S3,h1,h2,h4⟩;have e0:a.defers=[]:=h1.defers
  show LeavesInM mE 0 Tryz.prog fn a.tmps (endS b post) (a.defers++dD D::Ds.map dD) .returning w
  have h6:LeavesInM mE 0 Tryz.prog fn a.tmps (endS b post) (a.defers++Ds.map dD) .returning (w.putObj D (.deferred none)):=h5;rw [e0] at h6 ⊢;exact⟨λe=>(by cases e),.inl ⟨D,_,rfl,run_takeDeferred k1.1,h6⟩⟩
theorem spec_D{f:FuncId}{fn:Func}{c:Code}{own:List Res}{F:World->Prop}{α:Type}{post:Post α}(vs:List SQ)(N:Nat)(hf:Tryz.prog.funcs[f]?=some fn)(hb:fn.body=some c)(hn:vs.length+(fn.ntmps-vs.length)=N)(hv:∀v∈vs,v.Ok)
 (h:∀b:Base,dS [] b c (bodyM fn (endS b post)) N ⟨argS 0 vs,[],own,F,λ_=>True⟩):Spec f (vs.map SQ.den) own F post:=λw S X hS hX hF=>by
 refine(callsIn_wide (n:=0)).1 (callsIn_of_wp_marks hf hb trivial ((wpIn_wide (n:=0)).2 ?_) rfl)
 have key:∀a,Fr N (denE (λ_=>0) (argS 0 vs)) a->c.wp Tryz.prog (bodyM fn (endS ⟨X,w,S⟩ post)) a w:=λa ha=>by
  have h1:=h ⟨X,w,S⟩ a w ⟨λ_=>0,S,ha,argS_ok hv,λx hx=>(by cases hx),sV,hS,λx hx=>(by cases hx),?_,λ_ _=>trivial,Chg.refl _ _,λk hk _=>?_,hX⟩
  ·have:withD [] a=a:=by
    unfold withD
    rw [bT]
   rwa [this] at h1
  ·exact hF.less λk _ hk=>hk.imp id λhk=>hk.elim id λ⟨j,hj,_⟩=>by cases hj
  ·exact hk.elim id λ⟨j,hj,_⟩=>by cases hj
 exact key _ (Fr.start (by simpa using hn) _ λk v hk=>by
  rw [argS_den] at hk;have:=(argE_look (vs.map SQ.den) 0 k v hk).2
  simpa using this)
end Go.Proofs.YtlhlkofpjhpaoaaGreatDoor
namespace Go.Proofs.YtlhlkofpjhpaoaaGreatDoor
open Go.RowKit Go.IntWalk Nums
theorem row_at{n:Nat}{l:List UInt8}{j:Nat}(hj:j<l.length):(catP [.agg n (By l).toArray])[0+1*j]?=some (.int .u8 ((l[j]!).toNat:Int)):=by
 rw [aZ,Nat.one_mul]
 show(By l).toArray[j]?=_
 exact By_get hj
theorem div_pow_succ(v i:Nat):v/2^(i+1)=v/2^i/2:=by rw [Nat.pow_succ,Nat.div_div_eq_div_mul]
theorem rbit_S{k:List UInt8}(hk:k.length=32)(n:Nat)(hn:n<256):Spec 37 [(eY 32 k).den,.int .i64 (n:Int)] [] (λ_=>True) (one (.v (.int .i64 ((cK k n:Nat):Int)))):=by
 refine zQ [eY 32 k,.c (.v (.int .i64 (n:Int)))] 23 Tryz.func37 rfl (by rw [Tryz.ntmps37];rfl) (two_ok (eY_ok hk).1 trivial) λb=>?_;refine zA rfl (zC rfl λK hK=>?_);refine l_num 8 ((n/8:Nat):Int) rfl (wrapQ n 8 (by omega)) ?_;refine l_op (.a 2 (0+1*(n/8))) trivial rfl rfl rfl (runO_ixA (n/8) rfl Tryz.underlying45 rfl rfl rfl (by omega)) ?_;refine l_opV (.v (.int .u8 ((k[n/8]!).toNat:Int))) trivial rfl rfl rfl (runO_ldA _ rfl rfl rfl (row_at (by omega)) Tryz.underlying5 rfl) ?_;refine zB rfl ?_;have hlt:=(k[n/8]!).toNat_lt;generalize hv:(k[n/8]!).toNat=v at *;refine l_num 5 (v:Int) rfl (wrapI rfl (by omega) (by omega)) ?_;refine zJ (hK _ ?_);have hrem:IntKind.i64.wrap (7-(n:Int).tmod 8)=((7-n%8:Nat):Int):=wrapI (by rw [iD (by omega)];omega) (by omega) (by omega);refine zM λKl hKl=>?_;refine zA rfl (zN ?_)
 let F:Nat->Env:=λi=>⟨[(6,.v (.int .i64 (i:Int))),(5,.v (.int .i64 ((v/2^i:Nat):Int))),(1,.v (.int .i64 (n:Int)))],[],[],λ_=>True,λ_=>True⟩
 refine c_weak (e':=F 0) ⟨⟨rfl,congrArg some (congrArg SV.v (congrArg (bM .i64) (by rw [Nat.pow_zero,Nat.div_one]))),rfl,trivial⟩,trivial,.refl _,λ_ _ _=>trivial, zU⟩ (s_loop (λi=>7-n%8-i) F (λi=>i<=7-n%8) ?_ 0 (aI _))
 intro i hi
 refine zM λK1 hK1=>?_;refine zA rfl ?_;refine zW ((i:Int)<IntKind.i64.wrap (7-(n:Int).tmod 8)) rfl (λhlt2=>?_) (λhge=>?_)
 ·rw [hrem] at hlt2
  have hil:i<7-n%8:=by omega
  refine zO (hK1 _ (zM λK4 hK4=>?_));refine zN ?_;refine zD rfl ?_;refine hK4 _ ?_;refine zD rfl ?_;have hb:v/2^i<=v:=dU _ _;exact zX (i+1) hil (by omega) ⟨⟨congrArg some (congrArg SV.v (congrArg (bM .i64) (wrapI rfl (by omega) (by omega)))),congrArg some (congrArg SV.v (congrArg (bM .i64) (by rw [div_pow_succ];exact wrapQ (v/2^i) 2 (by omega)))),rfl,trivial⟩,trivial,.refl _,λ_ _ _=>trivial, zU⟩
 ·rw [hrem] at hge
  obtain rfl:i=7-n%8:=by omega
  refine s_exit (zS (zS (k_out ?_)));refine hKl _ ?_;have hb:v/2^(7-n%8)<=v:=dU _ _;refine zA rfl ?_
  have hbit:cK k n=v/2^(7-n%8)%2:=by unfold cK;rw [hv]
  exact zP (k_retD zY () rfl (by decide) rfl (by
   show bM .i64 ((cK k n:Nat):Int)=bM .i64 (((v/2^(7-n%8):Nat):Int).tmod 2)
   exact congrArg (bM .i64) (by rw [hbit];generalize v/2^(7-n%8)=z;rw [iD (Int.natCast_nonneg z)];omega)) trivial rfl (λ_ _ _=>trivial) zU)
theorem lessT_take:∀(i:Nat) {a b:List UInt8},i<a.length->i<b.length->a.take i=b.take i->a[i]! ≠ b[i]! -> cU a b=decide ((a[i]!).toNat<(b[i]!).toNat)
 | _,[],_,h,_,_,_=>by cases h
 | _,_::_,[],_,h,_,_=>by cases h
 | 0,a::p,b::q,_,_,_,h=>by
  have h:a≠b:=h
  show(if a=b then _ else _)=_
  rw [if_neg h]
  rfl
 | i+1,a::p,b::q,ha,hb,ht,h=>by
  simp only [List.take_succ_cons,List.cons.injEq] at ht
  show(if a=b then _ else _)=_
  rw [if_pos ht.1];exact lessT_take i (a:=p) (b:=q) (by simpa using ha) (by simpa using hb) ht.2 h
theorem take_moreT{i:Nat}{a b:List UInt8}(ha:i<a.length)(hb:i<b.length)(ht:a.take i=b.take i)(h:a[i]! = b[i]!):a.take (i+1)=b.take (i+1):=by
 rw [gA ha,gA hb,ht];rw [getElem!_pos a i ha,getElem!_pos b i hb] at h;rw [h]
theorem rless_S{x y:List UInt8}(hx:x.length=32)(hy:y.length=32):Spec 53 [(eY 32 x).den,(eY 32 y).den] [] (λ_=>True) (one (.q (.c (.b (cU x y))))):=by
 refine zQ [eY 32 x,eY 32 y] 24 Tryz.func53 rfl (by rw [Tryz.ntmps53];rfl) (two_ok (eY_ok hx).1 (eY_ok hy).1) λb=>?_;refine zA rfl (zM λK hK=>?_);refine zA rfl (zN ?_)
 let F:Nat->Env:=λi=>⟨[(6,.v (.int .i64 (i:Int))),(2,.a 2 0),(3,.a 3 0)],[⟨3,none,45,[.agg 32 (By y).toArray]⟩,⟨2,none,45,[.agg 32 (By x).toArray]⟩],[],λ_=>True,λ_=>True⟩
 refine c_weak (e':=F 0) ⟨zE rfl, zL rfl rfl, .refl _,λ_ _ _=>trivial, zU⟩ (s_loop (λi=>32-i) F (λi=>i<=32/\x.take i=y.take i) ?_ 0 ⟨aI _,rfl⟩)
 rintro i ⟨hi,ht⟩
 refine zA rfl (zM λK1 hK1=>?_);refine zW ((i:Int)<32) rfl (λhlt=>?_) (λhge=>?_)
 ·have hil:i<32:=by omega
  refine zO (hK1 _ (zM λK2 hK2=>?_));refine zN (zA rfl ?_);refine s_regD 7 (by decide) (by kernel_rfl) (by kernel_rfl) λK3 hK3 G S w0 hst=>?_;refine g_autoS zY hst rfl ?_;refine g_opS (.a 2 (0+1*i)) trivial rfl rfl rfl (runO_ixA i rfl Tryz.underlying45 rfl rfl rfl hil) ?_;refine g_opV hst (.v (.int .u8 ((x[i]!).toNat:Int))) trivial rfl rfl rfl (runO_ldA _ rfl rfl rfl (row_at (by omega)) Tryz.underlying5 rfl) ?_;refine g_autoS zY hst rfl ?_;refine g_opS (.a 3 (0+1*i)) trivial rfl rfl rfl (runO_ixA i rfl Tryz.underlying45 rfl rfl rfl hil) ?_;refine g_opV hst (.v (.int .u8 ((y[i]!).toNat:Int))) trivial rfl rfl rfl (runO_ldA _ rfl rfl rfl (row_at (by omega)) Tryz.underlying5 rfl) ?_;refine g_autoS zY hst rfl ?_;refine g_endS hst ?_;refine zJ (hK3 _ ?_);refine zW (((x[i]!).toNat:Int)≠((y[i]!).toNat:Int)) rfl (λhne=>?_) (λhe=>?_)
  ·have hne:x[i]! ≠ y[i]!:=λe=>hne (by rw [e])
   refine s_regD 7 (by decide) (by kernel_rfl) (by kernel_rfl) λK4 hK4 G S w0 hst=>?_;refine g_autoS zY hst rfl ?_;refine g_opS (.a 2 (0+1*i)) trivial rfl rfl rfl (runO_ixA i rfl Tryz.underlying45 rfl rfl rfl hil) ?_;refine g_opV hst (.v (.int .u8 ((x[i]!).toNat:Int))) trivial rfl rfl rfl (runO_ldA _ rfl rfl rfl (row_at (by omega)) Tryz.underlying5 rfl) ?_;refine g_autoS zY hst rfl ?_;refine g_opS (.a 3 (0+1*i)) trivial rfl rfl rfl (runO_ixA i rfl Tryz.underlying45 rfl rfl rfl hil) ?_;refine g_opV hst (.v (.int .u8 ((y[i]!).toNat:Int))) trivial rfl rfl rfl (runO_ldA _ rfl rfl rfl (row_at (by omega)) Tryz.underlying5 rfl) ?_;refine g_autoS zY hst rfl ?_;refine g_endS hst ?_;refine zB rfl (zJ (hK4 _ ?_))
   exact zP (k_retD zY () rfl (by decide) rfl (by
    rw [lessT_take i (by omega) (by omega) ht hne]
    show Value.bool _=Value.bool _
    congr 1
    exact decide_eq_decide.2 (by omega)) trivial rfl (λ_ _ _=>trivial) zU)
  ·have he:x[i]! = y[i]!:=UInt8.toNat_inj.1 (by omega)
   refine zO (hK2 _ ?_);refine zD rfl ?_;exact zX (i+1) ⟨hil,take_moreT (by omega) (by omega) ht he⟩ (by omega) ⟨⟨congrArg some (congrArg SV.v (congrArg (bM .i64) (wrapI rfl (by omega) (by omega)))),rfl,rfl,trivial⟩,zL rfl rfl, .refl _,λ_ _ _=>trivial, zU⟩
 ·obtain rfl:i=32:=by omega
  have e:x=y:=by
   rw [bG (by omega),bG (by omega)] at ht;exact ht
  refine s_exit (zS (zS (k_out ?_)));refine hK _ ?_;refine zA rfl ?_;exact zP (k_retD zY () rfl (by decide) rfl (by rw [e,cD];rfl) trivial rfl (λ_ _ _=>trivial) zU)
def eP(p:PairT):SQ:=.p [.agg 32 (By p.1).toArray,.agg 32 (By p.2).toArray]
def OkT2(p:PairT):Prop:=p.1.length=32/\p.2.length=32
theorem eP_ok{p:PairT}(h:OkT2 p):OkP (eP p).parts1/\(eP p).cl.length=64:=by
 have h1:(By p.1).toArray.size=32:=by rw [aT,By_len,h.1]
 have h2:(By p.2).toArray.size=32:=by rw [aT,By_len,h.2]
 refine⟨λq hq=>?_,?_⟩
 ·rcases aL.1 hq with rfl|hq
  ·exact⟨h1,By_one p.1⟩
  ·rw [aE.1 hq]
   exact⟨h2,By_one p.2⟩
 ·rw [SQ.cl,Array.length_toList]
  show(catP [Pt.agg 32 (By p.1).toArray,.agg 32 (By p.2).toArray]).size=64
  rw [catP_cons,Array.size_append]
  simp [Pt.cells,catP,By_len,h.1,h.2]
theorem eP_len{p:PairT}(h:OkP (eP p).parts1):OkT2 p:=by
 have h1:=(h (.agg 32 (By p.1).toArray) (by simp [eP,SQ.parts1])).1;have h2:=(h (.agg 32 (By p.2).toArray) (by simp [eP,SQ.parts1])).1;rw [aT,By_len] at h1 h2;exact⟨h1,h2⟩
abbrev PX:=Option Addr×Nat
theorem rootT_len:∀(r:Nat) (l:List PairT),(dX r l).length=32
 | r,[]=>by rw [kE];rfl
 | r,[p]=>by rw [jA];exact digest256_len _
 | 0,_::_::_=>rfl
 | r+1,p::q::l=>by rw [kW (by simp)];exact digest256_len _
theorem runO_allQ{P:Program}{N:Nat}{E:SE}{o:Oper}{x:Operand}{t e:TypeId}{g off n sz:Nat}(ho:o.op = .slice t x none none none)(ht:P.underlying t=some (.array n e))(he:(P.info? e).map (·.size)=some sz)(hx:evS E x=some (.v (.pointer (some ⟨g,off,none⟩)))) :
  ∀(G:Nat->Nat) (a:Act) (w:World),Fr N (denE G E) a->(execOp a.eval o).run P w = .ok (.value ((SV.v (.slice (some ⟨g,off,none⟩) n n)).den G)) w:=λG a w ha=>by
 have h1:a.eval x = .pointer (some ⟨g,off,none⟩):=ha.eval (evS_ok hx);have h5:=run_sizeOf he w
 unfold execOp
 simp only [ho];generalize a.eval=ρ at *;simp only [Option.map,h1]
 show _=Result.ok (Next.value (.slice (some ⟨g,off,none⟩) n n)) w
 simp [Instr.sliceAt,Instr.sureAddr,run_underlying ht,Instr.sliceBounds,h5,aG,dA]
theorem eP_cl(p:PairT):(eP p).cl=By p.1++By p.2:=by
 show(catP [Pt.agg 32 (By p.1).toArray,.agg 32 (By p.2).toArray]).toList=_
 rw [catP_cons]
 simp [Pt.cells,catP]
theorem rd_pair{g o c i:Nat}{l:List PairT}{p:PairT}{w:World}(h:Rd 64 eP (some ⟨g,o,none⟩) c l w)(hi:l[i]?=some p)(hp:OkT2 p) :
  SB w (.slice (some ⟨g,o+64*i,none⟩) 32 32) p.1/\SB w (.slice (some ⟨g,o+64*i+32,none⟩) 32 32) p.2:=by
 obtain⟨_,_,_,_,h5⟩:=h;obtain⟨b',o',e,hb,hr⟩:=h5 (dP (aI _) (bA.1 hi).1)
 injection e with e
 injection e with e1 e2
 subst e1;subst e2;have hr:=hr i p hi;rw [eP_cl] at hr
 have hl1:(By p.1).length=32:=by rw [By_len];exact hp.1
 refine⟨⟨_,_,by rw [hp.1],by rw [hp.1];exact aF _,by decide,λh=>(by cases h),λ_=>⟨_,rfl,aI _,hb,λj x hx=>?_⟩⟩,⟨_,_,by rw [hp.2],by rw [hp.2];exact aF _,by decide,λh=>(by cases h),λ_=>⟨_,rfl,aI _,hb,λj x hx=>?_⟩⟩⟩
 ·have hj:j<32:=by rw [<-hp.1];exact(bA.1 hx).1
  rw [dA];refine hr j _ ?_;rw [List.getElem?_append_left (by omega)]
  simp [By,hx]
 ·rw [dA,Nat.add_assoc (o+64*i)]
  refine hr (32+j) _ ?_;rw [cG (by omega),hl1,Nat.add_sub_cancel_left]
  simp [By,hx]
theorem take_filter{α:Type}(f:α->Bool){l:List α}{i:Nat}{x:α}(hx:l[i]?=some x):(l.take (i+1)).filter f=(l.take i).filter f++(if f x then [x] else []):=by
 rw [List.take_add_one,hx,List.filter_append]
 simp [List.filter_cons]
theorem rroot_S:∀(r:Nat) (l:List PairT) (A:Option Addr) (c:Nat),r<=256->l.length<=1000000->cV l->dO (256-r) l->Spec 36 [.slice A l.length c,.int .i64 ((256-r:Nat):Int)] [] (Rd 64 eP A c l) (one (.q (eY 32 (dX r l)))):=by
 intro r
 induction r using Nat.strongRecOn with
 | ind r ih =>
 intro l A c hr hl hs hsh
 refine zQ [.c (.v (.slice A l.length c)),.c (.v (.int .i64 ((256-r:Nat):Int)))] 62 Tryz.func36 rfl (by rw [Tryz.ntmps36];rfl) (two_ok trivial trivial) λb=>?_;refine s_pure (∀x∈l,OkT2 x) (λ_ h _=>λx hx=>eP_len (h.2.2.2.1 x hx).1) λhok=>?_;refine zA rfl (zM λK hK=>?_);refine zA rfl ?_;refine zW ((l.length:Int)=0) rfl (λh0=>?_) (λh0=>?_)
 ·obtain rfl:l=[]:=List.eq_nil_of_length_eq_zero (by omega)
  refine zA rfl ?_;exact zP (k_retD zY () rfl (by decide) rfl (by rw [kE];rfl) (by rw [kE];exact(eY_ok (n:=32) (l:=dJ) rfl).1) rfl (λ_ _ _=>trivial) zU)
 refine zO (hK _ (zM λK1 hK1=>?_));refine zA rfl ?_;refine zW ((l.length:Int)=1) rfl (λh1=>?_) (λh1=>?_)
 ·obtain⟨p,rfl⟩:∃p,l=[p]:=List.length_eq_one_iff.1 (by omega)
  have hp:OkT2 p:=hok p aP;refine s_pure (∃g o,A=some ⟨g,o,none⟩) (λ_ h _=>by obtain⟨g,o,e,_⟩:=h.2.2.2.2 (by simp);exact⟨g,o,e⟩) λ⟨g,o,hA⟩=>?_;subst hA;refine zM λK2 hK2=>?_;refine s_any 9 [] (by kernel_rfl) (by decide) (λ_ _ _ _ h=>by cases h) ?_;refine a_front zY 1 (by kernel_rfl) rfl rfl rfl rfl rfl rfl (λ_ h=>by cases h) ?_;refine a_frontO (.v (.pointer (some ⟨g,o+64*0,none⟩))) trivial 2 (by kernel_rfl) rfl rfl rfl rfl rfl (runO_ixS 0 rfl Tryz.underlying57 rfl rfl rfl Nat.zero_lt_one) ?_;refine a_front zY 3 (by kernel_rfl) rfl rfl rfl rfl rfl rfl (λ_ h=>by cases h) ?_;refine a_frontO (.v (.slice (some ⟨g,o+64*0+0,none⟩) 32 32)) trivial 4 (by kernel_rfl) rfl rfl rfl rfl rfl (runO_allQ rfl Tryz.underlying45 rfl rfl) ?_;refine a_front zY 5 (by kernel_rfl) rfl rfl rfl rfl rfl rfl (λ_ h=>by cases h) ?_;refine a_frontO (.v (.pointer (some ⟨g,o+64*0,none⟩))) trivial 6 (by kernel_rfl) rfl rfl rfl rfl rfl (runO_ixS 0 rfl Tryz.underlying57 rfl rfl rfl Nat.zero_lt_one) ?_;refine a_front zY 7 (by kernel_rfl) rfl rfl rfl rfl rfl rfl (λ_ h=>by cases h) ?_;refine a_frontO (.v (.slice (some ⟨g,o+64*0+32,none⟩) 32 32)) trivial 8 (by kernel_rfl) rfl rfl rfl rfl rfl (runO_allQ rfl Tryz.underlying45 rfl rfl) ?_;refine a_step 0 (by kernel_rfl) rfl λK3 hK3=>?_;refine l_list zY b.B.heap.size [(0:UInt8)] rfl rfl rfl rfl rfl (λ_=>rfl) rfl (by decide) (by decide) (okF_B _) (aF _) λB=>?_;refine zJ (hK3 _ (λ_ _ _ _ h=>by cases h) ?_);refine a_tail (by kernel_rfl) ?_;refine l_dig zY [.v (.slice B 1 1),.v (.slice (some ⟨g,o+64*0+0,none⟩) 32 32),.v (.slice (some ⟨g,o+64*0+32,none⟩) 32 32)] [[0],p.1,p.2] (g6 p) rfl rfl rfl rfl rfl rfl rfl rfl rfl (λ_ _=>by go_simp) (λ_=>rfl) rfl (by decide) (by decide) (digest256_len _) (λA w h _ _=>?_) (λG S w h=>?_) λB2=>?_
  ·have hr2:=rsum_f A [[0],p.1,p.2] 3 (by simp) (by simp [hp.1,hp.2]) w h
   simpa [g6] using hr2
  ·have h1:=rd_pair (i:=0) h.fact rfl hp
   have h2:Rd 1 eB B 1 [0] w:=rd_own 0 rfl G S w h;exact⟨h2.sb,h1.1,h1.2,trivial⟩
  refine zB rfl (zJ (hK2 _ ?_));refine s_free 0 rfl ?_;exact zP (k_retD zY () rfl (by decide) rfl (by rw [jA];rfl) (by rw [jA];exact(eY_ok (n:=32) (digest256_len _)).1) rfl (λ_ _ _=>trivial) zU)
 have h2:2<=l.length:=by omega
 have hk:gL l:=λx hx=>(hok x hx).1
 obtain⟨q,rfl⟩:∃q,r=q+1:=⟨r-1,by
  by_cases e:r=0
  ·subst e
   have:=dO.one hs hk hsh
   omega
  ·omega⟩
 have hq1:256-q=256-(q+1)+1:=by omega
 have hroot:dX (q+1) l=fF (dX q (bS (256-(q+1)) l)) (dX q (bC (256-(q+1)) l)):=by
  rw [kW h2,show 255-q=256-(q+1) by omega]
 have ihL:=λB e=>ih q (by omega) (bS (256-(q+1)) l) B e (by omega) (b8 (cZ _ _) hl) (hs.filter _) (by rw [hq1];exact hsh.left);have ihR:=λB e=>ih q (by omega) (bC (256-(q+1)) l) B e (by omega) (b8 (cZ _ _) hl) (hs.filter _) (by rw [hq1];exact hsh.right);rw [hq1] at ihL ihR
 have hd:256-(q+1)<256:=by omega
 clear ih hsh hq1;generalize 256-(q+1)=d at *;refine zO (hK1 _ (zA rfl ?_));refine s_nil0 b.B.heap.size 96 64 eP ?_;refine s_nil0 b.B.heap.size 96 64 eP ?_;refine zM λK2 hK2=>?_;refine zA rfl (zN ?_)
 let F:Nat×Option Addr×Nat×Option Addr×Nat->Env:=λ⟨i,B1,e1,B2,e2⟩=>⟨[(31,.v (.int .i64 (i:Int))),(30,.v (.int .i64 (l.length:Int))),(29,.v (.slice A l.length c)),(1,.v (.int .i64 (d:Int))),(5,.v (.slice B1 (bS d (l.take i)).length e1)),(6,.v (.slice B2 (bC d (l.take i)).length e2)),(4,.a 4 0)],[⟨4,none,45,[.agg 32 (By dJ).toArray]⟩],[OwnS b.B.heap.size 96 64 eP B1 e1 (bS d (l.take i)),OwnS b.B.heap.size 96 64 eP B2 e2 (bC d (l.take i))],Rd 64 eP A c l,λ_=>True⟩
 refine c_weak (e':=F (0,none,0,none,0)) ⟨zE rfl, zL rfl rfl, .refl _,λ_ h _=>h, zU⟩ (s_loop (λx=>l.length-x.1) F (λx=>x.1<=l.length) ?_ (0,none,0,none,0) (aI _))
 rintro⟨i,B1,e1,B2,e2⟩ hi
 dsimp only at hi
 refine zA rfl (zM λK3 hK3=>?_);refine zW ((i:Int)<(l.length:Int)) rfl (λhlt=>?_) (λhge=>?_)
 ·have hlt:i<l.length:=by omega
  obtain⟨x,hx⟩:∃x,l[i]?=some x:=⟨_,aK hlt⟩;have hx2:=hok x (List.mem_of_getElem? hx);have hL:=take_filter (λx:PairT=>cK x.1 d==0) hx;have hR:=take_filter (λx:PairT=>cK x.1 d != 0) hx;have lL:(bS d (l.take i)).length<=1000000:=b8 (cZ _ _) (by rw [aU];omega);have lR:(bC d (l.take i)).length<=1000000:=b8 (cZ _ _) (by rw [aU];omega);refine zO (hK3 _ (zM λK4 hK4=>?_));refine zN (zC rfl λK5 hK5=>?_);refine l_elem zY rfl rfl rfl i rfl hx rfl rfl (rd_fact λ_ h _=>h) ?_;refine zB rfl (zJ (hK5 _ ?_));refine zC rfl λK6 hK6=>?_;refine l_call0 [.agg (By x.1).toArray,.int .i64 (d:Int)] rfl rfl rfl (λ_ _=>by go_simp) rfl rfl (λ_ _=>rfl) (rbit_S hx2.1 d hd) (λ_ _ _=>trivial) λ_=>?_;refine zB rfl (zJ (hK6 _ ?_));refine zW (((cK x.1 d:Nat):Int)=0) rfl (λhb=>?_) (λhb=>?_)
  ·have hb:cK x.1 d=0:=by omega
   have eL:bS d (l.take (i+1))=bS d (l.take i)++[x]:=by simpa [hb,bS] using hL
   have eR:bC d (l.take (i+1))=bC d (l.take i):=by simpa [hb,bC] using hR
   refine s_lit (zB rfl ?_);refine l_push zY 0 x rfl rfl rfl rfl rfl rfl rfl (eP_ok hx2) (by decide) (by decide) (by show(_+1)*64<=_;omega) (by omega) (aF _) λB3 e3=>?_;rw [<-eL];refine zB rfl (zJ (hK4 _ ?_));rw [<-eR];refine zD rfl ?_;exact zX (i+1,B3,e3,B2,e2) hlt (by show l.length-(i+1)<l.length-i;omega) ⟨⟨congrArg some (congrArg SV.v (congrArg (bM .i64) (wrapI rfl (by omega) (by omega)))),rfl,rfl,rfl,rfl,rfl,rfl,trivial⟩,⟨rfl,rfl,trivial⟩,.refl _,λ_ h _=>h.2, zU⟩
  ·have hb:cK x.1 d≠0:=by omega
   have eL:bS d (l.take (i+1))=bS d (l.take i):=by simpa [hb,bS] using hL
   have eR:bC d (l.take (i+1))=bC d (l.take i)++[x]:=by simpa [hb,bC] using hR
   refine s_lit (zB rfl ?_);refine l_push zY 1 x rfl rfl rfl rfl rfl rfl rfl (eP_ok hx2) (by decide) (by decide) (by show(_+1)*64<=_;omega) (by omega) (aF _) λB3 e3=>?_;rw [<-eR];refine zB rfl (zJ (hK4 _ ?_));rw [<-eL];refine zD rfl ?_;exact zX (i+1,B1,e1,B3,e3) hlt (by show l.length-(i+1)<l.length-i;omega) ⟨⟨congrArg some (congrArg SV.v (congrArg (bM .i64) (wrapI rfl (by omega) (by omega)))),rfl,rfl,rfl,rfl,rfl,rfl,trivial⟩,⟨rfl,rfl,trivial⟩,.refl _,λ_ h _=>h.2, zU⟩
 ·obtain rfl:i=l.length:=by omega
  refine s_exit (zS (zS (k_out ?_)));refine hK2 _ ?_;rw [List.take_length];refine s_freeM 1 rfl (aF _) ?_;refine s_freeM 0 rfl (aF _) ?_;refine zC rfl λK5 hK5=>?_;have hd1:IntKind.i64.wrap ((d:Int)+1)=((d+1:Nat):Int):=wrapI (by omega) (by omega) (by omega);refine l_num 51 ((d+1:Nat):Int) rfl hd1 ?_;refine l_call0 [.slice B1 (bS d l).length e1,.int .i64 ((d+1:Nat):Int)] rfl rfl rfl (λ_ _=>by go_simp) rfl rfl (λ_ _=>rfl) (ihL B1 e1) (λ_ _ h=>h.1) λ_=>?_;refine zB rfl ?_;refine l_num 55 ((d+1:Nat):Int) rfl hd1 ?_;refine l_call0 [.slice B2 (bC d l).length e2,.int .i64 ((d+1:Nat):Int)] rfl rfl rfl (λ_ _=>by go_simp) rfl rfl (λ_ _=>rfl) (ihR B2 e2) (λ_ _ h=>h.2.2.1) λ_=>?_;refine zB rfl (zJ (hK5 _ ?_));have x32:=rootT_len q (bS d l);have y32:=rootT_len q (bC d l);generalize dX q (bS d l)=x at *;generalize dX q (bC d l)=y at *;refine zM λK6 hK6=>?_;refine s_any 3 [] (by kernel_rfl) (by decide) (λ_ _ _ _ h=>by cases h) ?_;refine a_frontO (.s 9 0 32 32) trivial 1 (by kernel_rfl) rfl rfl rfl rfl rfl (runO_all rfl Tryz.underlying45 rfl rfl) ?_;refine a_frontO (.s 10 0 32 32) trivial 2 (by kernel_rfl) rfl rfl rfl rfl rfl (runO_all rfl Tryz.underlying45 rfl rfl) ?_;refine a_step 0 (by kernel_rfl) rfl λK7 hK7=>?_;refine l_list zY b.B.heap.size [(1:UInt8)] rfl rfl rfl rfl rfl (λ_=>rfl) rfl (by decide) (by decide) (okF_B _) (aF _) λB=>?_;refine zJ (hK7 _ (λ_ _ _ _ h=>by cases h) ?_);refine a_tail (by kernel_rfl) ?_;refine l_dig zY [.v (.slice B 1 1),.s 9 0 32 32,.s 10 0 32 32] [[1],x,y] (fF x y) rfl rfl rfl rfl rfl rfl rfl rfl rfl (λ_ _=>by go_simp) (λ_=>rfl) rfl (by decide) (by decide) (digest256_len _) (λA w h _ _=>?_) (λG S w h=>?_) λB3=>?_
  ·have hr2:=rsum_f A [[1],x,y] 3 (by simp) (by simp [x32,y32]) w h
   simpa [fF] using hr2
  ·have hB:Rd 1 eB B 1 [1] w:=rd_own 0 rfl G S w h
   exact⟨hB.sb,sb_var (j:=9) rfl x32 (by decide) G S w h,sb_var (j:=10) rfl y32 (by decide) G S w h,trivial⟩
  refine zB rfl (zJ (hK6 _ ?_));refine s_free 0 rfl ?_;exact zP (zR zY () rfl (by decide) rfl (congrArg (λz=>RV.q (eY 32 z)) hroot) rfl (λ_ _ _=>trivial) zU)
inductive TA where
  | nil
  | leaf (g h:Nat) (p:PairT)
  | node (g:Nat) (a b:TA)
namespace TA
def ptr:TA->Option Nat
  | nil=>none
  | leaf g _ _=>some g
  | node g _ _=>some g
def root:TA->List UInt8
  | nil=>dJ
  | leaf _ _ p=>g6 p
  | node _ a b=>fF a.root b.root
def len:TA->Nat
  | nil=>0
  | leaf _ _ _=>1
  | node _ a b=>a.len+b.len
def val(t:TA):Value:=.pointer (t.ptr.map λg=>⟨g,0,none⟩)
def all:TA->List PairT
  | nil=>[]
  | leaf _ _ p=>[p]
  | node _ a b=>a.all++b.all
end TA
def prPs(p:PairT):List Pt:=[.agg 32 (By p.1).toArray,.agg 32 (By p.2).toArray]
def lfPs(h:Nat)(p:PairT):List Pt:=[.agg 32 (By (g6 p)).toArray,.one (.v (.int .i64 1)),.one (.v (.pointer (some ⟨h,0,none⟩))),.agg 2 #[.pointer none,.pointer none]]
def ndPs(a b:TA):List Pt:=[.agg 32 (By (fF a.root b.root)).toArray,.one (.v (.int .i64 ((a.len+b.len:Nat):Int))),.one (.v (.pointer none)),.agg 2 #[a.val,b.val]]
def TF:TA->World->Prop
  | .nil,_=>True
  | .leaf g h p,w=>ObjF g 139 (lfPs h p) w/\ObjF h 135 (prPs p) w
  | .node g a b,w=>ObjF g 139 (ndPs a b) w/\TF a w/\TF b w
theorem TF.later:∀{t:TA} {w w':World},TF t w->Below w.heap.size w w'->TF t w'
 | .nil,_,_,_,_=>trivial
 | .leaf _ _ _,_,_,h,k=>⟨⟨h.1.1.later k,h.1.2⟩,⟨h.2.1.later k,h.2.2⟩⟩
 | .node _ _ _,_,_,h,k=>⟨⟨h.1.1.later k,h.1.2⟩,h.2.1.later k,h.2.2.later k⟩
instance{t:TA}:Pst (TF t):=⟨λ_ _ h k=>h.later k⟩
theorem TA.root_len:∀t:TA,t.root.length=32
 | .nil=>rfl
 | .leaf _ _ _=>digest256_len _
 | .node _ _ _=>digest256_len _
def TOk:Nat->List PairT->TA->Prop
  | _,l,.nil=>l=[]
  | _,l,.leaf _ _ p=>l=[p]
  | 0,_,.node _ _ _=>False
  | r+1,l,.node _ a b=>2<=l.length/\TOk r (bS (255-r) l) a/\TOk r (bC (255-r) l) b
theorem TOk.root:∀{r:Nat} {l:List PairT} {t:TA},TOk r l t->t.root=dX r l
 | r,l,.nil,h=>by
  have h:l=[]:=by cases r<;>exact h
  subst h;exact(kE r).symm
 | r,l,.leaf _ _ p,h=>by
  have h:l=[p]:=by cases r<;>exact h
  subst h;exact(jA r p).symm
 | 0,_,.node _ _ _,h=>h.elim
 | r+1,l,.node _ a b,h=>by
  obtain⟨h1,h2,h3⟩:=h;rw [kW h1,<-h2.root,<-h3.root]
  rfl
theorem sides_len(d:Nat)(l:List PairT):(bS d l).length+(bC d l).length=l.length:=by
 unfold bS bC
 induction l with
 | nil=>rfl
 | cons x l ih =>
  by_cases h:cK x.1 d=0
  ·simp [h] at ih ⊢
   omega
  ·simp [h] at ih ⊢
   omega
theorem TOk.len:∀{r:Nat} {l:List PairT} {t:TA},TOk r l t->t.len=l.length
 | r,l,.nil,h=>by
  have h:l=[]:=by cases r<;>exact h
  subst h
  rfl
 | r,l,.leaf _ _ p,h=>by
  have h:l=[p]:=by cases r<;>exact h
  subst h
  rfl
 | 0,_,.node _ _ _,h=>h.elim
 | r+1,l,.node _ a b,h=>by
  obtain⟨h1,h2,h3⟩:=h;have:=sides_len (255-r) l
  show a.len+b.len=_
  rw [h2.len,h3.len,this]
theorem low1T(m:Nat)(h:m<256):bits .and .u8 (m:Int) 1=((m%2:Nat):Int):=by
 have key:∀m:Nat,m<256->bits .and .u8 (m:Int) 1=((m%2:Nat):Int):=by decide +kernel
 exact key m h
theorem run_shr8{N:Nat}{E:SE}{o:Oper}{x y:Operand}{t':TypeId}{m n:Nat}(hn:n<=8)(ho:o.op = .binOp .shr 5 x y t')(hx:evS E x=some (.v (.int .u8 (m:Int))))(hy:evS E y=some (.v (.int .u8 (n:Int)))) :
  ∀(G:Nat->Nat) (a:Act) (w:World),Fr N (denE G E) a->(execOp a.eval o).run Tryz.prog w = .ok (.value ((SV.v (.int .u8 ((m/2^n:Nat):Int))).den G)) w:=λG a w ha=>by
 have h1:a.eval x = .int .u8 (m:Int):=ha.eval (evS_ok hx);have h2:a.eval y = .int .u8 (n:Int):=ha.eval (evS_ok hy)
 have h3:(n:Int)<=8:=by omega
 unfold execOp
 simp only [ho,h1,h2]
 go_simp
 rfl
theorem run_and8{N:Nat}{E:SE}{o:Oper}{x y:Operand}{t':TypeId}{m n:Int}(ho:o.op = .binOp .and 5 x y t')(hx:evS E x=some (.v (.int .u8 m)))(hy:evS E y=some (.v (.int .u8 n))) :
  ∀(G:Nat->Nat) (a:Act) (w:World),Fr N (denE G E) a->(execOp a.eval o).run Tryz.prog w = .ok (.value ((SV.v (.int .u8 (bits .and .u8 m n))).den G)) w:=λG a w ha=>by
 have h1:a.eval x = .int .u8 m:=ha.eval (evS_ok hx);have h2:a.eval y = .int .u8 n:=ha.eval (evS_ok hy)
 unfold execOp
 simp only [ho,h1,h2]
 go_simp
 rfl
theorem wrapB{m r:Int}(h:m=r)(h1:0<=r)(h2:r<256):IntKind.u8.wrap m=r:=by
 subst h
 unfold IntKind.wrap
 simp [IntKind.bits,IntKind.signed]
 omega
theorem own_tbit:Own 112:=λ_ _=>by go_simp
theorem tbit_S{k:List UInt8}(hk:k.length=32)(n:Nat)(hn:n<256):Spec 112 [(eY 32 k).den,.int .u8 (n:Int)] [] (λ_=>True) (one (.v (.int .u8 ((cK k n:Nat):Int)))):=by
 refine zQ [eY 32 k,.c (.v (.int .u8 (n:Int)))] 14 Tryz.func112 rfl (by rw [Tryz.ntmps112];rfl) (two_ok (eY_ok hk).1 trivial) λb=>?_;refine zA rfl (zC rfl λK hK=>?_);refine l_num 6 ((n/8:Nat):Int) rfl (wrapB (by rw [Int.tdiv_eq_ediv_of_nonneg (by omega)];omega) (by omega) (by omega)) ?_;refine l_op (.a 2 (0+1*(n/8))) trivial rfl rfl rfl (runO_ixA (n/8) rfl Tryz.underlying45 rfl rfl rfl (by omega)) ?_;refine l_opV (.v (.int .u8 ((k[n/8]!).toNat:Int))) trivial rfl rfl rfl (runO_ldA _ rfl rfl rfl (row_at (by omega)) Tryz.underlying5 rfl) ?_;have hlt:=(k[n/8]!).toNat_lt;have hb:cK k n=(k[n/8]!).toNat/2^(7-n%8)%2:=rfl;generalize (k[n/8]!).toNat=v at *;refine zB rfl ?_;refine l_num 11 ((7-n%8:Nat):Int) rfl (wrapB (by rw [iD (by omega)];omega) (by omega) (by omega)) ?_;refine l_op (.v (.int .u8 ((v/2^(7-n%8):Nat):Int))) trivial rfl rfl rfl (run_shr8 (by omega) rfl rfl rfl) ?_;have h2:v/2^(7-n%8)<256:=dP (dU _ _) hlt;generalize v/2^(7-n%8)=z at *;refine l_op (.v (.int .u8 (bits .and .u8 (z:Int) 1))) trivial rfl rfl rfl (run_and8 rfl rfl rfl) ?_;refine l_num 13 ((z%2:Nat):Int) rfl (low1T z h2) ?_;refine zB rfl (zJ (hK _ ?_));exact zP (zR zY () rfl (by decide) rfl (congrArg (λx:Nat=>RV.v (.int .u8 (x:Int))) hb) rfl (λ_ _ _=>trivial) zU)
theorem tsize_S(t:TA):Spec 45 [t.val] [] (TF t) (one (.v (.int .i64 (t.len:Int)))):=by
 refine zQ [.c (.v t.val)] 9 Tryz.func45 rfl (by rw [Tryz.ntmps45];rfl) (one_ok trivial) λb=>?_;refine zA rfl (zM λK hK=>?_)
 cases t with
 | nil =>
  refine zA rfl ?_;refine s_yes rfl ?_;refine zA rfl ?_;exact zP (zR zY () rfl (by decide) rfl rfl rfl (λ_ _ _=>trivial) zU)
 | leaf g h p =>
  refine zA rfl ?_;refine s_no rfl ?_;refine zO (hK _ (zC rfl λK2 hK2=>?_));refine l_ldO zY rfl rfl rfl rfl rfl rfl (obj_fact λ_ h _=>h.1) ?_;refine zB rfl (zJ (hK2 _ ?_));exact zP (zR zY () rfl (by decide) rfl rfl rfl (λ_ _ _=>trivial) zU)
 | node g x y =>
  refine zA rfl ?_;refine s_no rfl ?_;refine zO (hK _ (zC rfl λK2 hK2=>?_));refine l_ldO zY rfl rfl rfl rfl rfl rfl (obj_fact λ_ h _=>h.1) ?_;refine zB rfl (zJ (hK2 _ ?_));exact zP (zR zY () rfl (by decide) rfl rfl rfl (λ_ _ _=>trivial) zU)
theorem thash_S(t:TA):Spec 54 [t.val] [] (TF t) (one (.q (eY 32 t.root))):=by
 refine zQ [.c (.v t.val)] 10 Tryz.func54 rfl (by rw [Tryz.ntmps54];rfl) (one_ok trivial) λb=>?_;refine zA rfl (zM λK hK=>?_)
 cases t with
 | nil =>
  refine zA rfl ?_;refine s_yes rfl ?_;refine zA rfl ?_;exact zP (zR zY () rfl (by decide) rfl rfl rfl (λ_ _ _=>trivial) zU)
 | leaf g h p =>
  refine zA rfl ?_;refine s_no rfl ?_;refine zO (hK _ (zC rfl λK2 hK2=>?_));refine l_ldO zY rfl rfl rfl rfl rfl rfl (obj_fact λ_ h _=>h.1) ?_;refine zB rfl (zJ (hK2 _ ?_));exact zP (zR zY () rfl (by decide) rfl rfl rfl (λ_ _ _=>trivial) zU)
 | node g x y =>
  refine zA rfl ?_;refine s_no rfl ?_;refine zO (hK _ (zC rfl λK2 hK2=>?_));refine l_ldO zY rfl rfl rfl rfl rfl rfl (obj_fact λ_ h _=>h.1) ?_;refine zB rfl (zJ (hK2 _ ?_));exact zP (zR zY () rfl (by decide) rfl rfl rfl (λ_ _ _=>trivial) zU)
end Go.Proofs.YtlhlkofpjhpaoaaGreatDoor
namespace Go.Proofs.YtlhlkofpjhpaoaaGreatDoor
open Go.RowKit Go.IntWalk Nums
section
variable{P:Program}{b:Base}{ops:Array Oper}{Q:Exit->Act->World->Prop}{N:Nat}{E E':SE}{L:List LV}{R:List Res}{F M:World->Prop}{g:Nat}{t:TypeId}{ps:List Pt}
theorem StW.objOut{G:Nat->Nat}{S:Nat->Prop}{w:World}(h:StW b G S L R F M w){i:Nat}(hi:R[i]?=some (ObjS g t ps)):∃S',StW b G S' L (R.eraseIdx i) (λw=>ObjF g t ps w/\F w) M w:=by
 obtain⟨S1,S2,h1,h2,h3,h4⟩:=h.let hi;refine⟨S2,h4.and λw' hw=>⟨?_,h1.1.2⟩⟩;have hg:S1 g:=(h1.2 g).2 rfl;have hlt:=h1.1.1.lt
 have hnot:¬Dof b.X S2 G L g:=by
  rintro(hx|hx|⟨j,hj,e⟩)
  ·obtain⟨hx1,hx2⟩:=h.old g hx
   exact hx2 (h.mine g (.inl ((h3 g).2 (.inl hg))) hx1)
  ·exact h2 g hg hx
  ·exact h.sep j hj (by rw [e];exact(h3 g).2 (.inl hg))
 exact(hw.block g hlt hnot).trans h1.1.1
theorem k_objOut{K:Act->World->Prop}(i:Nat)(hi:R[i]?=some (ObjS g t ps))(h:kS b K N ⟨E,L,R.eraseIdx i,λw=>ObjF g t ps w/\F w,M⟩):kS b K N ⟨E,L,R,F,M⟩:=λa w ⟨G,S,h1,h2,h3⟩=>by
 obtain⟨S',h4⟩:=h3.objOut hi;exact h a w ⟨G,S',h1,h2,h4⟩
theorem l_objOut{l:List Oper}(i:Nat)(hi:R[i]?=some (ObjS g t ps))(h:lS P b ops Q N l ⟨E,L,R.eraseIdx i,λw=>ObjF g t ps w/\F w,M⟩):lS P b ops Q N l ⟨E,L,R,F,M⟩:=λa w ⟨G,S,h1,h2,h3⟩=>by
 obtain⟨S',h4⟩:=h3.objOut hi;exact h a w ⟨G,S',h1,h2,h4⟩
theorem l_give{l:List Oper}{y:LV}(i:Nat)(hx:lookS E i=some (.a y.j 0))(hs:SubS E' E)(h:∀g,lS P b ops Q N l ⟨(i,.v (.pointer (some ⟨g,0,none⟩)))::E',L,ObjS g y.t y.ps::R,F,M⟩):lS P b ops Q N l ⟨E,y::L,R,F,M⟩:=k_give (K:=λa w=>wpList P ops Q l a w) i hx hs h
end
instance:Pst Tsh:=⟨λ_ _ h hb=>h.below hb⟩
theorem own_tsum:Own 63:=λ_ _=>by go_simp
theorem own_tinner:Own 113:=λ_ _=>by go_simp
theorem prPs_ok{p:PairT}(h:OkP (prPs p)):OkT2 p:=by
 have h1:=(h (.agg 32 (By p.1).toArray) (by simp [prPs])).1;have h2:=(h (.agg 32 (By p.2).toArray) (by simp [prPs])).1;rw [aT,By_len] at h1 h2;exact⟨h1,h2⟩
theorem obj_pair{h:Nat}{t:TypeId}{p:PairT}{w:World}(hF:ObjF h t (prPs p) w):Rd 64 eP (some ⟨h,0,none⟩) 1 [p] w:=by
 refine⟨aF _,by decide,λe=>(by cases e),λx hx=>?_,λ_=>⟨h,0,rfl,hF.1.lt,λi x hx=>?_⟩⟩
 ·rw [aE.1 hx]
  exact eP_ok (prPs_ok hF.2)
 ·cases i with
  | zero =>
   simp only [List.getElem?_cons_zero,aW] at hx;subst hx;exact range_of (A:=[]) (Z:=[]) hF.1 (by simp [SQ.cl,SQ.den,eP,Value.cells,prPs])
  | succ i=>simp at hx
theorem tleaf_S(h:Nat)(p:PairT):Spec 111 [.pointer (some ⟨h,0,none⟩)] [] (λw=>ObjF h 135 (prPs p) w/\Tsh w) { ret:=λg:Nat=>.v (.pointer (some ⟨g,0,none⟩)),own:=λ_=>[],p:=λg=>TF (.leaf g h p) }:=by
 refine zQ [.c (.v (.pointer (some ⟨h,0,none⟩)))] 17 Tryz.func111 rfl (by rw [Tryz.ntmps111];rfl) (one_ok trivial) λb=>?_;refine s_pure (OkT2 p) (λw hw _=>prPs_ok hw.1.2) λhp=>?_;refine zA rfl ?_;refine s_regH 13 (by decide) (by kernel_rfl) (by kernel_rfl) λK hK G S w0 hst=>?_;refine h_lit zY [(0:UInt8)] rfl rfl rfl rfl rfl rfl (λ_=>rfl) rfl (by decide) (by decide) λB=>?_;refine zV hst rfl ?_;refine h_op hst (.v (.slice (some ⟨h,0+64*0,none⟩) 32 32)) trivial rfl rfl rfl rfl (runO_allQ rfl Tryz.underlying45 rfl rfl) ?_;refine zV hst rfl ?_;refine h_op hst (.v (.slice (some ⟨h,0+64*0+32,none⟩) 32 32)) trivial rfl rfl rfl rfl (runO_allQ rfl Tryz.underlying45 rfl rfl) ?_;refine h_parts [.slice (some ⟨B,0,none⟩) 1 1,.slice (some ⟨h,0+64*0,none⟩) 32 32,.slice (some ⟨h,0+64*0+32,none⟩) 32 32] [[0],p.1,p.2] hst rfl rfl rfl rfl rfl rfl rfl (by decide) (by decide) (λw hw hu=>?_) λA=>?_
 ·have h1:=rd_pair (i:=0) (obj_pair hw.fact.1) rfl hp
  have h2:Rd 1 eB (some ⟨B,0,none⟩) 1 [0] w:=hu 0 _ rfl (by kernel_rfl);exact⟨h2.sb,h1.1,h1.2,trivial⟩
 refine h_call (r:=.q (eY 32 (g6 p))) hst [.slice (some ⟨A,0,none⟩) 3 3] rfl rfl rfl rfl own_tsum rfl rfl (λ_=>rfl) (eY_ok (n:=32) (digest256_len _)).1 (λw hw hu=>?_) ?_
 ·have hA:PT w (some ⟨A,0,none⟩) [[0],p.1,p.2]:=hu 9 _ rfl (by kernel_rfl)
  have hr2:=sum256_f (some ⟨A,0,none⟩) [[0],p.1,p.2] 3 w hw.fact.2 hA (by simp) (by simp)
  have e:g6 p=cE bJ [[0],p.1,p.2].flatten:=by simp [g6]
  show Calls Tryz.prog _ _ w λe w'=>e = .returned (.agg (By (g6 p)).toArray)/\_
  rw [e];exact hr2
 refine zV hst rfl ?_;refine h_end hst ?_;refine zB rfl (zJ (hK _ ?_));refine zP (k_give 2 rfl (E':=[]) trivial λg=>?_);refine k_objOut 0 rfl ?_;exact zR zY g rfl (by decide) rfl rfl rfl (λ_ hw _=>⟨hw.1,hw.2.1⟩) zU
def sdPs(a b:TA):List Pt:=[.agg 2 #[a.val,b.val]]
theorem val_one(t:TA):t.val.oneCell'=true:=by cases t<;>rfl
theorem sdPs_ok(a b:TA):OkP (sdPs a b):=λp hp=>by
 rw [aE.1 hp];refine⟨rfl,λv hv=>?_⟩
 rcases aL.1 hv with rfl|hv
 ·exact val_one a
 ·rw [aE.1 hv]
  exact val_one b
theorem tinner_S(x y:TA)(hl:x.len+y.len<=1000000):Spec 113 [.agg #[x.val,y.val]] [] (λw=>TF x w/\TF y w/\Tsh w) { ret:=λg:Nat=>.v (.pointer (some ⟨g,0,none⟩)),own:=λ_=>[],p:=λg=>TF (.node g x y) }:=by
 refine zQ [.p (sdPs x y)] 26 Tryz.func113 rfl (by rw [Tryz.ntmps113];rfl) (one_ok (sdPs_ok x y)) λb=>?_;refine zA rfl ?_;refine s_new 6 [⟨3,45,(By dJ).toArray⟩,⟨4,45,(By dJ).toArray⟩] (by decide) rfl ⟨⟨rfl,rfl,rfl,rfl,rfl⟩,⟨rfl,rfl,rfl,rfl,rfl⟩,trivial⟩ (by kernel_rfl) (by kernel_rfl) (by kernel_rfl) λK hK G S w0 hst=>?_;refine n_op hst (.a 1 (0+1*0)) trivial rfl rfl rfl (runO_ixA 0 rfl Tryz.underlying137 rfl rfl rfl (by decide)) ?_;refine n_opV hst (.v x.val) trivial rfl rfl rfl (runO_ldA _ rfl rfl rfl rfl Tryz.underlying29 rfl) ?_;refine n_callS (F':=TF x) hst [x.val] rfl rfl rfl (λ_ _=>by go_simp) rfl rfl (λ_=>rfl) (thash_S x) (eY_ok x.root_len).1 (λ_ _ _ hv=>hv.fact.1) ?_;refine n_op hst (.a 1 (0+1*1)) trivial rfl rfl rfl (runO_ixA 1 rfl Tryz.underlying137 rfl rfl rfl (by decide)) ?_;refine n_opV hst (.v y.val) trivial rfl rfl rfl (runO_ldA _ rfl rfl rfl rfl Tryz.underlying29 rfl) ?_;refine n_callS (F':=TF y) hst [y.val] rfl rfl rfl (λ_ _=>by go_simp) rfl rfl (λ_=>rfl) (thash_S y) (eY_ok y.root_len).1 (λ_ _ _ hv=>hv.fact.2.1) ?_;have hx32:=x.root_len;have hy32:=y.root_len
 have sz:∀l:List UInt8,l.length=32->(By l).toArray.size=32:=λl h=>by rw [aT,By_len,h]
 refine n_new hst [⟨3,none,45,[.agg 32 (By x.root).toArray]⟩,⟨4,none,45,[.agg 32 (By y.root).toArray]⟩] [(By dJ).toArray,(By dJ).toArray] [.tmp 7,.tmp 10] rfl rfl rfl (λu hu=>?_) ⟨rfl,rfl,trivial⟩ rfl ⟨⟨rfl,rfl,rfl⟩,⟨rfl,rfl,rfl⟩,rfl⟩ ⟨⟨rfl,?_,?_,By_one _⟩,⟨rfl,?_,?_,By_one _⟩,trivial⟩ ?_
 ·rcases aL.1 hu with rfl|hu
  ·exact(eY_ok hx32).1
  ·rw [aE.1 hu]
   exact(eY_ok hy32).1
 ·exact(sz dJ rfl).trans (sz _ hx32).symm
 ·show _=some (By x.root).toArray.size
  rw [sz _ hx32]
  rfl
 ·exact(sz dJ rfl).trans (sz _ hy32).symm
 ·show _=some (By y.root).toArray.size
  rw [sz _ hy32]
  rfl
 refine zJ (hK _ ?_);refine s_keep [1,2,3,4] [1,3,4] rfl rfl ?_;refine s_regH 13 (by decide) (by kernel_rfl) (by kernel_rfl) λK hK G S w0 hst=>?_;refine h_lit zY [(1:UInt8)] rfl rfl rfl rfl rfl rfl (λ_=>rfl) rfl (by decide) (by decide) λB=>?_;refine h_op hst (.s 3 0 32 32) trivial rfl rfl rfl rfl (runO_all rfl Tryz.underlying45 rfl rfl) ?_;refine h_op hst (.s 4 0 32 32) trivial rfl rfl rfl rfl (runO_all rfl Tryz.underlying45 rfl rfl) ?_;refine h_parts [.slice (some ⟨B,0,none⟩) 1 1,(SV.s 3 0 32 32).den G,(SV.s 4 0 32 32).den G] [[1],x.root,y.root] hst rfl rfl rfl rfl rfl rfl rfl (by decide) (by decide) (λw hw hu=>?_) λA=>?_
 ·have h2:Rd 1 eB (some ⟨B,0,none⟩) 1 [1] w:=hu 0 _ rfl (by kernel_rfl)
  exact⟨h2.sb,sb_var (j:=3) rfl hx32 (by decide) G S w hw,sb_var (j:=4) rfl hy32 (by decide) G S w hw,trivial⟩
 refine h_call (r:=.q (eY 32 (fF x.root y.root))) hst [.slice (some ⟨A,0,none⟩) 3 3] rfl rfl rfl rfl own_tsum rfl rfl (λ_=>rfl) (eY_ok (n:=32) (digest256_len _)).1 (λw hw hu=>?_) ?_
 ·have hA:PT w (some ⟨A,0,none⟩) [[1],x.root,y.root]:=hu 3 _ rfl (by kernel_rfl)
  have hr2:=sum256_f (some ⟨A,0,none⟩) [[1],x.root,y.root] 3 w hw.fact.2.2 hA (by simp) (by simp)
  have e:fF x.root y.root=cE bJ [[1],x.root,y.root].flatten:=by simp [fF]
  show Calls Tryz.prog _ _ w λe w'=>e = .returned (.agg (By (fF x.root y.root)).toArray)/\_
  rw [e];exact hr2
 refine h_op hst (.a 1 (0+1*0)) trivial rfl rfl rfl rfl (runO_ixA 0 rfl Tryz.underlying137 rfl rfl rfl (by decide)) ?_;refine h_opV hst (.v x.val) trivial rfl rfl rfl rfl (runO_ldA _ rfl rfl rfl rfl Tryz.underlying29 rfl) ?_;refine h_callS (F':=TF x) (r:=.v (.int .i64 (x.len:Int))) hst [x.val] rfl rfl rfl rfl (λ_ _=>by go_simp) rfl rfl (λ_=>rfl) trivial (tsize_S x) (λ_ _ _ hv=>hv.fact.1) ?_;refine h_op hst (.a 1 (0+1*1)) trivial rfl rfl rfl rfl (runO_ixA 1 rfl Tryz.underlying137 rfl rfl rfl (by decide)) ?_;refine h_opV hst (.v y.val) trivial rfl rfl rfl rfl (runO_ldA _ rfl rfl rfl rfl Tryz.underlying29 rfl) ?_;refine h_callS (F':=TF y) (r:=.v (.int .i64 (y.len:Int))) hst [y.val] rfl rfl rfl rfl (λ_ _=>by go_simp) rfl rfl (λ_=>rfl) trivial (tsize_S y) (λ_ _ _ hv=>hv.fact.2.1) ?_;refine zV hst rfl ?_;refine h_num 22 ((x.len+y.len:Nat):Int) rfl (wrapI (by omega) (by omega) (by omega)) ?_;refine zV hst rfl ?_;refine h_end hst ?_;refine zB rfl (zJ (hK _ ?_));refine zP (k_give 2 rfl (E':=[]) trivial λg=>?_);refine k_objOut 0 rfl ?_;exact zR zY g rfl (by decide) rfl rfl rfl (λ_ hw _=>⟨hw.1,hw.2.1,hw.2.2.1⟩) zU
theorem own_tput:Own 75:=λ_ _=>by go_simp
theorem putT_len:∀(l:List PairT) (p:PairT),l.length<=(dT l p).length/\(dT l p).length<=l.length+1
 | [],_=>⟨aI _,aF _⟩
 | q::l,p=>by
  have:=putT_len l p
  unfold dT
  split
  ·simp only [List.length_cons];omega
  ·split
   ·simp
   ·simp
theorem wrapB2{d e r:Nat}(h:d=255-r/\r<=255)(he:(256-r)%256=e):IntKind.u8.wrap ((d:Int)+1)=(e:Int):=by
 unfold IntKind.wrap
 simp [IntKind.bits,IntKind.signed]
 omega
theorem val_cells(t:TA):t.val.cells = #[t.val]:=by cases t<;>rfl
theorem leftT_one{d:Nat}{q:PairT}(h:cK q.1 d=0):bS d [q]=[q]/\bC d [q]=[]:=by simp [bS,bC,h]
theorem rightT_one{d:Nat}{q:PairT}(h:cK q.1 d≠0):bS d [q]=[]/\bC d [q]=[q]:=by simp [bS,bC,h]
theorem TOk.nil{r:Nat}{l:List PairT}(h:l=[]):TOk r l .nil:=by cases r<;>exact h
theorem TOk.leaf{r:Nat}{l:List PairT}{g h:Nat}{p:PairT}(e:l=[p]):TOk r l (.leaf g h p):=by cases r<;>exact e
theorem TOk.nil_inv{r:Nat}{l:List PairT}(h:TOk r l .nil):l=[]:=by cases r<;>exact h
theorem TOk.leaf_inv{r:Nat}{l:List PairT}{g h:Nat}{p:PairT}(e:TOk r l (.leaf g h p)):l=[p]:=by cases r<;>exact e
theorem tput_S:∀(r:Nat) (l:List PairT) (t:TA) (h:Nat) (p:PairT),r<=256->TOk r l t->cV l->gL l->dO (256-r) (p::l)->l.length+1<=1000000 ->
  Spec 75 [t.val,.pointer (some ⟨h,0,none⟩),.int .u8 (((256-r)%256:Nat):Int)] [] (λw=>TF t w/\ObjF h 135 (prPs p) w/\Tsh w) { ret:=λx:{ t':TA // TOk r (dT l p) t' }=>.v x.1.val,own:=λ_=>[],p:=λx=>TF x.1 }:=by
 intro r
 induction r using Nat.strongRecOn with
 | ind r ih =>
 intro l t h p hr ht hs hk hsh hl
 obtain⟨D,hD⟩:∃D,(256-r)%256=D:=⟨_,rfl⟩;rw [hD];refine zQ [.c (.v t.val),.c (.v (.pointer (some ⟨h,0,none⟩))),.c (.v (.int .u8 (D:Int)))] 71 Tryz.func75 rfl (by rw [Tryz.ntmps75];rfl) (more_ok trivial (two_ok trivial trivial)) λb=>?_;refine s_pure (OkT2 p) (λw hw _=>prPs_ok hw.2.1.2) λhp2=>?_;refine zA rfl (zM λK hK=>?_)
 cases t with
 | nil =>
  obtain rfl:=ht.nil_inv;refine s_regD 23 (by decide) (by kernel_rfl) (by kernel_rfl) λK1 hK1 G S w0 hst=>?_;refine g_autoS zY hst rfl ?_;refine g_skips rfl ?_;refine g_autoS zY hst rfl ?_;refine g_endS hst ?_;refine zJ (hK1 _ ?_);refine s_yes rfl ?_;refine zC rfl λK2 hK2=>?_;refine l_call0 [.pointer (some ⟨h,0,none⟩)] rfl rfl rfl (λ_ _=>by go_simp) rfl rfl (λ_ _=>rfl) (tleaf_S h p) (λ_ hw _=>⟨hw.2.1,hw.2.2⟩) λg=>?_;refine zB rfl (zJ (hK2 _ ?_));exact zP (zR zY ⟨.leaf g h p,TOk.leaf rfl⟩ rfl (by decide) rfl rfl rfl (λ_ hw _=>hw.1) zU)
 | leaf g0 h0 q =>
  obtain rfl:=ht.leaf_inv;have hq:=hk q aP;refine s_regD 23 (by decide) (by kernel_rfl) (by kernel_rfl) λK1 hK1 G S w0 hst=>?_;refine g_autoS zY hst rfl ?_;refine g_ldO zY hst rfl rfl rfl rfl rfl rfl (obj_fact λ_ h _=>h.1.1) ?_;refine g_autoS zY hst rfl ?_;refine g_ldO zY hst rfl rfl rfl rfl rfl rfl (obj_fact λ_ h _=>h.1.1) ?_;refine g_autoS zY hst rfl ?_;refine g_ldO zY hst rfl rfl rfl rfl rfl rfl (obj_fact λ_ h _=>h.1.2) ?_;refine g_autoS zY hst rfl ?_;refine g_ldO zY hst rfl rfl rfl rfl rfl rfl (obj_fact λ_ h _=>h.2.1) ?_;refine g_autoS zY hst rfl ?_;refine g_opS (.b (decide (q.1=p.1))) trivial rfl rfl rfl (run_eqY rfl rfl rfl Tryz.underlying45 (by kernel_rfl) hq hp2.1) ?_
  by_cases he:q.1=p.1
  ·refine g_is 29 true rfl (by simp [he]) ?_
   refine g_autoS zY hst rfl ?_;refine g_endS hst ?_;refine zJ (hK1 _ ?_);refine s_yes rfl ?_;refine zC rfl λK2 hK2=>?_;refine l_call0 [.pointer (some ⟨h,0,none⟩)] rfl rfl rfl (λ_ _=>by go_simp) rfl rfl (λ_ _=>rfl) (tleaf_S h p) (λ_ hw _=>⟨hw.2.1,hw.2.2⟩) λg=>?_;refine zB rfl (zJ (hK2 _ ?_))
   have e2:dT [q] p=[p]:=by simp [dT,he,cD]
   exact zP (zR zY ⟨.leaf g h p,TOk.leaf e2⟩ rfl (by decide) rfl rfl rfl (λ_ hw _=>hw.1) zU)
  refine g_is 29 false rfl (by simp [he]) ?_;refine g_autoS zY hst rfl ?_;refine g_endS hst ?_;refine zJ (hK1 _ ?_);refine s_no rfl ?_;refine zO (hK _ ?_)
  obtain⟨r,rfl⟩:∃q,r=q+1:=⟨r-1,by
   by_cases e:r=0
   ·subst e
    exact absurd (nR.all hq hp2.1 (hsh q (by simp) p (by simp))) he
   ·omega⟩
  obtain rfl:255-r=D:=by omega
  clear hst hK1;rw [show 256-(r+1)=255-r by omega] at hsh;obtain⟨d,hdr⟩:∃d,255-r=d:=⟨_,rfl⟩;obtain⟨e8,he8⟩:∃e,(256-r)%256=e:=⟨_,rfl⟩;have ih2:=λl t h p ht hs hk=>ih r (by omega) l t h p (by omega) ht hs hk;simp only [he8] at ih2;clear ih
  have hd:d<256:=by omega
  rw [hdr] at hsh ⊢
  have h2:2<=(dT [q] p).length:=by
   by_cases h3:cU q.1 p.1=true
   ·simp [dT,h3]
   ·simp [dT,h3,he]
  refine s_keep [0,1,2] [] rfl rfl ?_;refine zC rfl λK1 hK1=>?_;refine l_ldO zY rfl rfl rfl rfl rfl rfl (obj_fact λ_ h _=>h.1.1) ?_;refine zB rfl (zJ (hK1 _ ?_));refine zM λK2 hK2=>?_;refine zC rfl λK6 hK6=>?_;refine l_ldO zY rfl rfl rfl rfl rfl rfl (obj_fact λ_ h _=>h.1.1) ?_;refine zB rfl (zJ (hK6 _ ?_));refine s_yes rfl ?_
  have hrest:∀x y:TA,TOk r (bS d [q]) x->TOk r (bC d [q]) y->∀en,Weak en ⟨[(1,.v (.pointer (some ⟨h,0,none⟩))),(2,.v (.int .u8 (d:Int))),(7,.a 7 0)],[⟨7,none,137,sdPs x y⟩],[],λw=>TF x w/\TF y w/\ObjF h 135 (prPs p) w/\Tsh w,λ_=>True⟩->kS b K2 71 en:=by
   intro x y hx hy en hw
   refine k_weak hw (hK2 _ ?_);have hb2:=lA p.1 d;refine zC rfl λK3 hK3=>?_;refine l_ldO zY rfl rfl rfl rfl rfl rfl (obj_fact λ_ h _=>h.2.2.1) ?_;refine zB rfl ?_;refine l_call0 [.agg (By p.1).toArray,.int .u8 (d:Int)] rfl rfl rfl own_tbit rfl rfl (λ_ _=>rfl) (tbit_S hp2.1 d hd) (λ_ _ _=>trivial) λ_=>?_;refine zB rfl ?_
   have hlen:∀t':TA,TOk (r+1) (dT [q] p) t'->t'.len<=1000000:=λt' ht'=>by
    rw [ht'.len];exact b8 (putT_len [q] p).2 hl
   by_cases hbit:cK p.1 d=0
   ·refine l_num 8 0 rfl (by rw [hbit];rfl) ?_
    refine zJ (hK3 _ ?_);refine s_keep [1,2,7,8] [7] rfl rfl ?_;refine zC rfl λK4 hK4=>?_;refine l_op (.a 7 (0+1*0)) trivial rfl rfl rfl (runO_ixA 0 rfl Tryz.underlying137 rfl rfl rfl (by decide)) ?_;refine l_opV (.v x.val) trivial rfl rfl rfl (runO_ldA _ rfl rfl rfl rfl Tryz.underlying29 rfl) ?_;refine zB rfl ?_;refine l_num 66 (e8:Int) rfl (wrapB2 ⟨hdr.symm,by omega⟩ he8) ?_
    have eL:bS d (dT [q] p)=dT (bS d [q]) p:=by rw [l7 hs hk hp2.1,if_pos hbit]
    have eR:bC d (dT [q] p)=bC d [q]:=by rw [k7 hs hk hp2.1,if_pos hbit]
    have hsh2:dO (256-r) (p::bS d [q]):=by
     have:=hsh.left;rw [show bS d (p::[q])=p::bS d [q] by simp [bS,hbit],show d+1=256-r by omega] at this;exact this
    refine l_call0 [x.val,.pointer (some ⟨h,0,none⟩),.int .u8 (e8:Int)] rfl rfl rfl own_tput rfl rfl (λ_ _=>rfl) (ih2 (bS d [q]) x h p hx (hs.filter _) (hk.filter _) hsh2 (b8 (jN (cZ _ _) 1) hl)) (λ_ h _=>⟨h.2.1,h.2.2.2.1,h.2.2.2.2⟩) λx'=>?_;refine zB rfl ?_;refine l_op (.a 7 (0+1*0)) trivial rfl rfl rfl (runO_ixA 0 rfl Tryz.underlying137 rfl rfl rfl (by decide)) ?_;refine l_stA (sdPs x'.1 y) rfl rfl rfl rfl rfl rfl rfl (val_cells _) (val_one _) (show _<2 by decide) (sdPs_ok _ _) rfl ?_;refine zJ (hK4 _ ?_);have hT:∀g,TOk (r+1) (dT [q] p) (.node g x'.1 y):=λg=>⟨h2,by show TOk r (bS (255-r) (dT [q] p)) x'.1;rw [hdr,eL];exact x'.2,by show TOk r (bC (255-r) (dT [q] p)) y;rw [hdr,eR];exact hy⟩;refine s_keep [7] [7] rfl rfl ?_;refine zC rfl λK5 hK5=>?_;refine l_call0 [.agg #[x'.1.val,y.val]] rfl rfl rfl own_tinner rfl rfl (λ_ _=>rfl) (tinner_S x'.1 y (hlen _ (hT 0))) (λ_ h _=>⟨h.1,h.2.2.2.1,h.2.2.2.2.2⟩) λg=>?_;refine zB rfl (zJ (hK5 _ ?_));exact zP (zR zY ⟨.node g x'.1 y,hT g⟩ rfl (by decide) rfl rfl rfl (λ_ hw _=>hw.1) zU)
   ·refine l_num 8 1 rfl (by rw [show cK p.1 d=1 by omega];rfl) ?_
    refine zJ (hK3 _ ?_);refine s_keep [1,2,7,8] [7] rfl rfl ?_;refine zC rfl λK4 hK4=>?_;refine l_op (.a 7 (0+1*1)) trivial rfl rfl rfl (runO_ixA 1 rfl Tryz.underlying137 rfl rfl rfl (by decide)) ?_;refine l_opV (.v y.val) trivial rfl rfl rfl (runO_ldA _ rfl rfl rfl rfl Tryz.underlying29 rfl) ?_;refine zB rfl ?_;refine l_num 66 (e8:Int) rfl (wrapB2 ⟨hdr.symm,by omega⟩ he8) ?_
    have eL:bS d (dT [q] p)=bS d [q]:=by rw [l7 hs hk hp2.1,if_neg hbit]
    have eR:bC d (dT [q] p)=dT (bC d [q]) p:=by rw [k7 hs hk hp2.1,if_neg hbit]
    have hsh2:dO (256-r) (p::bC d [q]):=by
     have:=hsh.right;rw [show bC d (p::[q])=p::bC d [q] by simp [bC,hbit],show d+1=256-r by omega] at this;exact this
    refine l_call0 [y.val,.pointer (some ⟨h,0,none⟩),.int .u8 (e8:Int)] rfl rfl rfl own_tput rfl rfl (λ_ _=>rfl) (ih2 (bC d [q]) y h p hy (hs.filter _) (hk.filter _) hsh2 (b8 (jN (cZ _ _) 1) hl)) (λ_ h _=>⟨h.2.2.1,h.2.2.2.1,h.2.2.2.2⟩) λy'=>?_;refine zB rfl ?_;refine l_op (.a 7 (0+1*1)) trivial rfl rfl rfl (runO_ixA 1 rfl Tryz.underlying137 rfl rfl rfl (by decide)) ?_;refine l_stA (sdPs x y'.1) rfl rfl rfl rfl rfl rfl rfl (val_cells _) (val_one _) (show _<2 by decide) (sdPs_ok _ _) rfl ?_;refine zJ (hK4 _ ?_);have hT:∀g,TOk (r+1) (dT [q] p) (.node g x y'.1):=λg=>⟨h2,by show TOk r (bS (255-r) (dT [q] p)) x;rw [hdr,eL];exact hx,by show TOk r (bC (255-r) (dT [q] p)) y'.1;rw [hdr,eR];exact y'.2⟩;refine s_keep [7] [7] rfl rfl ?_;refine zC rfl λK5 hK5=>?_;refine l_call0 [.agg #[x.val,y'.1.val]] rfl rfl rfl own_tinner rfl rfl (λ_ _=>rfl) (tinner_S x y'.1 (hlen _ (hT 0))) (λ_ h _=>⟨h.2.2.1,h.1,h.2.2.2.2.2⟩) λg=>?_;refine zB rfl (zJ (hK5 _ ?_));exact zP (zR zY ⟨.node g x y'.1,hT g⟩ rfl (by decide) rfl rfl rfl (λ_ hw _=>hw.1) zU)
  have hb3:=lA q.1 d;refine s_lit (zB rfl ?_);refine l_ldO zY rfl rfl rfl rfl rfl rfl (obj_fact λ_ h _=>h.1.1) ?_;refine zB rfl ?_;refine l_ldO zY rfl rfl rfl rfl rfl rfl (obj_fact λ_ h _=>h.1.2) ?_;refine zB rfl ?_;refine l_call0 [.agg (By q.1).toArray,.int .u8 (d:Int)] rfl rfl rfl own_tbit rfl rfl (λ_ _=>rfl) (tbit_S hq d hd) (λ_ _ _=>trivial) λ_=>?_;refine zB rfl ?_
  by_cases hqb:cK q.1 d=0
  ·obtain⟨e1,e2⟩:=leftT_one hqb
   refine l_num 51 0 rfl (by rw [hqb];rfl) ?_;refine l_op (.a 7 (0+1*0)) trivial rfl rfl rfl (runO_ixA 0 rfl Tryz.underlying137 rfl rfl rfl (by decide)) ?_;refine l_stA (sdPs (.leaf g0 h0 q) .nil) rfl rfl rfl rfl rfl rfl rfl (val_cells (.leaf g0 h0 q)) (val_one (.leaf g0 h0 q)) (show _<2 by decide) (sdPs_ok _ _) rfl ?_;exact zJ (hrest (.leaf g0 h0 q) .nil (TOk.leaf e1) (TOk.nil e2) _ ⟨zE rfl, zL rfl rfl, .refl _,λ_ h _=>⟨h.2.1,trivial,h.2.2.1,h.2.2.2⟩, zU⟩)
  ·obtain⟨e1,e2⟩:=rightT_one hqb
   refine l_num 51 1 rfl (by rw [show cK q.1 d=1 by omega];rfl) ?_;refine l_op (.a 7 (0+1*1)) trivial rfl rfl rfl (runO_ixA 1 rfl Tryz.underlying137 rfl rfl rfl (by decide)) ?_;refine l_stA (sdPs .nil (.leaf g0 h0 q)) rfl rfl rfl rfl rfl rfl rfl (val_cells (.leaf g0 h0 q)) (val_one (.leaf g0 h0 q)) (show _<2 by decide) (sdPs_ok _ _) rfl ?_;exact zJ (hrest .nil (.leaf g0 h0 q) (TOk.nil e1) (TOk.leaf e2) _ ⟨zE rfl, zL rfl rfl, .refl _,λ_ h _=>⟨trivial,h.2.1,h.2.2.1,h.2.2.2⟩, zU⟩)
 | node g0 x0 y0 =>
  obtain⟨r,rfl⟩:∃q,r=q+1:=⟨r-1,by
   cases r with
   | zero=>exact ht.elim
   | succ r=>rfl⟩
  obtain rfl:255-r=D:=by omega
  rw [show 256-(r+1)=255-r by omega] at hsh;obtain⟨d,hdr⟩:∃d,255-r=d:=⟨_,rfl⟩;obtain⟨e8,he8⟩:∃e,(256-r)%256=e:=⟨_,rfl⟩;have ih2:=λl t h p ht hs hk=>ih r (by omega) l t h p (by omega) ht hs hk;simp only [he8] at ih2;clear ih
  have hd:d<256:=by omega
  rw [hdr] at hsh ⊢;obtain⟨hl2,hx0,hy0⟩:=ht;rw [hdr] at hx0 hy0;have h2:2<=(dT l p).length:=b8 hl2 (putT_len l p).1;refine s_regD 23 (by decide) (by kernel_rfl) (by kernel_rfl) λK1 hK1 G S w0 hst=>?_;refine g_autoS zY hst rfl ?_;refine g_ldO zY hst rfl rfl rfl rfl rfl rfl (obj_fact λ_ h _=>h.1.1) ?_;refine g_autoS zY hst rfl ?_;refine g_endS hst ?_;refine zJ (hK1 _ ?_);refine s_no rfl ?_;refine zO (hK _ ?_);clear hst hK1;refine s_keep [0,1,2] [] rfl rfl ?_;refine zC rfl λK1 hK1=>?_;refine l_ldO zY rfl rfl rfl rfl rfl rfl (obj_fact λ_ h _=>h.1.1) ?_;refine zB rfl (zJ (hK1 _ ?_));refine zM λK2 hK2=>?_;refine zC rfl λK6 hK6=>?_;refine l_ldO zY rfl rfl rfl rfl rfl rfl (obj_fact λ_ h _=>h.1.1) ?_;refine zB rfl (zJ (hK6 _ ?_));refine s_no rfl ?_
  have hrest:∀x y:TA,TOk r (bS d l) x->TOk r (bC d l) y->∀en,Weak en ⟨[(1,.v (.pointer (some ⟨h,0,none⟩))),(2,.v (.int .u8 (d:Int))),(7,.a 7 0)],[⟨7,none,137,sdPs x y⟩],[],λw=>TF x w/\TF y w/\ObjF h 135 (prPs p) w/\Tsh w,λ_=>True⟩->kS b K2 71 en:=by
   intro x y hx hy en hw
   refine k_weak hw (hK2 _ ?_);have hb2:=lA p.1 d;refine zC rfl λK3 hK3=>?_;refine l_ldO zY rfl rfl rfl rfl rfl rfl (obj_fact λ_ h _=>h.2.2.1) ?_;refine zB rfl ?_;refine l_call0 [.agg (By p.1).toArray,.int .u8 (d:Int)] rfl rfl rfl own_tbit rfl rfl (λ_ _=>rfl) (tbit_S hp2.1 d hd) (λ_ _ _=>trivial) λ_=>?_;refine zB rfl ?_
   have hlen:∀t':TA,TOk (r+1) (dT l p) t'->t'.len<=1000000:=λt' ht'=>by
    rw [ht'.len];exact b8 (putT_len l p).2 hl
   by_cases hbit:cK p.1 d=0
   ·refine l_num 8 0 rfl (by rw [hbit];rfl) ?_
    refine zJ (hK3 _ ?_);refine s_keep [1,2,7,8] [7] rfl rfl ?_;refine zC rfl λK4 hK4=>?_;refine l_op (.a 7 (0+1*0)) trivial rfl rfl rfl (runO_ixA 0 rfl Tryz.underlying137 rfl rfl rfl (by decide)) ?_;refine l_opV (.v x.val) trivial rfl rfl rfl (runO_ldA _ rfl rfl rfl rfl Tryz.underlying29 rfl) ?_;refine zB rfl ?_;refine l_num 66 (e8:Int) rfl (wrapB2 ⟨hdr.symm,by omega⟩ he8) ?_
    have eL:bS d (dT l p)=dT (bS d l) p:=by rw [l7 hs hk hp2.1,if_pos hbit]
    have eR:bC d (dT l p)=bC d l:=by rw [k7 hs hk hp2.1,if_pos hbit]
    have hsh2:dO (256-r) (p::bS d l):=by
     have:=hsh.left;rw [show bS d (p::l)=p::bS d l by simp [bS,hbit],show d+1=256-r by omega] at this;exact this
    refine l_call0 [x.val,.pointer (some ⟨h,0,none⟩),.int .u8 (e8:Int)] rfl rfl rfl own_tput rfl rfl (λ_ _=>rfl) (ih2 (bS d l) x h p hx (hs.filter _) (hk.filter _) hsh2 (b8 (jN (cZ _ _) 1) hl)) (λ_ h _=>⟨h.2.1,h.2.2.2.1,h.2.2.2.2⟩) λx'=>?_;refine zB rfl ?_;refine l_op (.a 7 (0+1*0)) trivial rfl rfl rfl (runO_ixA 0 rfl Tryz.underlying137 rfl rfl rfl (by decide)) ?_;refine l_stA (sdPs x'.1 y) rfl rfl rfl rfl rfl rfl rfl (val_cells _) (val_one _) (show _<2 by decide) (sdPs_ok _ _) rfl ?_;refine zJ (hK4 _ ?_);have hT:∀g,TOk (r+1) (dT l p) (.node g x'.1 y):=λg=>⟨h2,by show TOk r (bS (255-r) (dT l p)) x'.1;rw [hdr,eL];exact x'.2,by show TOk r (bC (255-r) (dT l p)) y;rw [hdr,eR];exact hy⟩;refine s_keep [7] [7] rfl rfl ?_;refine zC rfl λK5 hK5=>?_;refine l_call0 [.agg #[x'.1.val,y.val]] rfl rfl rfl own_tinner rfl rfl (λ_ _=>rfl) (tinner_S x'.1 y (hlen _ (hT 0))) (λ_ h _=>⟨h.1,h.2.2.2.1,h.2.2.2.2.2⟩) λg=>?_;refine zB rfl (zJ (hK5 _ ?_));exact zP (zR zY ⟨.node g x'.1 y,hT g⟩ rfl (by decide) rfl rfl rfl (λ_ hw _=>hw.1) zU)
   ·refine l_num 8 1 rfl (by rw [show cK p.1 d=1 by omega];rfl) ?_
    refine zJ (hK3 _ ?_);refine s_keep [1,2,7,8] [7] rfl rfl ?_;refine zC rfl λK4 hK4=>?_;refine l_op (.a 7 (0+1*1)) trivial rfl rfl rfl (runO_ixA 1 rfl Tryz.underlying137 rfl rfl rfl (by decide)) ?_;refine l_opV (.v y.val) trivial rfl rfl rfl (runO_ldA _ rfl rfl rfl rfl Tryz.underlying29 rfl) ?_;refine zB rfl ?_;refine l_num 66 (e8:Int) rfl (wrapB2 ⟨hdr.symm,by omega⟩ he8) ?_
    have eL:bS d (dT l p)=bS d l:=by rw [l7 hs hk hp2.1,if_neg hbit]
    have eR:bC d (dT l p)=dT (bC d l) p:=by rw [k7 hs hk hp2.1,if_neg hbit]
    have hsh2:dO (256-r) (p::bC d l):=by
     have:=hsh.right;rw [show bC d (p::l)=p::bC d l by simp [bC,hbit],show d+1=256-r by omega] at this;exact this
    refine l_call0 [y.val,.pointer (some ⟨h,0,none⟩),.int .u8 (e8:Int)] rfl rfl rfl own_tput rfl rfl (λ_ _=>rfl) (ih2 (bC d l) y h p hy (hs.filter _) (hk.filter _) hsh2 (b8 (jN (cZ _ _) 1) hl)) (λ_ h _=>⟨h.2.2.1,h.2.2.2.1,h.2.2.2.2⟩) λy'=>?_;refine zB rfl ?_;refine l_op (.a 7 (0+1*1)) trivial rfl rfl rfl (runO_ixA 1 rfl Tryz.underlying137 rfl rfl rfl (by decide)) ?_;refine l_stA (sdPs x y'.1) rfl rfl rfl rfl rfl rfl rfl (val_cells _) (val_one _) (show _<2 by decide) (sdPs_ok _ _) rfl ?_;refine zJ (hK4 _ ?_);have hT:∀g,TOk (r+1) (dT l p) (.node g x y'.1):=λg=>⟨h2,by show TOk r (bS (255-r) (dT l p)) x;rw [hdr,eL];exact hx,by show TOk r (bC (255-r) (dT l p)) y'.1;rw [hdr,eR];exact y'.2⟩;refine s_keep [7] [7] rfl rfl ?_;refine zC rfl λK5 hK5=>?_;refine l_call0 [.agg #[x.val,y'.1.val]] rfl rfl rfl own_tinner rfl rfl (λ_ _=>rfl) (tinner_S x y'.1 (hlen _ (hT 0))) (λ_ h _=>⟨h.2.2.1,h.1,h.2.2.2.2.2⟩) λg=>?_;refine zB rfl (zJ (hK5 _ ?_));exact zP (zR zY ⟨.node g x y'.1,hT g⟩ rfl (by decide) rfl rfl rfl (λ_ hw _=>hw.1) zU)
  exact zO (hrest x0 y0 hx0 hy0 _ ⟨zE rfl, zL rfl rfl, .refl _,λ_ h _=>⟨h.1.2.1,h.1.2.2,h.2.1,h.2.2⟩, zU⟩)
theorem runO_ldB{L:List LV}{R:List Res}{F M:World->Prop}{N:Nat}{E:SE}{o:Oper}{t:TypeId}{x:Operand}{g off ty:Nat}{ps:List Pt}{d:TypeDesc}(v:Value)(ho:o.op = .load t x)(hx:evS E x=some (.v (.pointer (some ⟨g,off,none⟩))))(hv:(catP ps)[off]?=some v)(hu:Tryz.prog.underlying t=some d)(hr:d.isRow=false)(h:∀G S w,View G S L R F M w->ObjF g ty ps w) :
  ∀(G:Nat->Nat) (S:Nat->Prop) (a:Act) (w:World),Fr N (denE G E) a->View G S L R F M w->(execOp a.eval o).run Tryz.prog w = .ok (.value ((SV.v v).den G)) w:=λG S a w ha hw=>by
 have h1:a.eval x = .pointer (some ⟨g,off,none⟩):=ha.eval (evS_ok hx);have h2:=(h G S w hw).1.cell off;rw [hv] at h2;have h3:=run_load_cell hu hr h2
 unfold execOp
 simp only [ho,h1,aG,h3,aD,aH]
 rfl
instance:Pst (λ_:World=>True):=⟨λ_ _ _ _=>trivial⟩
theorem nd_at(a b:TA):(catP (ndPs a b))[34]?=some a.val/\(catP (ndPs a b))[35]?=some b.val:=by
 have h:(By (fF a.root b.root)).length=32:=by rw [By_len];exact digest256_len _
 have e:(catP (ndPs a b)).toList=By (fF a.root b.root)++[.int .i64 ((a.len+b.len:Nat):Int),.pointer none,a.val,b.val]:=by simp [ndPs,catP,Pt.cells,SC.den]
 rw [<-dR,<-dR,e,cG (by omega),cG (by omega),h];exact⟨rfl,rfl⟩
def FndW:Option (Nat×PairT)->World->Prop
  | none,_=>True
  | some x,w=>ObjF x.1 135 (prPs x.2) w
instance{x:Option (Nat×PairT)}:Pst (FndW x):=⟨λw w' h hb=>by
  cases x with
  | none=>trivial
  | some x=>exact⟨h.1.later hb,h.2⟩⟩
end Go.Proofs.YtlhlkofpjhpaoaaGreatDoor
