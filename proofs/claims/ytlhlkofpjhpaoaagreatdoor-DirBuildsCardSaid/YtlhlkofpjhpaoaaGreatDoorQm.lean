import Derived.Test.YtlhlkofpjhpaoaaGreatDoorQi
import Derived.Test.YtlhlkofpjhpaoaaGreatDoorQl
import Derived.Test.YtlhlkofpjhpaoaaGreatDoorQe
import Derived.RangeFuncNested
import Derived.RangeFuncBound
import Derived.RangeFuncCalls
import Derived.RangeFuncLeaves
import Derived.OrdersIn
import Derived.Test.YtlhlkofpjhpaoaaGreatDoorQj
import Derived.Test.YtlhlkofpjhpaoaaGreatDoorQh
import Derived.Test.YtlhlkofpjhpaoaaGreatDoorQd
import Derived.Test.YtlhlkofpjhpaoaaGreatDoorQg
set_option maxRecDepth 100000
set_option maxHeartbeats 4000000
open Array renaming replicate->aU,getElem?_toList->dJ
open Bool renaming and_eq_true->aK
open Go.Addr renaming add_mid->cU
open Go.Exit renaming inBlock->jJ
open Go.Fence renaming wide->lW
open Go.Result renaming andThen_ok->aB
open Go.Sem renaming run_bind->aF,run_pure->aG
open List renaming length_append->aC,mem_singleton->aE,mem_cons_of_mem->aI,mem_cons->aJ,mem_cons_self->aM,size_toArray->aV,getElem?_eq_some_iff->bC,append_nil->bJ,mem_map->bO,all_eq_true->bT,getElem?_append_right->cD,getElem?_take->c7,length_filter_le->iQ,getElem?_append_left->iR
open List.Pairwise renaming nil->sC
open Nat renaming le_refl->aH,zero_le->aQ,zero_add->aX,add_assoc->bW,le_trans->cN,add_sub_cancel_left->g6,lt_of_le_of_lt->iN,add_le_add_right->jK
open Option.some renaming injEq->aT
namespace Go.Proofs.YtlhlkofpjhpaoaaGreatDoor
open Go.RowKit Go.IntWalk Nums
def nilH:HSeg:=⟨none,0,[]⟩
theorem keysD_mem:∀{l:List EntD} {id:List UInt8},bL l id≠[]->(id,bL l id)∈l
 | [],_,h=>(h rfl).elim
 | e::l,id,h=>by
  rw [cK] at h ⊢
  by_cases c:e.1=id
  ·rw [if_pos c]
   rw [<-c];exact aM
  ·rw [if_neg c] at h ⊢
   exact aI _ (keysD_mem h)
def SmallD(l:List EntD):Prop:=∀e∈l,e.2.length<=64
theorem SmallD.keys{l:List EntD}(h:SmallD l)(id:List UInt8):(bL l id).length<=64:=by
 by_cases c:bL l id=[]
 ·rw [c]
  exact aQ _
 ·exact h _ (keysD_mem c)
theorem SmallD.put{l:List EntD}{id:List UInt8}{ks:List (List UInt8)}(h:SmallD l)(hk:ks.length<=64):SmallD (iU l id ks):=λe he=>by
 rcases jD he with rfl|he
 ·exact hk
 ·exact h e he
noncomputable def udH(u:UV):UD:=⟨u.id,u.ver,u.key,signB u⟩
theorem signB_ver{u:UV}(h:signB u=true):1<=u.ver/\u.ver<=64:=by
 unfold signB at h
 rw [aK] at h;exact of_decide_eq_true h.1
theorem okD_iff{l:List EntD}{u:UV}:okD l (udH u)=true↔(signB u=true/\u.ver=((bL l u.id).length:Int)+1):=by
 unfold okD udH
 rw [aK,decide_eq_true_eq]
theorem SmallD.step{l:List EntD}(h:SmallD l)(u:UV):SmallD (g9 l (udH u)):=by
 unfold g9
 split
 ·rename_i hk
  obtain⟨h1,h2⟩:=okD_iff.1 hk;have h3:=signB_ver h1;refine h.put ?_
  show(bL l u.id++[u.key]).length<=64
  rw [aC]
  show(bL l u.id).length+1<=64
  omega
 ·exact h
theorem putD_len:∀(l:List EntD) (id:List UInt8) (ks:List (List UInt8)),(iU l id ks).length<=l.length+1
 | [],_,_=>aH _
 | e::l,id,ks=>by
  unfold iU
  split
  ·exact Nat.succ_le_succ (putD_len l id ks)
  ·split
   ·exact Nat.le_succ _
   ·exact aH _
theorem stepD_len(l:List EntD)(u:UD):(g9 l u).length<=l.length+1:=by
 unfold g9
 split
 ·exact putD_len _ _ _
 ·exact Nat.le_succ _
def Tells(h:List UInt8->Option HSeg)(l:List EntD):Prop:=∀k,(∀s,h k=some s->s.l≠[]/\bL l k=s.l)/\(h k=none->bL l k=[])
theorem Tells.nil:Tells (λ_=>none) []:=λ_=>⟨λ_ h=>(by cases h),λ_=>rfl⟩
theorem Tells.put{h:List UInt8->Option HSeg}{l:List EntD}(ht:Tells h l)(k:List UInt8)(s:HSeg)(hs:s.l≠[]):Tells (putF h k s) (iU l k s.l):=λx=>by
 unfold putF
 rw [iY]
 by_cases c:x=k
 ·rw [if_pos c,if_pos c]
  exact⟨λs' e=>by injection e with e;subst e;exact⟨hs,rfl⟩,λe=>by cases e⟩
 ·rw [if_neg c,if_neg c]
  exact ht x
def overK(g:List UInt8->Option HSeg)(l:List EntD)(k:List UInt8):List (List UInt8):=match g k with
  | some s=>if s.l=[] then bL l k else s.l
  | none=>bL l k
abbrev entD(d:List UInt8×HSeg):EntD:=(d.1,d.2.l)
theorem buildD_one(l es:List EntD)(e:EntD):lI l (es++[e])=if e.2=[] then lI l es else iU (lI l es) e.1 e.2:=by
 unfold lI
 rw [List.foldl_append]
 rfl
theorem over_done{g:List UInt8->Option HSeg}{l:List EntD}{done:List (List UInt8×HSeg)}(hn:(done.map (·.1)).Nodup)(h1:∀d∈done,g d.1=some d.2)(h2:∀k s,g k=some s->(k,s)∈done)(k:List UInt8):bL (lI l (done.map entD)) k=overK g l k:=by
 have hp:(done.map entD).Pairwise λa b=>a.1≠b.1:=by
  rw [List.pairwise_map];exact List.pairwise_map.1 hn
 rw [nM hp]
 unfold overK
 cases hg:g k with
 | none =>
  rw [j7 λe he hk=>?_,if_pos rfl];obtain⟨d,hd,rfl⟩:=bO.1 he;have:=h1 d hd;rw [show d.1=k from hk,hg] at this
  cases this
 | some s =>
  have:=oJ hp (bO.2 ⟨_,h2 k s hg,rfl⟩);rw [show bL (done.map entD) k=s.l from this]
theorem over_none{g:List UInt8->Option HSeg}(h:∀k,g k=none)(l:List EntD)(k:List UInt8):overK g l k=bL l k:=by
 unfold overK
 rw [h k]
theorem MapH.zero{κ ν:Type}{T:MapT κ ν}{ok:κ->Prop}{es:Array MapEntry}{clock:Nat}{f:κ->Option ν}(h:MapH T ok es clock 0 f)(k:κ):f k=none:=by
 cases hf:f k with
 | none=>rfl
 | some v =>
  obtain⟨e,he,_⟩:=h.at_ k v hf;have:=h.size;have h0:es.toList=[]:=List.eq_nil_of_length_eq_zero (by simpa using this);rw [h0] at he
  cases he
end Go.Proofs.YtlhlkofpjhpaoaaGreatDoor
namespace Go.Proofs.YtlhlkofpjhpaoaaGreatDoor
open Go.RowKit Go.IntWalk
abbrev FW(ro:Option Nat):Fence:={ lW with round:=ro }
class NoOut (Q:Exit->Act->World->Prop):Prop where
  no:∀a w,¬Q .outgrown a w
instance{K:Act->World->Prop}{Q:Exit->Act->World->Prop}[h:NoOut Q]:NoOut (Exit.then K Q):=⟨λa w hq=>h.no a w hq⟩
instance{id:Nat}{Q:Exit->Act->World->Prop}[h:NoOut Q]:NoOut (jJ id Q):=⟨λa w hq=>h.no a w hq⟩
instance{Q:Exit->Act->World->Prop}[h:NoOut Q]:NoOut (NoPanic Q):=⟨λa w hq=>h.no a w hq⟩
theorem calls_in{ro:Option Nat}{n:Nat}{P:Program}{f:FuncId}{args:Array Value}{w:World}{R:Ending->World->Prop}(h:Calls P f args w R):CallsIn (FW ro) n P f args w R:=(callsIn_wide (n:=n)).2 h
theorem rows_in{ro:Option Nat}{n:Nat}{P:Program}{row:String}{args:Array Value}{w:World}{R:Value->World->Prop}(h:Rows P row args w R):RowsIn (FW ro) n P row args w R:=λc cs _=>by
 obtain⟨v,w',r,s⟩:=h c cs;exact⟨v,w',r,(stepsIn_wide (P:=P)).2 s⟩
section
variable{P:Program}{ro:Option Nat}{n:Nat}{Q:Exit->Act->World->Prop}{ops:Array Oper}
theorem op_in[hQ:NoOut Q]{o:Oper}{a:Act}{w:World}{next:Act->World->Prop}(hd:∀c,o.op ≠ .defer c)(h:o.wp P a w next Q\/(o.asks P a w/\LetsOut Q)):o.wpIn (FW ro) n P a w next Q:=by
 rcases h with h|⟨_,a',w',h⟩
 ·refine⟨λ_ _=>trivial,?_⟩
  rw [Oper.semAt_eq _ _ _ hd]
  unfold Oper.wp at h
  generalize (execOp a.eval o).run P w=r at *
  cases r with
  | ok x w' =>
   cases x with
   | enter f args=>exact⟨λe=>(by cases e),calls_in h⟩
   | row row args=>exact⟨λe=>(by cases e),rows_in h⟩
   | _=>first|exact h|exact h.elim
  | halt x w'=>cases x<;>exact h
 ·exact absurd h (hQ.no a' w')
def noDef(l:List Oper):Bool:=l.all λo=>match o.op with | .defer _=>false|_=>true
theorem noDef_mem{l:List Oper}(h:noDef l=true){o:Oper}(ho:o∈l):∀c,o.op ≠ .defer c:=λc e=>by
 have:=bT.1 h o ho;rw [e] at this
 cases this
theorem list_in[NoOut Q]:∀{l:List Oper} {a:Act} {w:World},noDef l=true->wpList P ops Q l a w->wpListIn (FW ro) n P ops Q l a w
 | [],_,_,_,h=>h
 | o::l,a,w,hd,h=>by
  have hd':noDef l=true:=by
   unfold noDef at hd ⊢
   rw [List.all_cons,aK] at hd;exact hd.2
  unfold wpList at h
  unfold wpListIn
  split
  ·rename_i hw
   rw [if_pos hw] at h;exact op_in (noDef_mem hd aM) (h.imp (Oper.wp_mono λa' w' h'=>list_in hd' h') id)
  ·rename_i hw
   rw [if_neg hw] at h;exact⟨λ_ _=>trivial,list_in hd' h⟩
end
def rS(ro:Option Nat)(n:Nat)(b:Base)(c:Code)(Q:Exit->Act->World->Prop)(N:Nat)(e:Env):Prop:=∀a w,St b N e a w->c.wpIn (FW ro) n Tryz.prog Q a w
section
variable{T:List TyR}{ro:Option Nat}{n:Nat}{b:Base}{Q:Exit->Act->World->Prop}{N:Nat}{e e':Env}{E:SE}{L:List LV}{R:List Res}{F M:World->Prop}{id:Nat}{l l':List Oper}{x y:Code}
theorem r_seq(h:∀K:Act->World->Prop,(∀e',rS ro n b y Q N e'->kS b K N e')->rS ro n b x (Exit.then K Q) N e):rS ro n b (.seq x y) Q N e:=λa w hs =>
 wpIn_seq_k λK hK=>h K (λ_ h' a' w' hs'=>hK _ _ (h' a' w' hs')) a w hs
theorem r_lit[NoOut Q](hd:noDef l=true)(h:lS Tryz.prog b l.toArray Q N l e):rS ro n b (.region id l.toArray false) Q N e:=λa w hs=>wpIn_region_lit (list_in hd (h a w hs))
theorem r_auto{E':SE}{L':List LV}[NoOut Q](hd:noDef l=true)(hT:OkT Tryz.prog T)(h:autoS T l.toArray N l E L=([],E',L'))(hn:rS ro n b y Q N ⟨E',L',R,F,M⟩):rS ro n b (.seq (.region id l.toArray false) y) Q N ⟨E,L,R,F,M⟩ :=
 r_seq λ_ hK=>r_lit hd (l_autoS hT h (s_end (hK _ hn)))
theorem r_autoE{E':SE}{L':List LV}[NoOut Q](hd:noDef l=true)(hT:OkT Tryz.prog T)(h:autoS T l.toArray N l E L=([],E',L'))(hn:kS b (Q .normal) N ⟨E',L',R,F,M⟩):rS ro n b (.region id l.toArray false) Q N ⟨E,L,R,F,M⟩:=r_lit hd (l_autoS hT h (s_end hn))
theorem r_regA{E':SE}{L':List LV}[NoOut Q](hd:noDef l=true)(hT:OkT Tryz.prog T)(h:autoS T l.toArray N l E L=(l',E',L'))(hn:∀K:Act->World->Prop,(∀e',rS ro n b y Q N e'->kS b K N e')->lS Tryz.prog b l.toArray (Exit.then K Q) N l' ⟨E',L',R,F,M⟩):rS ro n b (.seq (.region id l.toArray false) y) Q N ⟨E,L,R,F,M⟩ :=
 r_seq λK hK=>r_lit hd (l_autoS hT h (hn K hK))
theorem any_gS(m:Nat)(hn:m<=l.length)(hB:tailH l.toArray m (l.drop m).length=true){G:Nat->Nat}{w:World}{a:Act}(ha:Fr N (denE G E) a)(hE:OkE E)(h:gS Tryz.prog b l.toArray Q N (l.drop m) G w (idx 0 (l.take m)) E) :
  wpAny Tryz.prog .any l.toArray Q l.toArray.size (aU l.toArray.size false) a w.drew:=by
 have hL:(l.take m).length=m:=by rw [List.length_take];omega
 have hG:GoodF Bel (Up w) (λ_ _=>True) w.drew:=⟨λ_ _ _ _ _=>trivial,Up.drew w,λ_=>trivial⟩
 have hP:Pend l.toArray m (idx 0 (l.take m)) (aU l.toArray.size false):=by
  refine⟨by simp,λx hx=>?_,λj o hj ho _=>?_,λj _ hj=>by
   have hj':j<l.length:=by simpa using hj
   simp [hj'],idx_sort _ _,Closed.none _⟩
  ·obtain⟨_,h2⟩:=idx_mem hx
   rw [Nat.sub_zero,c7] at h2
   split at h2
   ·rename_i hlt
    have h3:x.1<l.length:=(bC.1 h2).1;exact⟨by simpa using h2,hlt,by simp [h3]⟩
   ·cases h2
  ·have h1:=mem_idx (k:=0) (l:=l.take m) (j:=j) (o:=o) (by rw [c7,if_pos hj];simpa using ho)
   rwa [aX] at h1
 have h2:=reg_any (Q:=Q) (λ_ _ h k=>Up.step h k) hB (λj _=>by simp) m (idx 0 (l.take m)) _ _ a w.drew (by rw [idx_len,hL]) hP hG (λ_ _ _=>trivial) (h hE a _ ha (λx hx=>by cases hx))
 have e:(l.drop m).length+m=l.toArray.size:=by simp;omega
 rw [e] at h2;exact h2
theorem r_yes{c:Operand}(hc:evS E c=some (.v (.bool true)))(h1:rS ro n b x Q N ⟨E,L,R,F,M⟩):rS ro n b (.cond c x y) Q N ⟨E,L,R,F,M⟩:=λa w hs=>by
 have hs':=hs;obtain⟨G,S,h3⟩:=hs;exact wpIn_cond_true (h3.fr.eval (evS_ok hc)) (h1 a w hs')
theorem r_no{c:Operand}(hc:evS E c=some (.v (.bool false)))(h1:rS ro n b y Q N ⟨E,L,R,F,M⟩):rS ro n b (.cond c x y) Q N ⟨E,L,R,F,M⟩:=λa w hs=>by
 have hs':=hs;obtain⟨G,S,h3⟩:=hs;exact wpIn_cond_false (h3.fr.eval (evS_ok hc)) (h1 a w hs')
theorem r_block{c:Code}(h:rS ro n b c (jJ id Q) N e):rS ro n b (.block id c) Q N e:=λa w hs=>wpIn_block (h a w hs)
theorem r_skip(h:kS b (Q .normal) N e):rS ro n b .skip Q N e:=λa w hs=>wpIn_skip (h a w hs)
theorem r_ret(h:kS b (Q .ret) N e):rS ro n b .ret Q N e:=λa w hs=>wpIn_ret (h a w hs)
end
def YSpec(l:Nat)(args:List Value)(Fy:World->Prop)(r r1 r0:Res):Prop:=∀(w:World) (S:Nat->Prop),r.holds w S->Stb S Fy w->∀m,YieldAt lW m Tryz.prog l args.toArray w λe w'=>∃(t:Bool) (S':Nat->Prop),e = .returned (.bool t)/\Chg S w w'/\(bif t then r1 else r0).holds w' S'/\∀k,S' k->k<w.heap.size->S k
def bpost(r1 r0:Res):Post Bool:={ ret:=λt=>.v (.bool t),own:=λt=>[bif t then r1 else r0] }
theorem star1{r:Res}{w:World}{S:Nat->Prop}:starL [r] w S↔r.holds w S:=by
 constructor
 ·rintro⟨S1,S2,h1,h2,h3,_⟩
  have:S=S1:=funext λk=>propext ⟨λh=>((h3 k).1 h).resolve_right (h2 k),λh=>(h3 k).2 (.inl h)⟩
  rwa [this]
 ·exact λh=>⟨S,λ_=>False,h,λ_ h=>h,λk=>⟨.inl,λh=>h.elim id False.elim⟩,λ_ _ h=>h⟩
def tS(ro:Option Nat)(n:Nat)(b:Base)(ops:Array Oper)(Q:Exit->Act->World->Prop)(N:Nat)(l:List Oper)(e:Env):Prop:=∀a w,St b N e a w->wpListIn (FW ro) n Tryz.prog ops Q l a w
section
variable{ro:Option Nat}{n:Nat}{b:Base}{ops:Array Oper}{Q:Exit->Act->World->Prop}{N:Nat}{e:Env}{E:SE}{L L0:List LV}{R R':List Res}{F M:World->Prop}{o:Oper}{rest l:List Oper}{k:Nat}{y:Operand}{xs:Array Operand}{ats:Array TypeId}{svs:List SV}{Inv:World->Prop}
theorem t_list[NoOut Q](hd:noDef l=true)(h:lS Tryz.prog b ops Q N l e):tS ro n b ops Q N l e:=λa w hs=>list_in hd (h a w hs)
theorem t_yield{g:Nat}{r r1 r0:Res}{Fy:World->Prop}(args:List Value)(hg:o.guard=none)(hd:o.dst=some k)(hk:Nat.blt k N=true)(ho:o.op = .call { callee:=.value y,args:=xs,argTypes:=ats })(hy:evS E y=some (.v (.func (.yield g) #[] #[])))(hx:evSs E xs.toList=some svs)
 (ha:∀G:Nat->Nat,svs.map (SV.den G)=args)(hs:YSpec g args Fy r r1 r0)(hF:∀w,F w->M w->Fy w)(hn:∀t:Bool,tS ro n b ops Q N rest ⟨(k,.v (.bool t))::E,L,(bif t then r1 else r0)::R',F,M⟩):tS ro n b ops Q N (o::rest) ⟨E,L,r::R',F,M⟩:=λa w ⟨G,S,h1,h2,h3⟩=>by
 have hv:a.eval y = .func (.yield g) #[] #[]:=h1.eval (evS_ok hy);have hm:=map_eval (args:=(svs.map (SV.den G)).toArray) (h1.evals _ _ (by rw [evSs_ok hx]));rw [ha G] at hm;obtain⟨S1,S2,k1,k2,kS,kd⟩:=StW.split (own:=[r]) h3;obtain⟨fn,tmps,assign,body,hyr,hR⟩:=hs w S1 (star1.1 k1) ((h3.all.imp λw hw=>hF w hw.1 hw.2).less λk _ hk=>.inr (.inl ((kS k).2 (.inl hk)))) (n-1)
 have hrun:(execOp a.eval o).run Tryz.prog w = .ok (.round g fn tmps assign body) w:=by
  unfold execOp
  simp only [ho,resolve,hv,hm,Deferred.ofValue,aF,aG,aB,invoke]
  simp [hyr]
 unfold wpListIn
 rw [if_pos (by simp [Region.wanted,hg])];refine⟨λ_ _=>trivial,?_⟩;rw [Oper.semAt_eq _ _ _ (λc e=>by rw [ho] at e;cases e),hrun];refine⟨λe=>(by cases e),?_⟩;have hR':RoundIn (FW ro) (n-1) Tryz.prog g fn tmps assign body w _:=hR;refine hR'.mono ?_
 rintro ex w' ⟨t,S',rfl,hc,hr',hS'⟩
 rw [hd];have h5:=h1.put hk (.bool t);exact hn t _ w' ⟨G,λk=>S' k\/S2 k,h5,h2.cons trivial,StW.lent (own:=[r]) (own':=[bif t then r1 else r0]) h3 k2 kS kd hc (star1.2 hr') hS'⟩
abbrev FinR(ro:Option Nat)(n:Nat)(ops:Array Oper)(Q:Exit->Act->World->Prop)(m:Nat):Array Bool->Act->World->Prop:=λlisted a w=>wpAnyIn (FW ro) n Tryz.prog .any ops Q m listed a w
theorem opIn_of[NoOut Q](hd:noDef ops.toList=true){i:Nat}{K K':Act->World->Prop}{a:Act}{w:World}(hK:∀a w,K a w->K' a w)(h:wpOp Tryz.prog ops Q i K a w):wpOpIn (FW ro) n Tryz.prog ops Q i K' a w:=by
 unfold wpOp at h
 unfold wpOpIn
 split
 ·rename_i hn
  rw [hn] at h;exact hK _ _ h
 ·rename_i o ho
  rw [ho] at h
  dsimp only at h
  split
  ·rename_i hw
   rw [if_pos hw] at h;exact op_in (noDef_mem hd (by simpa using Array.mem_of_getElem? ho)) (h.imp (Oper.wp_mono hK) id)
  ·rename_i hw
   rw [if_neg hw] at h;exact⟨λ_ _=>trivial,hK _ _ h⟩
theorem anyIn_of_P[NoOut Q](hd:noDef ops.toList=true){p:Nat->Bool}{m:Nat}:∀(fuel:Nat) (listed:Array Bool) (a:Act) (w:World),wpAnyP Tryz.prog ops Q Inv p (FinR ro n ops Q m) fuel listed a w->wpAnyIn (FW ro) n Tryz.prog .any ops Q (m+fuel) listed a w
 | 0,_,_,_,h=>h.2
 | fuel+1,_,_,_,h=>⟨λh0=>absurd h0 h.1,λi hi=>opIn_of hd (λa' w' h'=>anyIn_of_P hd fuel _ a' w' h'.2) (h.2 i hi)⟩
theorem wpAnyIn_forcedJ{l:List Oper}:∀(ks:List Nat) (listed:Array Bool) (a:Act) (w:World),(∀k∈ks,k<l.length)->forcedJ l.toArray ks listed=true ->
  wpListIn (FW ro) n Tryz.prog l.toArray Q (opsJ l ks) a w->wpAnyIn (FW ro) n Tryz.prog .any l.toArray Q ks.length listed a w
 | [],_,_,_,_,hB,h=>⟨by simpa [forcedJ] using hB,h⟩
 | k::ks,listed,a,w,hl,hB,h=>by
  obtain⟨o,ho⟩:∃o,l[k]?=some o:=⟨_,List.getElem?_eq_getElem (hl k aM)⟩
  have h0:l.toArray[k]?=some o:=by simpa using ho
  simp only [forcedJ,aK,decide_eq_true_eq] at hB;obtain⟨hr,hB'⟩:=hB
  unfold opsJ at h
  rw [ho] at h
  dsimp only at h
  refine⟨λe=>(by rw [hr] at e;cases e),λi hi=>?_⟩;rw [hr,aE] at hi;subst hi;have hl':∀j∈ks,j<l.length:=λj hj=>hl j (aI _ hj)
  unfold wpOpIn
  simp only [h0]
  unfold wpListIn at h
  split
  ·rename_i hw
   simp only [hw,if_true] at h;exact Oper.wpIn_mono (λa' w' h'=>wpAnyIn_forcedJ ks _ a' w' hl' hB' h') h
  ·rename_i hw
   simp only [hw] at h;exact⟨λ_ _=>trivial,wpAnyIn_forcedJ ks _ _ _ hl' hB' (by simpa using h.2)⟩
theorem p_tailR{ks:List Nat}{listed:Array Bool}(js:List Nat){l l':List Oper}(hB:((Region.ready .any l.toArray listed).all (λj=>ks.all λi=>waitsT .any l.toArray l.toArray.size j i)&&js.all (λk=>decide (k<l.length))&&forcedJ l.toArray js listed)=true)(hl:opsJ l js=l')(h:tS ro n b l.toArray (NoPanic Q) N l' e) :
  pS Tryz.prog b Q N l.toArray Inv (memJ ks) (FinR ro n l.toArray (NoPanic Q) js.length) 0 listed e:=λ_ a w hst _=>by
 subst hl;simp only [aK,bT,decide_eq_true_eq] at hB;refine⟨λj hj i hi=>?_,wpAnyIn_forcedJ js listed a w hB.1.2 hB.2 (h a w hst)⟩;obtain⟨k,hk,e⟩:=List.any_eq_true.1 hi;obtain rfl:=Nat.eq_of_beq_eq_true e;exact hB.1.1 j hj k hk
theorem r_anyP[NoOut Q]{l:List Oper}{id:Nat}(ks:List Nat)(f m:Nat)(Inv:World->Prop)(hm:Tryz.prog.follows .mixedOrders=true)(hn:m+f=l.length)(hd:noDef l=true)(h0:∀a w,St b N e a w->Inv w)(h:pS Tryz.prog b Q N l.toArray Inv (memJ ks) (FinR ro n l.toArray (NoPanic Q) m) f (aU l.toArray.size false) e):rS ro n b (.region id l.toArray true) Q N e:=λa w hst=>by
 refine wpIn_mono (Q:=NoPanic Q) (wpIn_region_any hm ?_) λe a w h=>NoPanic.imp e a w h;obtain⟨G,S,h1,h2,h3⟩:=hst;have hs:St b N e a w.drew:=⟨G,S,h1,h2,h3.drew⟩;have h4:=anyIn_of_P (by simpa using hd) f _ a w.drew (h (Closed.none _) a w.drew hs (h0 a _ hs))
 have e1:m+f=l.toArray.size:=by simpa using hn
 rw [e1] at h4;exact h4
instance{fn:Func}{b:Base}{α:Type}{post:Post α}:NoOut (bodyPost Tryz.prog fn (endS b post)):=⟨λa w hq=>by
  obtain⟨_,_,h,_⟩:=hq
  cases h⟩
theorem s_of_r{c:Code}(h:rS none 0 b c Q N e):cS Tryz.prog b c Q N e:=λa w hs=>(wpIn_wide (n:=0)).1 (h a w hs)
end
def withD(ds:List Deferred)(a:Act):Act:={ a with defers:=a.defers++ds }
theorem put_withD(ds:List Deferred)(a:Act)(d:Option Tmp)(v:Value):(withD ds a).put d v=withD ds (a.put d v):=by cases d<;>rfl
def Qd(ds:List Deferred)(Q:Exit->Act->World->Prop):Exit->Act->World->Prop:=λe a w=>Q e (withD ds a) w
def dS(ds:List Deferred)(b:Base)(c:Code)(Q:Exit->Act->World->Prop)(N:Nat)(e:Env):Prop:=∀a w,St b N e a w->c.wp Tryz.prog Q (withD ds a) w
def kD(ds:List Deferred)(b:Base)(K:Act->World->Prop)(N:Nat)(e:Env):Prop:=∀a w,St b N e a w->K (withD ds a) w
section
variable{P:Program}{ds:List Deferred}{Q:Exit->Act->World->Prop}{ops:Array Oper}
theorem op_withD{o:Oper}{a:Act}{w:World}{next next':Act->World->Prop}(hn:∀a w,next a w->next' (withD ds a) w)(h:o.wp P a w next (Qd ds Q)\/(o.asks P a w/\LetsOut (Qd ds Q))):o.wp P (withD ds a) w next' Q\/(o.asks P (withD ds a) w/\LetsOut Q):=by
 rcases h with h|⟨h1,a',w',h2⟩
 ·refine .inl ?_
  unfold Oper.wp at h ⊢
  have e:(withD ds a).eval=a.eval:=rfl;rw [e];generalize (execOp a.eval o).run P w=r at *
  cases r with
  | ok x w' =>
   cases x with
   | value v =>
    show next' ((withD ds a).put o.dst v) w'
    rw [put_withD];exact hn _ _ h
   | skip =>
    show next' ((withD ds a).put o.dst undef) w'
    rw [put_withD];exact hn _ _ h
   | defer d =>
    have h':next (({ a with defers:=d::a.defers }:Act).put o.dst undef) w':=h;have h2:=hn _ _ h';rw [<-put_withD] at h2;exact h2
   | enter f args =>
    have h':Calls P f args w' _:=h;refine h'.mono λe w'' he=>?_
    cases e with
    | returned v =>
     show next' ((withD ds a).put o.dst v) w''
     rw [put_withD];exact hn _ _ he
    | panicked c=>exact he
    | outgrown =>
     obtain⟨a1,w1,h1⟩:=he;exact⟨_,w1,h1⟩
   | row row args =>
    have h':Rows P row args w' _:=h;refine h'.mono λv w'' he=>?_
    show next' ((withD ds a).put o.dst v) w''
    rw [put_withD];exact hn _ _ he
   | _=>exact h.elim
  | halt x w'=>cases x<;>exact h
 ·exact .inr ⟨h1,_,w',h2⟩
theorem list_withD:∀{l:List Oper} {a:Act} {w:World},wpList P ops (Qd ds Q) l a w->wpList P ops Q l (withD ds a) w
 | [],_,_,h=>h
 | o::l,a,w,h=>by
  unfold wpList at h ⊢
  have e:(withD ds a).tmps=a.tmps:=rfl;rw [e]
  split
  ·rename_i hw
   rw [if_pos hw] at h;exact op_withD (λa' w' h'=>list_withD h') h
  ·rename_i hw
   rw [if_neg hw] at h;rw [put_withD];exact list_withD h
theorem any_withD{md:Region.Mode}:∀{fuel:Nat} {listed:Array Bool} {a:Act} {w:World},wpAny P md ops (Qd ds Q) fuel listed a w->wpAny P md ops Q fuel listed (withD ds a) w
 | 0,_,_,_,h=>h
 | fuel+1,listed,a,w,h=>by
  refine⟨h.1,λi hi=>?_⟩;have h2:=h.2 i hi
  unfold wpOp at h2 ⊢
  have e:(withD ds a).tmps=a.tmps:=rfl;rw [e]
  split
  ·rename_i hn
   rw [hn] at h2;exact any_withD h2
  ·rename_i o ho
   rw [ho] at h2
   dsimp only at h2
   split
   ·rename_i hw
    rw [if_pos hw] at h2;exact op_withD (λa' w' h'=>any_withD h') h2
   ·rename_i hw
    rw [if_neg hw] at h2;rw [put_withD];exact any_withD h2
end
section
variable{T:List TyR}{ds:List Deferred}{b:Base}{Q:Exit->Act->World->Prop}{N:Nat}{e e':Env}{E:SE}{L:List LV}{R:List Res}{F M:World->Prop}{id:Nat}{l l':List Oper}{x y:Code}
theorem d_weak{c:Code}(hw:Weak e e')(h:dS ds b c Q N e'):dS ds b c Q N e:=λa w hs=>h a w (hs.weak hw)
theorem d_of_s{c:Code}(h:cS Tryz.prog b c Q N e):dS [] b c Q N e:=λa w hs=>by
 have:withD [] a=a:=by
  unfold withD
  rw [bJ]
 rw [this];exact h a w hs
theorem d_seq(h:∀K:Act->World->Prop,(∀e',dS ds b y Q N e'->kD ds b K N e')->dS ds b x (Exit.then K Q) N e):dS ds b (.seq x y) Q N e:=λa w hs =>
 wp_seq_k λK hK=>h K (λ_ h' a' w' hs'=>hK _ _ (h' a' w' hs')) a w hs
theorem d_lit(h:lS Tryz.prog b l.toArray (Qd ds Q) N l e):dS ds b (.region id l.toArray false) Q N e:=λa w hs=>wp_region_lit (list_withD (h a w hs))
theorem d_auto{E':SE}{L':List LV}(hT:OkT Tryz.prog T)(h:autoS T l.toArray N l E L=([],E',L'))(hn:dS ds b y Q N ⟨E',L',R,F,M⟩):dS ds b (.seq (.region id l.toArray false) y) Q N ⟨E,L,R,F,M⟩ :=
 d_seq λ_ hK=>d_lit (l_autoS hT h (s_end (hK _ hn)))
theorem d_regA{E':SE}{L':List LV}(hT:OkT Tryz.prog T)(h:autoS T l.toArray N l E L=(l',E',L'))(hn:∀K:Act->World->Prop,(∀e',dS ds b y Q N e'->kD ds b K N e')->lS Tryz.prog b l.toArray (Qd ds (Exit.then K Q)) N l' ⟨E',L',R,F,M⟩):dS ds b (.seq (.region id l.toArray false) y) Q N ⟨E,L,R,F,M⟩ :=
 d_seq λK hK=>d_lit (l_autoS hT h (hn K hK))
theorem d_end{ops:Array Oper}{K:Act->World->Prop}(h:kD ds b K N e):lS Tryz.prog b ops (Qd ds (Exit.then K Q)) N [] e:=λa w hs=>h a w hs
theorem d_drawn(m:Nat)(hn:m<=l.length)(hm:Tryz.prog.follows .mixedOrders=true)(hB:tailH l.toArray m (l.drop m).length=true)
 (h:∀G S w0,StW b G S L R F M w0->gS Tryz.prog b l.toArray (Qd ds Q) N (l.drop m) G w0 (idx 0 (l.take m)) E):dS ds b (.region id l.toArray true) Q N ⟨E,L,R,F,M⟩:=λ_ w ⟨G,S,h1,h2,h3⟩ =>
 wp_region_any hm (any_withD (any_gS m hn hB h1 h2 (h G S w h3)))
theorem d_regD(m:Nat)(hn:m<=l.length)(hm:Tryz.prog.follows .mixedOrders=true)(hB:tailH l.toArray m (l.drop m).length=true)
 (h:∀K:Act->World->Prop,(∀e',dS ds b y Q N e'->kD ds b K N e')->∀G S w0,StW b G S L R F M w0->gS Tryz.prog b l.toArray (Qd ds (Exit.then K Q)) N (l.drop m) G w0 (idx 0 (l.take m)) E):dS ds b (.seq (.region id l.toArray true) y) Q N ⟨E,L,R,F,M⟩ :=
 d_seq λK hK=>d_drawn m hn hm hB (h K hK)
theorem d_if{c:Operand}(t:Bool)(hc:evS E c=some (.b t))(h1:t=true->dS ds b x Q N ⟨E,L,R,F,M⟩)(h2:t=false->dS ds b y Q N ⟨E,L,R,F,M⟩):dS ds b (.cond c x y) Q N ⟨E,L,R,F,M⟩:=λa w hs=>by
 have hs':=hs;obtain⟨G,S,h3⟩:=hs;exact wp_cond_split (show(withD ds a).eval c=_ from h3.fr.eval (evS_ok hc)) (λht=>h1 ht a w hs') (λht=>h2 ht a w hs')
theorem d_ifD{c:Operand}(p:Prop)[Decidable p](hc:evS E c=some (.b (decide p)))(h1:p->dS ds b x Q N ⟨E,L,R,F,M⟩)(h2:¬p->dS ds b y Q N ⟨E,L,R,F,M⟩):dS ds b (.cond c x y) Q N ⟨E,L,R,F,M⟩ :=
 d_if (decide p) hc (λh=>h1 (of_decide_eq_true h)) (λh=>h2 (of_decide_eq_false h))
theorem d_no{c:Operand}(hc:evS E c=some (.v (.bool false)))(h1:dS ds b y Q N ⟨E,L,R,F,M⟩):dS ds b (.cond c x y) Q N ⟨E,L,R,F,M⟩:=λa w hs=>by
 have hs':=hs;obtain⟨G,S,h3⟩:=hs;exact wp_cond_false (show(withD ds a).eval c=_ from h3.fr.eval (evS_ok hc)) (h1 a w hs')
theorem d_block{c:Code}(h:dS ds b c (jJ id Q) N e):dS ds b (.block id c) Q N e:=λa w hs=>wp_block (h a w hs)
theorem d_skip(h:kD ds b (Q .normal) N e):dS ds b .skip Q N e:=λa w hs=>wp_skip (h a w hs)
theorem d_ret(h:kD ds b (Q .ret) N e):dS ds b .ret Q N e:=λa w hs=>wp_ret (h a w hs)
end
def DefR(D:Nat):Res where
  holds w S:=w.heap[D]?=some (.deferred (some []))/\∀k,S k↔k=D
  keep:=λ⟨h1,h2⟩ hk=>⟨(hk D ((h2 D).2 rfl)).trans h1,h2⟩
  lt:=λ⟨h1,h2⟩ k hk=>by rw [(h2 k).1 hk];exact(Array.getElem?_eq_some_iff.1 h1).1
abbrev dD(D:Nat):Deferred:={ target:=.collected D,args:=#[] }
abbrev bodyM(fn:Func)(R:Ending->World->Prop):Exit->Act->World->Prop:=bodyPostM lW 0 Tryz.prog fn R
theorem chg_putObj(w:World)(l:Nat)(o:Obj):Chg (λk=>k=l) w (w.putObj l o):=⟨rfl,rfl,rfl,by simp,λk _ hn=>World.putObj_heap_other hn⟩
theorem StW.drop{b:Base}{G:Nat->Nat}{S:Nat->Prop}{L:List LV}{r:Res}{R:List Res}{F M:World->Prop}{w w':World}{D:Nat}(h:StW b G S L (r::R) F M w)(hr:∀S1,r.holds w S1->S1 D)(hc:Chg (λk=>k=D) w w'):∃S2,StW b G S2 L R F M w':=by
 obtain⟨S1,S2,h1,h2,h3,h4⟩:=h.res
 have hD:∀k,k=D->S1 k:=λk hk=>by rw [hk];exact hr S1 h1
 have:=h.chgd (R':=R) (S1:=S1) (S2:=S2) (S':=λ_=>False) h3 (hc.mono λk _ hk=>hD k hk) ((h2.keep λk hk=>hc.block k (h2.lt k hk) λe=>h4 k (hD k e) hk).same λk=>⟨.inr,λh=>h.elim False.elim id⟩) λ_ h _=>h.elim;exact⟨_,this⟩
theorem k_retM{b:Base}{fn:Func}{N:Nat}{E:SE}{L:List LV}{R:List Res}{F M:World->Prop}{α:Type}{post:Post α}:∀(Ds:List Nat),kS b (bodyPost Tryz.prog fn (endS b post) .ret) N ⟨E,L,R,F,M⟩->kD (Ds.map dD) b (bodyM fn (endS b post) .ret) N ⟨E,L,Ds.map DefR++R,F,M⟩
 | [],h=>λa w hs=>by
  have h1:=(h a w hs).2
  have e:(withD ([].map dD) a).defers=[]:=by
   obtain⟨G,S,h3⟩:=hs
   show a.defers++[]=[]
   rw [bJ];exact h3.fr.defers
  show LeavesInM lW 0 Tryz.prog fn a.tmps (endS b post) (withD ([].map dD) a).defers .returning w
  rw [e];exact h1
 | D::Ds,h=>λa w ⟨G,S,h1,h2,h3⟩=>by
  obtain⟨S1,S2,k1,_⟩:=h3.res;obtain⟨S3,h4⟩:=StW.drop (D:=D) h3 (λS1 hS=>(hS.2 D).2 rfl) (chg_putObj w D (.deferred none));have h5:=k_retM Ds h a _ ⟨G,S3,h1,h2,h4⟩;have e0:a.defers=[]:=h1.defers
  show LeavesInM lW 0 Tryz.prog fn a.tmps (endS b post) (a.defers++dD D::Ds.map dD) .returning w
  have h6:LeavesInM lW 0 Tryz.prog fn a.tmps (endS b post) (a.defers++Ds.map dD) .returning (w.putObj D (.deferred none)):=h5;rw [e0] at h6 ⊢;exact⟨λe=>(by cases e),.inl ⟨D,_,rfl,run_takeDeferred k1.1,h6⟩⟩
theorem spec_D{f:FuncId}{fn:Func}{c:Code}{own:List Res}{F:World->Prop}{α:Type}{post:Post α}(vs:List SQ)(N:Nat)(hf:Tryz.prog.funcs[f]?=some fn)(hb:fn.body=some c)(hn:vs.length+(fn.ntmps-vs.length)=N)(hv:∀v∈vs,v.Ok)
 (h:∀b:Base,dS [] b c (bodyM fn (endS b post)) N ⟨argS 0 vs,[],own,F,λ_=>True⟩):Spec f (vs.map SQ.den) own F post:=λw S X hS hX hF=>by
 refine(callsIn_wide (n:=0)).1 (callsIn_of_wp_marks hf hb trivial ((wpIn_wide (n:=0)).2 ?_) rfl)
 have key:∀a,Fr N (denE (λ_=>0) (argS 0 vs)) a->c.wp Tryz.prog (bodyM fn (endS ⟨X,w,S⟩ post)) a w:=λa ha=>by
  have h1:=h ⟨X,w,S⟩ a w ⟨λ_=>0,S,ha,argS_ok hv,λx hx=>(by cases hx),sC,hS,λx hx=>(by cases hx),?_,λ_ _=>trivial,Chg.refl _ _,λk hk _=>?_,hX⟩
  ·have:withD [] a=a:=by
    unfold withD
    rw [bJ]
   rwa [this] at h1
  ·exact hF.less λk _ hk=>hk.imp id λhk=>hk.elim id λ⟨j,hj,_⟩=>by cases hj
  ·exact hk.elim id λ⟨j,hj,_⟩=>by cases hj
 exact key _ (Fr.start (by simpa using hn) _ λk v hk=>by
  rw [argS_den] at hk;have:=(argE_look (vs.map SQ.den) 0 k v hk).2
  simpa using this)
end Go.Proofs.YtlhlkofpjhpaoaaGreatDoor
namespace Go.Proofs.YtlhlkofpjhpaoaaGreatDoor
open Go.RowKit Go.IntWalk Nums
theorem row_at{n:Nat}{l:List UInt8}{j:Nat}(hj:j<l.length):(catP [.agg n (By l).toArray])[0+1*j]?=some (.int .u8 ((l[j]!).toNat:Int)):=by
 rw [aX,Nat.one_mul]
 show(By l).toArray[j]?=_
 exact By_get hj
def eP(p:PairT):SQ:=.p [.agg 32 (By p.1).toArray,.agg 32 (By p.2).toArray]
def OkT2(p:PairT):Prop:=p.1.length=32/\p.2.length=32
theorem eP_ok{p:PairT}(h:OkT2 p):OkP (eP p).parts1/\(eP p).cl.length=64:=by
 have h1:(By p.1).toArray.size=32:=by rw [aV,By_len,h.1]
 have h2:(By p.2).toArray.size=32:=by rw [aV,By_len,h.2]
 refine⟨λq hq=>?_,?_⟩
 ·rcases aJ.1 hq with rfl|hq
  ·exact⟨h1,By_one p.1⟩
  ·rw [aE.1 hq]
   exact⟨h2,By_one p.2⟩
 ·rw [SQ.cl,Array.length_toList]
  show(catP [Pt.agg 32 (By p.1).toArray,.agg 32 (By p.2).toArray]).size=64
  rw [catP_cons,Array.size_append]
  simp [Pt.cells,catP,By_len,h.1,h.2]
abbrev PX:=Option Addr×Nat
theorem rootT_len:∀(r:Nat) (l:List PairT),(eX r l).length=32
 | r,[]=>by rw [nC];rfl
 | r,[p]=>by rw [lN];exact digest256_len _
 | 0,_::_::_=>rfl
 | r+1,p::q::l=>by rw [l9 (by simp)];exact digest256_len _
theorem runO_allQ{P:Program}{N:Nat}{E:SE}{o:Oper}{x:Operand}{t e:TypeId}{g off n sz:Nat}(ho:o.op = .slice t x none none none)(ht:P.underlying t=some (.array n e))(he:(P.info? e).map (·.size)=some sz)(hx:evS E x=some (.v (.pointer (some ⟨g,off,none⟩)))) :
  ∀(G:Nat->Nat) (a:Act) (w:World),Fr N (denE G E) a->(execOp a.eval o).run P w = .ok (.value ((SV.v (.slice (some ⟨g,off,none⟩) n n)).den G)) w:=λG a w ha=>by
 have h1:a.eval x = .pointer (some ⟨g,off,none⟩):=ha.eval (evS_ok hx);have h5:=run_sizeOf he w
 unfold execOp
 simp only [ho];generalize a.eval=ρ at *;simp only [Option.map,h1]
 show _=Result.ok (Next.value (.slice (some ⟨g,off,none⟩) n n)) w
 simp [Instr.sliceAt,Instr.sureAddr,run_underlying ht,Instr.sliceBounds,h5,aF,cU]
theorem eP_cl(p:PairT):(eP p).cl=By p.1++By p.2:=by
 show(catP [Pt.agg 32 (By p.1).toArray,.agg 32 (By p.2).toArray]).toList=_
 rw [catP_cons]
 simp [Pt.cells,catP]
theorem rd_pair{g o c i:Nat}{l:List PairT}{p:PairT}{w:World}(h:Rd 64 eP (some ⟨g,o,none⟩) c l w)(hi:l[i]?=some p)(hp:OkT2 p) :
  SB w (.slice (some ⟨g,o+64*i,none⟩) 32 32) p.1/\SB w (.slice (some ⟨g,o+64*i+32,none⟩) 32 32) p.2:=by
 obtain⟨_,_,_,_,h5⟩:=h;obtain⟨b',o',e,hb,hr⟩:=h5 (iN (aQ _) (bC.1 hi).1)
 injection e with e
 injection e with e1 e2
 subst e1;subst e2;have hr:=hr i p hi;rw [eP_cl] at hr
 have hl1:(By p.1).length=32:=by rw [By_len];exact hp.1
 refine⟨⟨_,_,by rw [hp.1],by rw [hp.1];exact aH _,by decide,λh=>(by cases h),λ_=>⟨_,rfl,aQ _,hb,λj x hx=>?_⟩⟩,⟨_,_,by rw [hp.2],by rw [hp.2];exact aH _,by decide,λh=>(by cases h),λ_=>⟨_,rfl,aQ _,hb,λj x hx=>?_⟩⟩⟩
 ·have hj:j<32:=by rw [<-hp.1];exact(bC.1 hx).1
  rw [cU];refine hr j _ ?_;rw [iR (by omega)]
  simp [By,hx]
 ·rw [cU,bW (o+64*i)]
  refine hr (32+j) _ ?_;rw [cD (by omega),hl1,g6]
  simp [By,hx]
inductive TA where
  | nil
  | leaf (g h:Nat) (p:PairT)
  | node (g:Nat) (a b:TA)
namespace TA
def ptr:TA->Option Nat
  | nil=>none
  | leaf g _ _=>some g
  | node g _ _=>some g
def root:TA->List UInt8
  | nil=>dF
  | leaf _ _ p=>iB p
  | node _ a b=>fF a.root b.root
def len:TA->Nat
  | nil=>0
  | leaf _ _ _=>1
  | node _ a b=>a.len+b.len
def val(t:TA):Value:=.pointer (t.ptr.map λg=>⟨g,0,none⟩)
def all:TA->List PairT
  | nil=>[]
  | leaf _ _ p=>[p]
  | node _ a b=>a.all++b.all
end TA
def prPs(p:PairT):List Pt:=[.agg 32 (By p.1).toArray,.agg 32 (By p.2).toArray]
def lfPs(h:Nat)(p:PairT):List Pt:=[.agg 32 (By (iB p)).toArray,.one (.v (.int .i64 1)),.one (.v (.pointer (some ⟨h,0,none⟩))),.agg 2 #[.pointer none,.pointer none]]
def ndPs(a b:TA):List Pt:=[.agg 32 (By (fF a.root b.root)).toArray,.one (.v (.int .i64 ((a.len+b.len:Nat):Int))),.one (.v (.pointer none)),.agg 2 #[a.val,b.val]]
def TF:TA->World->Prop
  | .nil,_=>True
  | .leaf g h p,w=>ObjF g 139 (lfPs h p) w/\ObjF h 135 (prPs p) w
  | .node g a b,w=>ObjF g 139 (ndPs a b) w/\TF a w/\TF b w
theorem TF.later:∀{t:TA} {w w':World},TF t w->Below w.heap.size w w'->TF t w'
 | .nil,_,_,_,_=>trivial
 | .leaf _ _ _,_,_,h,k=>⟨⟨h.1.1.later k,h.1.2⟩,⟨h.2.1.later k,h.2.2⟩⟩
 | .node _ _ _,_,_,h,k=>⟨⟨h.1.1.later k,h.1.2⟩,h.2.1.later k,h.2.2.later k⟩
instance{t:TA}:Pst (TF t):=⟨λ_ _ h k=>h.later k⟩
theorem TA.root_len:∀t:TA,t.root.length=32
 | .nil=>rfl
 | .leaf _ _ _=>digest256_len _
 | .node _ _ _=>digest256_len _
def TOk:Nat->List PairT->TA->Prop
  | _,l,.nil=>l=[]
  | _,l,.leaf _ _ p=>l=[p]
  | 0,_,.node _ _ _=>False
  | r+1,l,.node _ a b=>2<=l.length/\TOk r (b6 (255-r) l) a/\TOk r (bI (255-r) l) b
theorem TOk.root:∀{r:Nat} {l:List PairT} {t:TA},TOk r l t->t.root=eX r l
 | r,l,.nil,h=>by
  have h:l=[]:=by cases r<;>exact h
  subst h;exact(nC r).symm
 | r,l,.leaf _ _ p,h=>by
  have h:l=[p]:=by cases r<;>exact h
  subst h;exact(lN r p).symm
 | 0,_,.node _ _ _,h=>h.elim
 | r+1,l,.node _ a b,h=>by
  obtain⟨h1,h2,h3⟩:=h;rw [l9 h1,<-h2.root,<-h3.root]
  rfl
theorem sides_len(d:Nat)(l:List PairT):(b6 d l).length+(bI d l).length=l.length:=by
 unfold b6 bI
 induction l with
 | nil=>rfl
 | cons x l ih =>
  by_cases h:cQ x.1 d=0
  ·simp [h] at ih ⊢
   omega
  ·simp [h] at ih ⊢
   omega
theorem TOk.len:∀{r:Nat} {l:List PairT} {t:TA},TOk r l t->t.len=l.length
 | r,l,.nil,h=>by
  have h:l=[]:=by cases r<;>exact h
  subst h
  rfl
 | r,l,.leaf _ _ p,h=>by
  have h:l=[p]:=by cases r<;>exact h
  subst h
  rfl
 | 0,_,.node _ _ _,h=>h.elim
 | r+1,l,.node _ a b,h=>by
  obtain⟨h1,h2,h3⟩:=h;have:=sides_len (255-r) l
  show a.len+b.len=_
  rw [h2.len,h3.len,this]
theorem low1T(m:Nat)(h:m<256):bits .and .u8 (m:Int) 1=((m%2:Nat):Int):=by
 have key:∀m:Nat,m<256->bits .and .u8 (m:Int) 1=((m%2:Nat):Int):=by decide +kernel
 exact key m h
theorem run_shr8{N:Nat}{E:SE}{o:Oper}{x y:Operand}{t':TypeId}{m n:Nat}(hn:n<=8)(ho:o.op = .binOp .shr 5 x y t')(hx:evS E x=some (.v (.int .u8 (m:Int))))(hy:evS E y=some (.v (.int .u8 (n:Int)))) :
  ∀(G:Nat->Nat) (a:Act) (w:World),Fr N (denE G E) a->(execOp a.eval o).run Tryz.prog w = .ok (.value ((SV.v (.int .u8 ((m/2^n:Nat):Int))).den G)) w:=λG a w ha=>by
 have h1:a.eval x = .int .u8 (m:Int):=ha.eval (evS_ok hx);have h2:a.eval y = .int .u8 (n:Int):=ha.eval (evS_ok hy)
 have h3:(n:Int)<=8:=by omega
 unfold execOp
 simp only [ho,h1,h2]
 go_simp
 rfl
theorem run_and8{N:Nat}{E:SE}{o:Oper}{x y:Operand}{t':TypeId}{m n:Int}(ho:o.op = .binOp .and 5 x y t')(hx:evS E x=some (.v (.int .u8 m)))(hy:evS E y=some (.v (.int .u8 n))) :
  ∀(G:Nat->Nat) (a:Act) (w:World),Fr N (denE G E) a->(execOp a.eval o).run Tryz.prog w = .ok (.value ((SV.v (.int .u8 (bits .and .u8 m n))).den G)) w:=λG a w ha=>by
 have h1:a.eval x = .int .u8 m:=ha.eval (evS_ok hx);have h2:a.eval y = .int .u8 n:=ha.eval (evS_ok hy)
 unfold execOp
 simp only [ho,h1,h2]
 go_simp
 rfl
theorem wrapB{m r:Int}(h:m=r)(h1:0<=r)(h2:r<256):IntKind.u8.wrap m=r:=by
 subst h
 unfold IntKind.wrap
 simp [IntKind.bits,IntKind.signed]
 omega
theorem own_tbit:Own 112:=λ_ _=>by go_simp
theorem tbit_S{k:List UInt8}(hk:k.length=32)(n:Nat)(hn:n<256):Spec 112 [(eY 32 k).den,.int .u8 (n:Int)] [] (λ_=>True) (one (.v (.int .u8 ((cQ k n:Nat):Int)))):=by
 refine spec_S [eY 32 k,.c (.v (.int .u8 (n:Int)))] 14 Tryz.func112 rfl (by rw [Tryz.ntmps112];rfl) (two_ok (eY_ok hk).1 trivial) λb=>?_;refine s_auto TY_ok rfl ?_;refine s_regA TY_ok rfl λK hK=>?_;refine l_num 6 ((n/8:Nat):Int) rfl (wrapB (by rw [Int.tdiv_eq_ediv_of_nonneg (by omega)];omega) (by omega) (by omega)) ?_;refine l_op (.a 2 (0+1*(n/8))) trivial rfl rfl rfl (runO_ixA (n/8) rfl Tryz.underlying45 rfl rfl rfl (by omega)) ?_;refine l_opV (.v (.int .u8 ((k[n/8]!).toNat:Int))) trivial rfl rfl rfl (runO_ldA _ rfl rfl rfl (row_at (by omega)) Tryz.underlying5 rfl) ?_;have hlt:=(k[n/8]!).toNat_lt;have hb:cQ k n=(k[n/8]!).toNat/2^(7-n%8)%2:=rfl;generalize (k[n/8]!).toNat=v at *;refine l_autoS TY_ok rfl ?_;refine l_num 11 ((7-n%8:Nat):Int) rfl (wrapB (by rw [Int.tmod_eq_emod_of_nonneg (by omega)];omega) (by omega) (by omega)) ?_;refine l_op (.v (.int .u8 ((v/2^(7-n%8):Nat):Int))) trivial rfl rfl rfl (run_shr8 (by omega) rfl rfl rfl) ?_;have h2:v/2^(7-n%8)<256:=iN (Nat.div_le_self _ _) hlt;generalize v/2^(7-n%8)=z at *;refine l_op (.v (.int .u8 (bits .and .u8 (z:Int) 1))) trivial rfl rfl rfl (run_and8 rfl rfl rfl) ?_;refine l_num 13 ((z%2:Nat):Int) rfl (low1T z h2) ?_;refine l_autoS TY_ok rfl ?_;refine s_end (hK _ ?_);exact s_ret (k_ret TY_ok () rfl (by decide) rfl (congrArg (λx:Nat=>RV.v (.int .u8 (x:Int))) hb) rfl (λ_ _ _=>trivial) (λ_ _=>trivial))
theorem own_thash:Own 54:=λ_ _=>by go_simp
theorem own_tsize:Own 45:=λ_ _=>by go_simp
theorem tsize_S(t:TA):Spec 45 [t.val] [] (TF t) (one (.v (.int .i64 (t.len:Int)))):=by
 refine spec_S [.c (.v t.val)] 9 Tryz.func45 rfl (by rw [Tryz.ntmps45];rfl) (one_ok trivial) λb=>?_;refine s_auto TY_ok rfl ?_;refine s_seq λK hK=>?_
 cases t with
 | nil =>
  refine s_auto TY_ok rfl ?_;refine s_yes rfl ?_;refine s_auto TY_ok rfl ?_;exact s_ret (k_ret TY_ok () rfl (by decide) rfl rfl rfl (λ_ _ _=>trivial) (λ_ _=>trivial))
 | leaf g h p =>
  refine s_auto TY_ok rfl ?_;refine s_no rfl ?_;refine s_skip (hK _ ?_);refine s_regA TY_ok rfl λK2 hK2=>?_;refine l_ldO TY_ok rfl rfl rfl rfl rfl rfl (obj_fact λ_ h _=>h.1) ?_;refine l_autoS TY_ok rfl ?_;refine s_end (hK2 _ ?_);exact s_ret (k_ret TY_ok () rfl (by decide) rfl rfl rfl (λ_ _ _=>trivial) (λ_ _=>trivial))
 | node g x y =>
  refine s_auto TY_ok rfl ?_;refine s_no rfl ?_;refine s_skip (hK _ ?_);refine s_regA TY_ok rfl λK2 hK2=>?_;refine l_ldO TY_ok rfl rfl rfl rfl rfl rfl (obj_fact λ_ h _=>h.1) ?_;refine l_autoS TY_ok rfl ?_;refine s_end (hK2 _ ?_);exact s_ret (k_ret TY_ok () rfl (by decide) rfl rfl rfl (λ_ _ _=>trivial) (λ_ _=>trivial))
theorem thash_S(t:TA):Spec 54 [t.val] [] (TF t) (one (.q (eY 32 t.root))):=by
 refine spec_S [.c (.v t.val)] 10 Tryz.func54 rfl (by rw [Tryz.ntmps54];rfl) (one_ok trivial) λb=>?_;refine s_auto TY_ok rfl ?_;refine s_seq λK hK=>?_
 cases t with
 | nil =>
  refine s_auto TY_ok rfl ?_;refine s_yes rfl ?_;refine s_auto TY_ok rfl ?_;exact s_ret (k_ret TY_ok () rfl (by decide) rfl rfl rfl (λ_ _ _=>trivial) (λ_ _=>trivial))
 | leaf g h p =>
  refine s_auto TY_ok rfl ?_;refine s_no rfl ?_;refine s_skip (hK _ ?_);refine s_regA TY_ok rfl λK2 hK2=>?_;refine l_ldO TY_ok rfl rfl rfl rfl rfl rfl (obj_fact λ_ h _=>h.1) ?_;refine l_autoS TY_ok rfl ?_;refine s_end (hK2 _ ?_);exact s_ret (k_ret TY_ok () rfl (by decide) rfl rfl rfl (λ_ _ _=>trivial) (λ_ _=>trivial))
 | node g x y =>
  refine s_auto TY_ok rfl ?_;refine s_no rfl ?_;refine s_skip (hK _ ?_);refine s_regA TY_ok rfl λK2 hK2=>?_;refine l_ldO TY_ok rfl rfl rfl rfl rfl rfl (obj_fact λ_ h _=>h.1) ?_;refine l_autoS TY_ok rfl ?_;refine s_end (hK2 _ ?_);exact s_ret (k_ret TY_ok () rfl (by decide) rfl rfl rfl (λ_ _ _=>trivial) (λ_ _=>trivial))
end Go.Proofs.YtlhlkofpjhpaoaaGreatDoor
namespace Go.Proofs.YtlhlkofpjhpaoaaGreatDoor
open Go.RowKit Go.IntWalk Nums
section
variable{P:Program}{b:Base}{ops:Array Oper}{Q:Exit->Act->World->Prop}{N:Nat}{E E':SE}{L:List LV}{R:List Res}{F M:World->Prop}{g:Nat}{t:TypeId}{ps:List Pt}
theorem StW.objOut{G:Nat->Nat}{S:Nat->Prop}{w:World}(h:StW b G S L R F M w){i:Nat}(hi:R[i]?=some (ObjS g t ps)):∃S',StW b G S' L (R.eraseIdx i) (λw=>ObjF g t ps w/\F w) M w:=by
 obtain⟨S1,S2,h1,h2,h3,h4⟩:=h.let hi;refine⟨S2,h4.and λw' hw=>⟨?_,h1.1.2⟩⟩;have hg:S1 g:=(h1.2 g).2 rfl;have hlt:=h1.1.1.lt
 have hnot:¬Dof b.X S2 G L g:=by
  rintro(hx|hx|⟨j,hj,e⟩)
  ·obtain⟨hx1,hx2⟩:=h.old g hx
   exact hx2 (h.mine g (.inl ((h3 g).2 (.inl hg))) hx1)
  ·exact h2 g hg hx
  ·exact h.sep j hj (by rw [e];exact(h3 g).2 (.inl hg))
 exact(hw.block g hlt hnot).trans h1.1.1
theorem k_objOut{K:Act->World->Prop}(i:Nat)(hi:R[i]?=some (ObjS g t ps))(h:kS b K N ⟨E,L,R.eraseIdx i,λw=>ObjF g t ps w/\F w,M⟩):kS b K N ⟨E,L,R,F,M⟩:=λa w ⟨G,S,h1,h2,h3⟩=>by
 obtain⟨S',h4⟩:=h3.objOut hi;exact h a w ⟨G,S',h1,h2,h4⟩
theorem l_objOut{l:List Oper}(i:Nat)(hi:R[i]?=some (ObjS g t ps))(h:lS P b ops Q N l ⟨E,L,R.eraseIdx i,λw=>ObjF g t ps w/\F w,M⟩):lS P b ops Q N l ⟨E,L,R,F,M⟩:=λa w ⟨G,S,h1,h2,h3⟩=>by
 obtain⟨S',h4⟩:=h3.objOut hi;exact h a w ⟨G,S',h1,h2,h4⟩
theorem l_give{l:List Oper}{y:LV}(i:Nat)(hx:lookS E i=some (.a y.j 0))(hs:SubS E' E)(h:∀g,lS P b ops Q N l ⟨(i,.v (.pointer (some ⟨g,0,none⟩)))::E',L,ObjS g y.t y.ps::R,F,M⟩):lS P b ops Q N l ⟨E,y::L,R,F,M⟩:=k_give (K:=λa w=>wpList P ops Q l a w) i hx hs h
end
instance:Pst Tsh:=⟨λ_ _ h hb=>h.below hb⟩
theorem own_tsum:Own 63:=λ_ _=>by go_simp
theorem own_tleaf:Own 111:=λ_ _=>by go_simp
theorem own_tinner:Own 113:=λ_ _=>by go_simp
theorem prPs_ok{p:PairT}(h:OkP (prPs p)):OkT2 p:=by
 have h1:=(h (.agg 32 (By p.1).toArray) (by simp [prPs])).1;have h2:=(h (.agg 32 (By p.2).toArray) (by simp [prPs])).1;rw [aV,By_len] at h1 h2;exact⟨h1,h2⟩
theorem obj_pair{h:Nat}{t:TypeId}{p:PairT}{w:World}(hF:ObjF h t (prPs p) w):Rd 64 eP (some ⟨h,0,none⟩) 1 [p] w:=by
 refine⟨aH _,by decide,λe=>(by cases e),λx hx=>?_,λ_=>⟨h,0,rfl,hF.1.lt,λi x hx=>?_⟩⟩
 ·rw [aE.1 hx]
  exact eP_ok (prPs_ok hF.2)
 ·cases i with
  | zero =>
   simp only [List.getElem?_cons_zero,aT] at hx;subst hx;exact range_of (A:=[]) (Z:=[]) hF.1 (by simp [SQ.cl,SQ.den,eP,Value.cells,prPs])
  | succ i=>simp at hx
theorem tleaf_S(h:Nat)(p:PairT):Spec 111 [.pointer (some ⟨h,0,none⟩)] [] (λw=>ObjF h 135 (prPs p) w/\Tsh w) { ret:=λg:Nat=>.v (.pointer (some ⟨g,0,none⟩)),own:=λ_=>[],p:=λg=>TF (.leaf g h p) }:=by
 refine spec_S [.c (.v (.pointer (some ⟨h,0,none⟩)))] 17 Tryz.func111 rfl (by rw [Tryz.ntmps111];rfl) (one_ok trivial) λb=>?_;refine s_pure (OkT2 p) (λw hw _=>prPs_ok hw.1.2) λhp=>?_;refine s_auto TY_ok rfl ?_;refine s_regH 13 (by decide) (by kernel_rfl) (by kernel_rfl) λK hK G S w0 hst=>?_;refine h_lit TY_ok [(0:UInt8)] rfl rfl rfl rfl rfl rfl (λ_=>rfl) rfl (by decide) (by decide) λB=>?_;refine h_auto TY_ok hst rfl ?_;refine h_op hst (.v (.slice (some ⟨h,0+64*0,none⟩) 32 32)) trivial rfl rfl rfl rfl (runO_allQ rfl Tryz.underlying45 rfl rfl) ?_;refine h_auto TY_ok hst rfl ?_;refine h_op hst (.v (.slice (some ⟨h,0+64*0+32,none⟩) 32 32)) trivial rfl rfl rfl rfl (runO_allQ rfl Tryz.underlying45 rfl rfl) ?_;refine h_parts [.slice (some ⟨B,0,none⟩) 1 1,.slice (some ⟨h,0+64*0,none⟩) 32 32,.slice (some ⟨h,0+64*0+32,none⟩) 32 32] [[0],p.1,p.2] hst rfl rfl rfl rfl rfl rfl rfl (by decide) (by decide) (λw hw hu=>?_) λA=>?_
 ·have h1:=rd_pair (i:=0) (obj_pair hw.fact.1) rfl hp
  have h2:Rd 1 eB (some ⟨B,0,none⟩) 1 [0] w:=hu 0 _ rfl (by kernel_rfl);exact⟨h2.sb,h1.1,h1.2,trivial⟩
 refine h_call (r:=.q (eY 32 (iB p))) hst [.slice (some ⟨A,0,none⟩) 3 3] rfl rfl rfl rfl own_tsum rfl rfl (λ_=>rfl) (eY_ok (n:=32) (digest256_len _)).1 (λw hw hu=>?_) ?_
 ·have hA:PT w (some ⟨A,0,none⟩) [[0],p.1,p.2]:=hu 9 _ rfl (by kernel_rfl)
  have hr2:=sum256_f (some ⟨A,0,none⟩) [[0],p.1,p.2] 3 w hw.fact.2 hA (by simp) (by simp)
  have e:iB p=cM cO [[0],p.1,p.2].flatten:=by simp [iB]
  show Calls Tryz.prog _ _ w λe w'=>e = .returned (.agg (By (iB p)).toArray)/\_
  rw [e];exact hr2
 refine h_auto TY_ok hst rfl ?_;refine h_end hst ?_;refine l_autoS TY_ok rfl ?_;refine s_end (hK _ ?_);refine s_ret (k_give 2 rfl (E':=[]) trivial λg=>?_);refine k_objOut 0 rfl ?_;exact k_ret TY_ok g rfl (by decide) rfl rfl rfl (λ_ hw _=>⟨hw.1,hw.2.1⟩) (λ_ _=>trivial)
def sdPs(a b:TA):List Pt:=[.agg 2 #[a.val,b.val]]
theorem val_one(t:TA):t.val.oneCell'=true:=by cases t<;>rfl
theorem sdPs_ok(a b:TA):OkP (sdPs a b):=λp hp=>by
 rw [aE.1 hp];refine⟨rfl,λv hv=>?_⟩
 rcases aJ.1 hv with rfl|hv
 ·exact val_one a
 ·rw [aE.1 hv]
  exact val_one b
theorem tinner_S(x y:TA)(hl:x.len+y.len<=1000000):Spec 113 [.agg #[x.val,y.val]] [] (λw=>TF x w/\TF y w/\Tsh w) { ret:=λg:Nat=>.v (.pointer (some ⟨g,0,none⟩)),own:=λ_=>[],p:=λg=>TF (.node g x y) }:=by
 refine spec_S [.p (sdPs x y)] 26 Tryz.func113 rfl (by rw [Tryz.ntmps113];rfl) (one_ok (sdPs_ok x y)) λb=>?_;refine s_auto TY_ok rfl ?_;refine s_new 6 [⟨3,45,(By dF).toArray⟩,⟨4,45,(By dF).toArray⟩] (by decide) rfl ⟨⟨rfl,rfl,rfl,rfl,rfl⟩,⟨rfl,rfl,rfl,rfl,rfl⟩,trivial⟩ (by kernel_rfl) (by kernel_rfl) (by kernel_rfl) λK hK G S w0 hst=>?_;refine n_op hst (.a 1 (0+1*0)) trivial rfl rfl rfl (runO_ixA 0 rfl Tryz.underlying137 rfl rfl rfl (by decide)) ?_;refine n_opV hst (.v x.val) trivial rfl rfl rfl (runO_ldA _ rfl rfl rfl rfl Tryz.underlying29 rfl) ?_;refine n_callS (F':=TF x) hst [x.val] rfl rfl rfl own_thash rfl rfl (λ_=>rfl) (thash_S x) (eY_ok x.root_len).1 (λ_ _ _ hv=>hv.fact.1) ?_;refine n_op hst (.a 1 (0+1*1)) trivial rfl rfl rfl (runO_ixA 1 rfl Tryz.underlying137 rfl rfl rfl (by decide)) ?_;refine n_opV hst (.v y.val) trivial rfl rfl rfl (runO_ldA _ rfl rfl rfl rfl Tryz.underlying29 rfl) ?_;refine n_callS (F':=TF y) hst [y.val] rfl rfl rfl own_thash rfl rfl (λ_=>rfl) (thash_S y) (eY_ok y.root_len).1 (λ_ _ _ hv=>hv.fact.2.1) ?_;have hx32:=x.root_len;have hy32:=y.root_len
 have sz:∀l:List UInt8,l.length=32->(By l).toArray.size=32:=λl h=>by rw [aV,By_len,h]
 refine n_new hst [⟨3,none,45,[.agg 32 (By x.root).toArray]⟩,⟨4,none,45,[.agg 32 (By y.root).toArray]⟩] [(By dF).toArray,(By dF).toArray] [.tmp 7,.tmp 10] rfl rfl rfl (λu hu=>?_) ⟨rfl,rfl,trivial⟩ rfl ⟨⟨rfl,rfl,rfl⟩,⟨rfl,rfl,rfl⟩,rfl⟩ ⟨⟨rfl,?_,?_,By_one _⟩,⟨rfl,?_,?_,By_one _⟩,trivial⟩ ?_
 ·rcases aJ.1 hu with rfl|hu
  ·exact(eY_ok hx32).1
  ·rw [aE.1 hu]
   exact(eY_ok hy32).1
 ·exact(sz dF rfl).trans (sz _ hx32).symm
 ·show _=some (By x.root).toArray.size
  rw [sz _ hx32]
  rfl
 ·exact(sz dF rfl).trans (sz _ hy32).symm
 ·show _=some (By y.root).toArray.size
  rw [sz _ hy32]
  rfl
 refine s_end (hK _ ?_);refine s_keep [1,2,3,4] [1,3,4] rfl rfl ?_;refine s_regH 13 (by decide) (by kernel_rfl) (by kernel_rfl) λK hK G S w0 hst=>?_;refine h_lit TY_ok [(1:UInt8)] rfl rfl rfl rfl rfl rfl (λ_=>rfl) rfl (by decide) (by decide) λB=>?_;refine h_op hst (.s 3 0 32 32) trivial rfl rfl rfl rfl (runO_all rfl Tryz.underlying45 rfl rfl) ?_;refine h_op hst (.s 4 0 32 32) trivial rfl rfl rfl rfl (runO_all rfl Tryz.underlying45 rfl rfl) ?_;refine h_parts [.slice (some ⟨B,0,none⟩) 1 1,(SV.s 3 0 32 32).den G,(SV.s 4 0 32 32).den G] [[1],x.root,y.root] hst rfl rfl rfl rfl rfl rfl rfl (by decide) (by decide) (λw hw hu=>?_) λA=>?_
 ·have h2:Rd 1 eB (some ⟨B,0,none⟩) 1 [1] w:=hu 0 _ rfl (by kernel_rfl)
  exact⟨h2.sb,sb_var (j:=3) rfl hx32 (by decide) G S w hw,sb_var (j:=4) rfl hy32 (by decide) G S w hw,trivial⟩
 refine h_call (r:=.q (eY 32 (fF x.root y.root))) hst [.slice (some ⟨A,0,none⟩) 3 3] rfl rfl rfl rfl own_tsum rfl rfl (λ_=>rfl) (eY_ok (n:=32) (digest256_len _)).1 (λw hw hu=>?_) ?_
 ·have hA:PT w (some ⟨A,0,none⟩) [[1],x.root,y.root]:=hu 3 _ rfl (by kernel_rfl)
  have hr2:=sum256_f (some ⟨A,0,none⟩) [[1],x.root,y.root] 3 w hw.fact.2.2 hA (by simp) (by simp)
  have e:fF x.root y.root=cM cO [[1],x.root,y.root].flatten:=by simp [fF]
  show Calls Tryz.prog _ _ w λe w'=>e = .returned (.agg (By (fF x.root y.root)).toArray)/\_
  rw [e];exact hr2
 refine h_op hst (.a 1 (0+1*0)) trivial rfl rfl rfl rfl (runO_ixA 0 rfl Tryz.underlying137 rfl rfl rfl (by decide)) ?_;refine h_opV hst (.v x.val) trivial rfl rfl rfl rfl (runO_ldA _ rfl rfl rfl rfl Tryz.underlying29 rfl) ?_;refine h_callS (F':=TF x) (r:=.v (.int .i64 (x.len:Int))) hst [x.val] rfl rfl rfl rfl own_tsize rfl rfl (λ_=>rfl) trivial (tsize_S x) (λ_ _ _ hv=>hv.fact.1) ?_;refine h_op hst (.a 1 (0+1*1)) trivial rfl rfl rfl rfl (runO_ixA 1 rfl Tryz.underlying137 rfl rfl rfl (by decide)) ?_;refine h_opV hst (.v y.val) trivial rfl rfl rfl rfl (runO_ldA _ rfl rfl rfl rfl Tryz.underlying29 rfl) ?_;refine h_callS (F':=TF y) (r:=.v (.int .i64 (y.len:Int))) hst [y.val] rfl rfl rfl rfl own_tsize rfl rfl (λ_=>rfl) trivial (tsize_S y) (λ_ _ _ hv=>hv.fact.2.1) ?_;refine h_auto TY_ok hst rfl ?_;refine h_num 22 ((x.len+y.len:Nat):Int) rfl (wrapI (by omega) (by omega) (by omega)) ?_;refine h_auto TY_ok hst rfl ?_;refine h_end hst ?_;refine l_autoS TY_ok rfl ?_;refine s_end (hK _ ?_);refine s_ret (k_give 2 rfl (E':=[]) trivial λg=>?_);refine k_objOut 0 rfl ?_;exact k_ret TY_ok g rfl (by decide) rfl rfl rfl (λ_ hw _=>⟨hw.1,hw.2.1,hw.2.2.1⟩) (λ_ _=>trivial)
theorem own_tput:Own 75:=λ_ _=>by go_simp
theorem putT_len:∀(l:List PairT) (p:PairT),l.length<=(dK l p).length/\(dK l p).length<=l.length+1
 | [],_=>⟨aQ _,aH _⟩
 | q::l,p=>by
  have:=putT_len l p
  unfold dK
  split
  ·simp only [List.length_cons];omega
  ·split
   ·simp
   ·simp
theorem wrapB2{d e r:Nat}(h:d=255-r/\r<=255)(he:(256-r)%256=e):IntKind.u8.wrap ((d:Int)+1)=(e:Int):=by
 unfold IntKind.wrap
 simp [IntKind.bits,IntKind.signed]
 omega
theorem val_cells(t:TA):t.val.cells = #[t.val]:=by cases t<;>rfl
theorem leftT_one{d:Nat}{q:PairT}(h:cQ q.1 d=0):b6 d [q]=[q]/\bI d [q]=[]:=by simp [b6,bI,h]
theorem rightT_one{d:Nat}{q:PairT}(h:cQ q.1 d≠0):b6 d [q]=[]/\bI d [q]=[q]:=by simp [b6,bI,h]
theorem TOk.nil{r:Nat}{l:List PairT}(h:l=[]):TOk r l .nil:=by cases r<;>exact h
theorem TOk.leaf{r:Nat}{l:List PairT}{g h:Nat}{p:PairT}(e:l=[p]):TOk r l (.leaf g h p):=by cases r<;>exact e
theorem TOk.nil_inv{r:Nat}{l:List PairT}(h:TOk r l .nil):l=[]:=by cases r<;>exact h
theorem TOk.leaf_inv{r:Nat}{l:List PairT}{g h:Nat}{p:PairT}(e:TOk r l (.leaf g h p)):l=[p]:=by cases r<;>exact e
theorem tput_S:∀(r:Nat) (l:List PairT) (t:TA) (h:Nat) (p:PairT),r<=256->TOk r l t->cV l->gE l->dN (256-r) (p::l)->l.length+1<=1000000 ->
  Spec 75 [t.val,.pointer (some ⟨h,0,none⟩),.int .u8 (((256-r)%256:Nat):Int)] [] (λw=>TF t w/\ObjF h 135 (prPs p) w/\Tsh w) { ret:=λx:{ t':TA // TOk r (dK l p) t' }=>.v x.1.val,own:=λ_=>[],p:=λx=>TF x.1 }:=by
 intro r
 induction r using Nat.strongRecOn with
 | ind r ih =>
 intro l t h p hr ht hs hk hsh hl
 obtain⟨D,hD⟩:∃D,(256-r)%256=D:=⟨_,rfl⟩;rw [hD];refine spec_S [.c (.v t.val),.c (.v (.pointer (some ⟨h,0,none⟩))),.c (.v (.int .u8 (D:Int)))] 71 Tryz.func75 rfl (by rw [Tryz.ntmps75];rfl) (more_ok trivial (two_ok trivial trivial)) λb=>?_;refine s_pure (OkT2 p) (λw hw _=>prPs_ok hw.2.1.2) λhp2=>?_;refine s_auto TY_ok rfl ?_;refine s_seq λK hK=>?_
 cases t with
 | nil =>
  obtain rfl:=ht.nil_inv;refine s_regD 23 (by decide) (by kernel_rfl) (by kernel_rfl) λK1 hK1 G S w0 hst=>?_;refine g_autoS TY_ok hst rfl ?_;refine g_skips rfl ?_;refine g_autoS TY_ok hst rfl ?_;refine g_endS hst ?_;refine s_end (hK1 _ ?_);refine s_yes rfl ?_;refine s_regA TY_ok rfl λK2 hK2=>?_;refine l_call0 [.pointer (some ⟨h,0,none⟩)] rfl rfl rfl own_tleaf rfl rfl (λ_ _=>rfl) (tleaf_S h p) (λ_ hw _=>⟨hw.2.1,hw.2.2⟩) λg=>?_;refine l_autoS TY_ok rfl ?_;refine s_end (hK2 _ ?_);exact s_ret (k_ret TY_ok ⟨.leaf g h p,TOk.leaf rfl⟩ rfl (by decide) rfl rfl rfl (λ_ hw _=>hw.1) (λ_ _=>trivial))
 | leaf g0 h0 q =>
  obtain rfl:=ht.leaf_inv;have hq:=hk q aM;refine s_regD 23 (by decide) (by kernel_rfl) (by kernel_rfl) λK1 hK1 G S w0 hst=>?_;refine g_autoS TY_ok hst rfl ?_;refine g_ldO TY_ok hst rfl rfl rfl rfl rfl rfl (obj_fact λ_ h _=>h.1.1) ?_;refine g_autoS TY_ok hst rfl ?_;refine g_ldO TY_ok hst rfl rfl rfl rfl rfl rfl (obj_fact λ_ h _=>h.1.1) ?_;refine g_autoS TY_ok hst rfl ?_;refine g_ldO TY_ok hst rfl rfl rfl rfl rfl rfl (obj_fact λ_ h _=>h.1.2) ?_;refine g_autoS TY_ok hst rfl ?_;refine g_ldO TY_ok hst rfl rfl rfl rfl rfl rfl (obj_fact λ_ h _=>h.2.1) ?_;refine g_autoS TY_ok hst rfl ?_;refine g_opS (.b (decide (q.1=p.1))) trivial rfl rfl rfl (run_eqY rfl rfl rfl Tryz.underlying45 (by kernel_rfl) hq hp2.1) ?_
  by_cases he:q.1=p.1
  ·refine g_is 29 true rfl (by simp [he]) ?_
   refine g_autoS TY_ok hst rfl ?_;refine g_endS hst ?_;refine s_end (hK1 _ ?_);refine s_yes rfl ?_;refine s_regA TY_ok rfl λK2 hK2=>?_;refine l_call0 [.pointer (some ⟨h,0,none⟩)] rfl rfl rfl own_tleaf rfl rfl (λ_ _=>rfl) (tleaf_S h p) (λ_ hw _=>⟨hw.2.1,hw.2.2⟩) λg=>?_;refine l_autoS TY_ok rfl ?_;refine s_end (hK2 _ ?_)
   have e2:dK [q] p=[p]:=by simp [dK,he,cE]
   exact s_ret (k_ret TY_ok ⟨.leaf g h p,TOk.leaf e2⟩ rfl (by decide) rfl rfl rfl (λ_ hw _=>hw.1) (λ_ _=>trivial))
  refine g_is 29 false rfl (by simp [he]) ?_;refine g_autoS TY_ok hst rfl ?_;refine g_endS hst ?_;refine s_end (hK1 _ ?_);refine s_no rfl ?_;refine s_skip (hK _ ?_)
  obtain⟨r,rfl⟩:∃q,r=q+1:=⟨r-1,by
   by_cases e:r=0
   ·subst e
    exact absurd (nF.all hq hp2.1 (hsh q (by simp) p (by simp))) he
   ·omega⟩
  obtain rfl:255-r=D:=by omega
  clear hst hK1;rw [show 256-(r+1)=255-r by omega] at hsh;obtain⟨d,hdr⟩:∃d,255-r=d:=⟨_,rfl⟩;obtain⟨e8,he8⟩:∃e,(256-r)%256=e:=⟨_,rfl⟩;have ih2:=λl t h p ht hs hk=>ih r (by omega) l t h p (by omega) ht hs hk;simp only [he8] at ih2;clear ih
  have hd:d<256:=by omega
  rw [hdr] at hsh ⊢
  have h2:2<=(dK [q] p).length:=by
   by_cases h3:dI q.1 p.1=true
   ·simp [dK,h3]
   ·simp [dK,h3,he]
  refine s_keep [0,1,2] [] rfl rfl ?_;refine s_regA TY_ok rfl λK1 hK1=>?_;refine l_ldO TY_ok rfl rfl rfl rfl rfl rfl (obj_fact λ_ h _=>h.1.1) ?_;refine l_autoS TY_ok rfl ?_;refine s_end (hK1 _ ?_);refine s_seq λK2 hK2=>?_;refine s_regA TY_ok rfl λK6 hK6=>?_;refine l_ldO TY_ok rfl rfl rfl rfl rfl rfl (obj_fact λ_ h _=>h.1.1) ?_;refine l_autoS TY_ok rfl ?_;refine s_end (hK6 _ ?_);refine s_yes rfl ?_
  have hrest:∀x y:TA,TOk r (b6 d [q]) x->TOk r (bI d [q]) y->∀en,Weak en ⟨[(1,.v (.pointer (some ⟨h,0,none⟩))),(2,.v (.int .u8 (d:Int))),(7,.a 7 0)],[⟨7,none,137,sdPs x y⟩],[],λw=>TF x w/\TF y w/\ObjF h 135 (prPs p) w/\Tsh w,λ_=>True⟩->kS b K2 71 en:=by
   intro x y hx hy en hw
   refine k_weak hw (hK2 _ ?_);have hb2:=kO p.1 d;refine s_regA TY_ok rfl λK3 hK3=>?_;refine l_ldO TY_ok rfl rfl rfl rfl rfl rfl (obj_fact λ_ h _=>h.2.2.1) ?_;refine l_autoS TY_ok rfl ?_;refine l_call0 [.agg (By p.1).toArray,.int .u8 (d:Int)] rfl rfl rfl own_tbit rfl rfl (λ_ _=>rfl) (tbit_S hp2.1 d hd) (λ_ _ _=>trivial) λ_=>?_;refine l_autoS TY_ok rfl ?_
   have hlen:∀t':TA,TOk (r+1) (dK [q] p) t'->t'.len<=1000000:=λt' ht'=>by
    rw [ht'.len];exact cN (putT_len [q] p).2 hl
   by_cases hbit:cQ p.1 d=0
   ·refine l_num 8 0 rfl (by rw [hbit];rfl) ?_
    refine s_end (hK3 _ ?_);refine s_keep [1,2,7,8] [7] rfl rfl ?_;refine s_regA TY_ok rfl λK4 hK4=>?_;refine l_op (.a 7 (0+1*0)) trivial rfl rfl rfl (runO_ixA 0 rfl Tryz.underlying137 rfl rfl rfl (by decide)) ?_;refine l_opV (.v x.val) trivial rfl rfl rfl (runO_ldA _ rfl rfl rfl rfl Tryz.underlying29 rfl) ?_;refine l_autoS TY_ok rfl ?_;refine l_num 66 (e8:Int) rfl (wrapB2 ⟨hdr.symm,by omega⟩ he8) ?_
    have eL:b6 d (dK [q] p)=dK (b6 d [q]) p:=by rw [lO hs hk hp2.1,if_pos hbit]
    have eR:bI d (dK [q] p)=bI d [q]:=by rw [kK hs hk hp2.1,if_pos hbit]
    have hsh2:dN (256-r) (p::b6 d [q]):=by
     have:=hsh.left;rw [show b6 d (p::[q])=p::b6 d [q] by simp [b6,hbit],show d+1=256-r by omega] at this;exact this
    refine l_call0 [x.val,.pointer (some ⟨h,0,none⟩),.int .u8 (e8:Int)] rfl rfl rfl own_tput rfl rfl (λ_ _=>rfl) (ih2 (b6 d [q]) x h p hx (hs.filter _) (hk.filter _) hsh2 (cN (jK (iQ _ _) 1) hl)) (λ_ h _=>⟨h.2.1,h.2.2.2.1,h.2.2.2.2⟩) λx'=>?_;refine l_autoS TY_ok rfl ?_;refine l_op (.a 7 (0+1*0)) trivial rfl rfl rfl (runO_ixA 0 rfl Tryz.underlying137 rfl rfl rfl (by decide)) ?_;refine l_stA (sdPs x'.1 y) rfl rfl rfl rfl rfl rfl rfl (val_cells _) (val_one _) (show _<2 by decide) (sdPs_ok _ _) rfl ?_;refine s_end (hK4 _ ?_);have hT:∀g,TOk (r+1) (dK [q] p) (.node g x'.1 y):=λg=>⟨h2,by show TOk r (b6 (255-r) (dK [q] p)) x'.1;rw [hdr,eL];exact x'.2,by show TOk r (bI (255-r) (dK [q] p)) y;rw [hdr,eR];exact hy⟩;refine s_keep [7] [7] rfl rfl ?_;refine s_regA TY_ok rfl λK5 hK5=>?_;refine l_call0 [.agg #[x'.1.val,y.val]] rfl rfl rfl own_tinner rfl rfl (λ_ _=>rfl) (tinner_S x'.1 y (hlen _ (hT 0))) (λ_ h _=>⟨h.1,h.2.2.2.1,h.2.2.2.2.2⟩) λg=>?_;refine l_autoS TY_ok rfl ?_;refine s_end (hK5 _ ?_);exact s_ret (k_ret TY_ok ⟨.node g x'.1 y,hT g⟩ rfl (by decide) rfl rfl rfl (λ_ hw _=>hw.1) (λ_ _=>trivial))
   ·refine l_num 8 1 rfl (by rw [show cQ p.1 d=1 by omega];rfl) ?_
    refine s_end (hK3 _ ?_);refine s_keep [1,2,7,8] [7] rfl rfl ?_;refine s_regA TY_ok rfl λK4 hK4=>?_;refine l_op (.a 7 (0+1*1)) trivial rfl rfl rfl (runO_ixA 1 rfl Tryz.underlying137 rfl rfl rfl (by decide)) ?_;refine l_opV (.v y.val) trivial rfl rfl rfl (runO_ldA _ rfl rfl rfl rfl Tryz.underlying29 rfl) ?_;refine l_autoS TY_ok rfl ?_;refine l_num 66 (e8:Int) rfl (wrapB2 ⟨hdr.symm,by omega⟩ he8) ?_
    have eL:b6 d (dK [q] p)=b6 d [q]:=by rw [lO hs hk hp2.1,if_neg hbit]
    have eR:bI d (dK [q] p)=dK (bI d [q]) p:=by rw [kK hs hk hp2.1,if_neg hbit]
    have hsh2:dN (256-r) (p::bI d [q]):=by
     have:=hsh.right;rw [show bI d (p::[q])=p::bI d [q] by simp [bI,hbit],show d+1=256-r by omega] at this;exact this
    refine l_call0 [y.val,.pointer (some ⟨h,0,none⟩),.int .u8 (e8:Int)] rfl rfl rfl own_tput rfl rfl (λ_ _=>rfl) (ih2 (bI d [q]) y h p hy (hs.filter _) (hk.filter _) hsh2 (cN (jK (iQ _ _) 1) hl)) (λ_ h _=>⟨h.2.2.1,h.2.2.2.1,h.2.2.2.2⟩) λy'=>?_;refine l_autoS TY_ok rfl ?_;refine l_op (.a 7 (0+1*1)) trivial rfl rfl rfl (runO_ixA 1 rfl Tryz.underlying137 rfl rfl rfl (by decide)) ?_;refine l_stA (sdPs x y'.1) rfl rfl rfl rfl rfl rfl rfl (val_cells _) (val_one _) (show _<2 by decide) (sdPs_ok _ _) rfl ?_;refine s_end (hK4 _ ?_);have hT:∀g,TOk (r+1) (dK [q] p) (.node g x y'.1):=λg=>⟨h2,by show TOk r (b6 (255-r) (dK [q] p)) x;rw [hdr,eL];exact hx,by show TOk r (bI (255-r) (dK [q] p)) y'.1;rw [hdr,eR];exact y'.2⟩;refine s_keep [7] [7] rfl rfl ?_;refine s_regA TY_ok rfl λK5 hK5=>?_;refine l_call0 [.agg #[x.val,y'.1.val]] rfl rfl rfl own_tinner rfl rfl (λ_ _=>rfl) (tinner_S x y'.1 (hlen _ (hT 0))) (λ_ h _=>⟨h.2.2.1,h.1,h.2.2.2.2.2⟩) λg=>?_;refine l_autoS TY_ok rfl ?_;refine s_end (hK5 _ ?_);exact s_ret (k_ret TY_ok ⟨.node g x y'.1,hT g⟩ rfl (by decide) rfl rfl rfl (λ_ hw _=>hw.1) (λ_ _=>trivial))
  have hb3:=kO q.1 d;refine s_lit ?_;refine l_autoS TY_ok rfl ?_;refine l_ldO TY_ok rfl rfl rfl rfl rfl rfl (obj_fact λ_ h _=>h.1.1) ?_;refine l_autoS TY_ok rfl ?_;refine l_ldO TY_ok rfl rfl rfl rfl rfl rfl (obj_fact λ_ h _=>h.1.2) ?_;refine l_autoS TY_ok rfl ?_;refine l_call0 [.agg (By q.1).toArray,.int .u8 (d:Int)] rfl rfl rfl own_tbit rfl rfl (λ_ _=>rfl) (tbit_S hq d hd) (λ_ _ _=>trivial) λ_=>?_;refine l_autoS TY_ok rfl ?_
  by_cases hqb:cQ q.1 d=0
  ·obtain⟨e1,e2⟩:=leftT_one hqb
   refine l_num 51 0 rfl (by rw [hqb];rfl) ?_;refine l_op (.a 7 (0+1*0)) trivial rfl rfl rfl (runO_ixA 0 rfl Tryz.underlying137 rfl rfl rfl (by decide)) ?_;refine l_stA (sdPs (.leaf g0 h0 q) .nil) rfl rfl rfl rfl rfl rfl rfl (val_cells (.leaf g0 h0 q)) (val_one (.leaf g0 h0 q)) (show _<2 by decide) (sdPs_ok _ _) rfl ?_;exact s_end (hrest (.leaf g0 h0 q) .nil (TOk.leaf e1) (TOk.nil e2) _ ⟨⟨rfl,rfl,rfl,trivial⟩,⟨rfl,rfl,trivial⟩,.refl _,λ_ h _=>⟨h.2.1,trivial,h.2.2.1,h.2.2.2⟩,λ_ _=>trivial⟩)
  ·obtain⟨e1,e2⟩:=rightT_one hqb
   refine l_num 51 1 rfl (by rw [show cQ q.1 d=1 by omega];rfl) ?_;refine l_op (.a 7 (0+1*1)) trivial rfl rfl rfl (runO_ixA 1 rfl Tryz.underlying137 rfl rfl rfl (by decide)) ?_;refine l_stA (sdPs .nil (.leaf g0 h0 q)) rfl rfl rfl rfl rfl rfl rfl (val_cells (.leaf g0 h0 q)) (val_one (.leaf g0 h0 q)) (show _<2 by decide) (sdPs_ok _ _) rfl ?_;exact s_end (hrest .nil (.leaf g0 h0 q) (TOk.nil e1) (TOk.leaf e2) _ ⟨⟨rfl,rfl,rfl,trivial⟩,⟨rfl,rfl,trivial⟩,.refl _,λ_ h _=>⟨trivial,h.2.1,h.2.2.1,h.2.2.2⟩,λ_ _=>trivial⟩)
 | node g0 x0 y0 =>
  obtain⟨r,rfl⟩:∃q,r=q+1:=⟨r-1,by
   cases r with
   | zero=>exact ht.elim
   | succ r=>rfl⟩
  obtain rfl:255-r=D:=by omega
  rw [show 256-(r+1)=255-r by omega] at hsh;obtain⟨d,hdr⟩:∃d,255-r=d:=⟨_,rfl⟩;obtain⟨e8,he8⟩:∃e,(256-r)%256=e:=⟨_,rfl⟩;have ih2:=λl t h p ht hs hk=>ih r (by omega) l t h p (by omega) ht hs hk;simp only [he8] at ih2;clear ih
  have hd:d<256:=by omega
  rw [hdr] at hsh ⊢;obtain⟨hl2,hx0,hy0⟩:=ht;rw [hdr] at hx0 hy0;have h2:2<=(dK l p).length:=cN hl2 (putT_len l p).1;refine s_regD 23 (by decide) (by kernel_rfl) (by kernel_rfl) λK1 hK1 G S w0 hst=>?_;refine g_autoS TY_ok hst rfl ?_;refine g_ldO TY_ok hst rfl rfl rfl rfl rfl rfl (obj_fact λ_ h _=>h.1.1) ?_;refine g_autoS TY_ok hst rfl ?_;refine g_endS hst ?_;refine s_end (hK1 _ ?_);refine s_no rfl ?_;refine s_skip (hK _ ?_);clear hst hK1;refine s_keep [0,1,2] [] rfl rfl ?_;refine s_regA TY_ok rfl λK1 hK1=>?_;refine l_ldO TY_ok rfl rfl rfl rfl rfl rfl (obj_fact λ_ h _=>h.1.1) ?_;refine l_autoS TY_ok rfl ?_;refine s_end (hK1 _ ?_);refine s_seq λK2 hK2=>?_;refine s_regA TY_ok rfl λK6 hK6=>?_;refine l_ldO TY_ok rfl rfl rfl rfl rfl rfl (obj_fact λ_ h _=>h.1.1) ?_;refine l_autoS TY_ok rfl ?_;refine s_end (hK6 _ ?_);refine s_no rfl ?_
  have hrest:∀x y:TA,TOk r (b6 d l) x->TOk r (bI d l) y->∀en,Weak en ⟨[(1,.v (.pointer (some ⟨h,0,none⟩))),(2,.v (.int .u8 (d:Int))),(7,.a 7 0)],[⟨7,none,137,sdPs x y⟩],[],λw=>TF x w/\TF y w/\ObjF h 135 (prPs p) w/\Tsh w,λ_=>True⟩->kS b K2 71 en:=by
   intro x y hx hy en hw
   refine k_weak hw (hK2 _ ?_);have hb2:=kO p.1 d;refine s_regA TY_ok rfl λK3 hK3=>?_;refine l_ldO TY_ok rfl rfl rfl rfl rfl rfl (obj_fact λ_ h _=>h.2.2.1) ?_;refine l_autoS TY_ok rfl ?_;refine l_call0 [.agg (By p.1).toArray,.int .u8 (d:Int)] rfl rfl rfl own_tbit rfl rfl (λ_ _=>rfl) (tbit_S hp2.1 d hd) (λ_ _ _=>trivial) λ_=>?_;refine l_autoS TY_ok rfl ?_
   have hlen:∀t':TA,TOk (r+1) (dK l p) t'->t'.len<=1000000:=λt' ht'=>by
    rw [ht'.len];exact cN (putT_len l p).2 hl
   by_cases hbit:cQ p.1 d=0
   ·refine l_num 8 0 rfl (by rw [hbit];rfl) ?_
    refine s_end (hK3 _ ?_);refine s_keep [1,2,7,8] [7] rfl rfl ?_;refine s_regA TY_ok rfl λK4 hK4=>?_;refine l_op (.a 7 (0+1*0)) trivial rfl rfl rfl (runO_ixA 0 rfl Tryz.underlying137 rfl rfl rfl (by decide)) ?_;refine l_opV (.v x.val) trivial rfl rfl rfl (runO_ldA _ rfl rfl rfl rfl Tryz.underlying29 rfl) ?_;refine l_autoS TY_ok rfl ?_;refine l_num 66 (e8:Int) rfl (wrapB2 ⟨hdr.symm,by omega⟩ he8) ?_
    have eL:b6 d (dK l p)=dK (b6 d l) p:=by rw [lO hs hk hp2.1,if_pos hbit]
    have eR:bI d (dK l p)=bI d l:=by rw [kK hs hk hp2.1,if_pos hbit]
    have hsh2:dN (256-r) (p::b6 d l):=by
     have:=hsh.left;rw [show b6 d (p::l)=p::b6 d l by simp [b6,hbit],show d+1=256-r by omega] at this;exact this
    refine l_call0 [x.val,.pointer (some ⟨h,0,none⟩),.int .u8 (e8:Int)] rfl rfl rfl own_tput rfl rfl (λ_ _=>rfl) (ih2 (b6 d l) x h p hx (hs.filter _) (hk.filter _) hsh2 (cN (jK (iQ _ _) 1) hl)) (λ_ h _=>⟨h.2.1,h.2.2.2.1,h.2.2.2.2⟩) λx'=>?_;refine l_autoS TY_ok rfl ?_;refine l_op (.a 7 (0+1*0)) trivial rfl rfl rfl (runO_ixA 0 rfl Tryz.underlying137 rfl rfl rfl (by decide)) ?_;refine l_stA (sdPs x'.1 y) rfl rfl rfl rfl rfl rfl rfl (val_cells _) (val_one _) (show _<2 by decide) (sdPs_ok _ _) rfl ?_;refine s_end (hK4 _ ?_);have hT:∀g,TOk (r+1) (dK l p) (.node g x'.1 y):=λg=>⟨h2,by show TOk r (b6 (255-r) (dK l p)) x'.1;rw [hdr,eL];exact x'.2,by show TOk r (bI (255-r) (dK l p)) y;rw [hdr,eR];exact hy⟩;refine s_keep [7] [7] rfl rfl ?_;refine s_regA TY_ok rfl λK5 hK5=>?_;refine l_call0 [.agg #[x'.1.val,y.val]] rfl rfl rfl own_tinner rfl rfl (λ_ _=>rfl) (tinner_S x'.1 y (hlen _ (hT 0))) (λ_ h _=>⟨h.1,h.2.2.2.1,h.2.2.2.2.2⟩) λg=>?_;refine l_autoS TY_ok rfl ?_;refine s_end (hK5 _ ?_);exact s_ret (k_ret TY_ok ⟨.node g x'.1 y,hT g⟩ rfl (by decide) rfl rfl rfl (λ_ hw _=>hw.1) (λ_ _=>trivial))
   ·refine l_num 8 1 rfl (by rw [show cQ p.1 d=1 by omega];rfl) ?_
    refine s_end (hK3 _ ?_);refine s_keep [1,2,7,8] [7] rfl rfl ?_;refine s_regA TY_ok rfl λK4 hK4=>?_;refine l_op (.a 7 (0+1*1)) trivial rfl rfl rfl (runO_ixA 1 rfl Tryz.underlying137 rfl rfl rfl (by decide)) ?_;refine l_opV (.v y.val) trivial rfl rfl rfl (runO_ldA _ rfl rfl rfl rfl Tryz.underlying29 rfl) ?_;refine l_autoS TY_ok rfl ?_;refine l_num 66 (e8:Int) rfl (wrapB2 ⟨hdr.symm,by omega⟩ he8) ?_
    have eL:b6 d (dK l p)=b6 d l:=by rw [lO hs hk hp2.1,if_neg hbit]
    have eR:bI d (dK l p)=dK (bI d l) p:=by rw [kK hs hk hp2.1,if_neg hbit]
    have hsh2:dN (256-r) (p::bI d l):=by
     have:=hsh.right;rw [show bI d (p::l)=p::bI d l by simp [bI,hbit],show d+1=256-r by omega] at this;exact this
    refine l_call0 [y.val,.pointer (some ⟨h,0,none⟩),.int .u8 (e8:Int)] rfl rfl rfl own_tput rfl rfl (λ_ _=>rfl) (ih2 (bI d l) y h p hy (hs.filter _) (hk.filter _) hsh2 (cN (jK (iQ _ _) 1) hl)) (λ_ h _=>⟨h.2.2.1,h.2.2.2.1,h.2.2.2.2⟩) λy'=>?_;refine l_autoS TY_ok rfl ?_;refine l_op (.a 7 (0+1*1)) trivial rfl rfl rfl (runO_ixA 1 rfl Tryz.underlying137 rfl rfl rfl (by decide)) ?_;refine l_stA (sdPs x y'.1) rfl rfl rfl rfl rfl rfl rfl (val_cells _) (val_one _) (show _<2 by decide) (sdPs_ok _ _) rfl ?_;refine s_end (hK4 _ ?_);have hT:∀g,TOk (r+1) (dK l p) (.node g x y'.1):=λg=>⟨h2,by show TOk r (b6 (255-r) (dK l p)) x;rw [hdr,eL];exact hx,by show TOk r (bI (255-r) (dK l p)) y'.1;rw [hdr,eR];exact y'.2⟩;refine s_keep [7] [7] rfl rfl ?_;refine s_regA TY_ok rfl λK5 hK5=>?_;refine l_call0 [.agg #[x.val,y'.1.val]] rfl rfl rfl own_tinner rfl rfl (λ_ _=>rfl) (tinner_S x y'.1 (hlen _ (hT 0))) (λ_ h _=>⟨h.2.2.1,h.1,h.2.2.2.2.2⟩) λg=>?_;refine l_autoS TY_ok rfl ?_;refine s_end (hK5 _ ?_);exact s_ret (k_ret TY_ok ⟨.node g x y'.1,hT g⟩ rfl (by decide) rfl rfl rfl (λ_ hw _=>hw.1) (λ_ _=>trivial))
  exact s_skip (hrest x0 y0 hx0 hy0 _ ⟨⟨rfl,rfl,rfl,trivial⟩,⟨rfl,rfl,trivial⟩,.refl _,λ_ h _=>⟨h.1.2.1,h.1.2.2,h.2.1,h.2.2⟩,λ_ _=>trivial⟩)
theorem runO_ldB{L:List LV}{R:List Res}{F M:World->Prop}{N:Nat}{E:SE}{o:Oper}{t:TypeId}{x:Operand}{g off ty:Nat}{ps:List Pt}{d:TypeDesc}(v:Value)(ho:o.op = .load t x)(hx:evS E x=some (.v (.pointer (some ⟨g,off,none⟩))))(hv:(catP ps)[off]?=some v)(hu:Tryz.prog.underlying t=some d)(hr:d.isRow=false)(h:∀G S w,View G S L R F M w->ObjF g ty ps w) :
  ∀(G:Nat->Nat) (S:Nat->Prop) (a:Act) (w:World),Fr N (denE G E) a->View G S L R F M w->(execOp a.eval o).run Tryz.prog w = .ok (.value ((SV.v v).den G)) w:=λG S a w ha hw=>by
 have h1:a.eval x = .pointer (some ⟨g,off,none⟩):=ha.eval (evS_ok hx);have h2:=(h G S w hw).1.cell off;rw [hv] at h2;have h3:=run_load_cell hu hr h2
 unfold execOp
 simp only [ho,h1,aF,h3,aB,aG]
 rfl
instance:Pst (λ_:World=>True):=⟨λ_ _ _ _=>trivial⟩
theorem nd_at(a b:TA):(catP (ndPs a b))[34]?=some a.val/\(catP (ndPs a b))[35]?=some b.val:=by
 have h:(By (fF a.root b.root)).length=32:=by rw [By_len];exact digest256_len _
 have e:(catP (ndPs a b)).toList=By (fF a.root b.root)++[.int .i64 ((a.len+b.len:Nat):Int),.pointer none,a.val,b.val]:=by simp [ndPs,catP,Pt.cells,SC.den]
 rw [<-dJ,<-dJ,e,cD (by omega),cD (by omega),h];exact⟨rfl,rfl⟩
def FndW:Option (Nat×PairT)->World->Prop
  | none,_=>True
  | some x,w=>ObjF x.1 135 (prPs x.2) w
instance{x:Option (Nat×PairT)}:Pst (FndW x):=⟨λw w' h hb=>by
  cases x with
  | none=>trivial
  | some x=>exact⟨h.1.later hb,h.2⟩⟩
theorem own_tPut:Own 52:=λ_ _=>by go_simp
theorem own_tRoot:Own 33:=λ_ _=>by go_simp
theorem own_tLen:Own 25:=λ_ _=>by go_simp
theorem own_tLeaf:Own 76:=λ_ _=>by go_simp
theorem own_tSides:Own 77:=λ_ _=>by go_simp
def trPs(t:TA)(d:Nat):List Pt:=[.one (.v t.val),.one (.v (.int .u8 (d:Int)))]
def eTr(t:TA)(d:Nat):SQ:=.p (trPs t d)
theorem val_cells1(t:TA):t.val.cells = #[t.val]:=by cases t<;>rfl
theorem trPs_ok(t:TA)(d:Nat):OkP (trPs t d):=λp hp=>by
 rcases aJ.1 hp with rfl|hp
 ·exact⟨trivial,val_one t,val_cells1 t⟩
 ·rw [aE.1 hp]
  exact⟨trivial,rfl,rfl⟩
theorem tRoot_S(t:TA)(d:Nat):Spec 33 [(eTr t d).den] [] (TF t) (one (.q (eY 32 t.root))):=by
 refine spec_S [eTr t d] 6 Tryz.func33 rfl (by rw [Tryz.ntmps33];rfl) (one_ok (trPs_ok t d)) λb=>?_;refine s_auto TY_ok rfl ?_;refine s_regA TY_ok rfl λK hK=>?_;refine l_call0 [t.val] rfl rfl rfl own_thash rfl rfl (λ_ _=>rfl) (thash_S t) (λ_ h _=>h) λ_=>?_;refine l_autoS TY_ok rfl ?_;refine s_end (hK _ ?_);exact s_ret (k_ret TY_ok () rfl (by decide) rfl rfl rfl (λ_ _ _=>trivial) (λ_ _=>trivial))
theorem tLen_S(t:TA)(d:Nat):Spec 25 [(eTr t d).den] [] (TF t) (one (.v (.int .i64 (t.len:Int)))):=by
 refine spec_S [eTr t d] 6 Tryz.func25 rfl (by rw [Tryz.ntmps25];rfl) (one_ok (trPs_ok t d)) λb=>?_;refine s_auto TY_ok rfl ?_;refine s_regA TY_ok rfl λK hK=>?_;refine l_call0 [t.val] rfl rfl rfl own_tsize rfl rfl (λ_ _=>rfl) (tsize_S t) (λ_ h _=>h) λ_=>?_;refine l_autoS TY_ok rfl ?_;refine s_end (hK _ ?_);exact s_ret (k_ret TY_ok () rfl (by decide) rfl rfl rfl (λ_ _ _=>trivial) (λ_ _=>trivial))
def retL:TA->RV
  | .leaf _ _ p=>.t [eY 32 p.1,eY 32 p.2,.c (.v (.bool true))]
  | _=>.t [eY 32 dF,eY 32 dF,.c (.v (.bool false))]
def retSd(d:Nat):TA->RV
  | .node _ a b=>.t [eTr a d,eTr b d,.c (.v (.bool true))]
  | _=>.t [eTr .nil 0,eTr .nil 0,.c (.v (.bool false))]
theorem tLeaf_S(t:TA)(d:Nat):Spec 76 [(eTr t d).den] [] (TF t) { ret:=λ_:Unit=>retL t,own:=λ_=>[] }:=by
 refine spec_S [eTr t d] 34 Tryz.func76 rfl (by rw [Tryz.ntmps76];rfl) (one_ok (trPs_ok t d)) λb=>?_;refine s_auto TY_ok rfl ?_;refine s_seq λK hK=>?_
 cases t with
 | nil =>
  refine s_auto TY_ok rfl ?_;refine s_yes rfl ?_;refine s_auto TY_ok rfl ?_;exact s_ret (k_ret TY_ok () rfl (by decide) rfl rfl rfl (λ_ _ _=>trivial) (λ_ _=>trivial))
 | leaf g h p =>
  refine s_regA TY_ok rfl λK2 hK2=>?_;refine l_ldO TY_ok rfl rfl rfl rfl rfl rfl (obj_fact λ_ h _=>h.1) ?_;refine l_autoS TY_ok rfl ?_;refine s_end (hK2 _ ?_);refine s_no rfl ?_;refine s_skip (hK _ ?_);refine s_pure (OkP (lfPs h p)/\OkP (prPs p)) (λw hw _=>⟨hw.1.2,hw.2.2⟩) λ⟨ho1,ho2⟩=>?_;refine s_locs λG=>?_
  have hsub:∀x∈[(⟨1,some (G 1),31,trPs (.leaf g h p) d⟩:LV)],x∈withG G [⟨3,none,45,[.agg 32 (By dF).toArray]⟩,⟨2,none,45,[.agg 32 (By dF).toArray]⟩,⟨1,none,31,trPs (.leaf g h p) d⟩]/\x.g.isSome=true:=λx hx=>by
   rw [aE.1 hx];exact⟨aI _ (aI _ aM),rfl⟩
  refine s_seq λK3 hK3=>?_;refine s_anyP [0,1,2,3,4,5,6,7,8,9,10,11,12,13,14,15] 17 2 (λw=>InvL [⟨1,some (G 1),31,trPs (.leaf g h p) d⟩] w/\TF (.leaf g h p) w) (by kernel_rfl) rfl (inv_two hsub λ_ h _=>h) ?_;refine p_frontS TY_ok 0 (by kernel_rfl) rfl rfl rfl rfl rfl rfl (λx hx=>(hsub x hx).1) (λ_ h=>h.1) ?_;refine p_frontS TY_ok 1 (by kernel_rfl) rfl rfl rfl rfl rfl rfl (λx hx=>(hsub x hx).1) (λ_ h=>h.1) ?_;refine p_frontS TY_ok 2 (by kernel_rfl) rfl rfl rfl rfl rfl rfl (λx hx=>(hsub x hx).1) (λ_ h=>h.1) ?_;refine p_frontS TY_ok 3 (by kernel_rfl) rfl rfl rfl rfl rfl rfl (λx hx=>(hsub x hx).1) (λ_ h=>h.1) ?_;refine p_ldO TY_ok 4 (by kernel_rfl) rfl rfl rfl rfl rfl rfl rfl ho1 (λ_ h=>h.2.1) ?_;refine p_frontS TY_ok 5 (by kernel_rfl) rfl rfl rfl rfl rfl rfl (λx hx=>(hsub x hx).1) (λ_ h=>h.1) ?_;refine p_frontS TY_ok 6 (by kernel_rfl) rfl rfl rfl rfl rfl rfl (λx hx=>(hsub x hx).1) (λ_ h=>h.1) ?_;refine p_ldO TY_ok 7 (by kernel_rfl) rfl rfl rfl rfl rfl rfl rfl ho2 (λ_ h=>h.2.2) ?_;refine p_frontS TY_ok 8 (by kernel_rfl) rfl rfl rfl rfl rfl rfl (λx hx=>(hsub x hx).1) (λ_ h=>h.1) ?_;refine p_frontS TY_ok 9 (by kernel_rfl) rfl rfl rfl rfl rfl rfl (λx hx=>(hsub x hx).1) (λ_ h=>h.1) ?_;refine p_frontS TY_ok 10 (by kernel_rfl) rfl rfl rfl rfl rfl rfl (λx hx=>(hsub x hx).1) (λ_ h=>h.1) ?_;refine p_frontS TY_ok 11 (by kernel_rfl) rfl rfl rfl rfl rfl rfl (λx hx=>(hsub x hx).1) (λ_ h=>h.1) ?_;refine p_ldO TY_ok 12 (by kernel_rfl) rfl rfl rfl rfl rfl rfl rfl ho1 (λ_ h=>h.2.1) ?_;refine p_frontS TY_ok 13 (by kernel_rfl) rfl rfl rfl rfl rfl rfl (λx hx=>(hsub x hx).1) (λ_ h=>h.1) ?_;refine p_frontS TY_ok 14 (by kernel_rfl) rfl rfl rfl rfl rfl rfl (λx hx=>(hsub x hx).1) (λ_ h=>h.1) ?_;refine p_ldO TY_ok 15 (by kernel_rfl) rfl rfl rfl rfl rfl rfl rfl ho2 (λ_ h=>h.2.2) ?_;refine p_step 16 (by kernel_rfl) rfl λK4 hK4=>?_;refine l_autoS TY_ok rfl ?_
  refine s_end (hK4 _ (inv_two (λx hx=>by
   rw [aE.1 hx]
   exact⟨aI _ (aI _ aM),rfl⟩) λ_ h _=>h) ?_)
  refine p_tail [17,18] (by kernel_rfl) rfl ?_;refine l_autoS TY_ok rfl ?_;refine s_end (hK3 _ ?_);exact s_ret (k_ret TY_ok () rfl (by decide) rfl rfl rfl (λ_ _ _=>trivial) (λ_ _=>trivial))
 | node g x y =>
  refine s_regA TY_ok rfl λK2 hK2=>?_;refine l_ldO TY_ok rfl rfl rfl rfl rfl rfl (obj_fact λ_ h _=>h.1) ?_;refine l_autoS TY_ok rfl ?_;refine s_end (hK2 _ ?_);refine s_yes rfl ?_;refine s_auto TY_ok rfl ?_;exact s_ret (k_ret TY_ok () rfl (by decide) rfl rfl rfl (λ_ _ _=>trivial) (λ_ _=>trivial))
theorem tSides_S(t:TA)(d d':Nat)(hd:IntKind.u8.wrap ((d:Int)+1)=(d':Int)):Spec 77 [(eTr t d).den] [] (TF t) { ret:=λ_:Unit=>retSd d' t,own:=λ_=>[] }:=by
 refine spec_S [eTr t d] 36 Tryz.func77 rfl (by rw [Tryz.ntmps77];rfl) (one_ok (trPs_ok t d)) λb=>?_;refine s_auto TY_ok rfl ?_;refine s_seq λK hK=>?_
 cases t with
 | nil =>
  refine s_auto TY_ok rfl ?_;refine s_yes rfl ?_;refine s_auto TY_ok rfl ?_;exact s_ret (k_ret TY_ok () rfl (by decide) rfl rfl rfl (λ_ _ _=>trivial) (λ_ _=>trivial))
 | leaf g h p =>
  refine s_regA TY_ok rfl λK2 hK2=>?_;refine l_ldO TY_ok rfl rfl rfl rfl rfl rfl (obj_fact λ_ h _=>h.1) ?_;refine l_autoS TY_ok rfl ?_;refine s_end (hK2 _ ?_);refine s_yes rfl ?_;refine s_auto TY_ok rfl ?_;exact s_ret (k_ret TY_ok () rfl (by decide) rfl rfl rfl (λ_ _ _=>trivial) (λ_ _=>trivial))
 | node g x y =>
  refine s_regA TY_ok rfl λK2 hK2=>?_;refine l_ldO TY_ok rfl rfl rfl rfl rfl rfl (obj_fact λ_ h _=>h.1) ?_;refine l_autoS TY_ok rfl ?_;refine s_end (hK2 _ ?_);refine s_no rfl ?_;refine s_skip (hK _ ?_);refine s_regA TY_ok rfl λK4 hK4=>?_;refine l_ldO TY_ok rfl rfl rfl rfl rfl rfl (obj_fact λ_ h _=>h.1) ?_;refine l_autoS TY_ok rfl ?_;refine s_end (hK4 _ ?_);refine s_locs λG=>?_
  have hsub:∀u∈([⟨5,some (G 5),137,sdPs x y⟩,⟨1,some (G 1),31,trPs (.node g x y) d⟩]:List LV),u∈withG G [⟨5,none,137,sdPs x y⟩,⟨3,none,31,trPs .nil 0⟩,⟨2,none,31,trPs .nil 0⟩,⟨1,none,31,trPs (.node g x y) d⟩]/\u.g.isSome=true:=λu hu=>by
   rcases aJ.1 hu with rfl|hu
   ·exact⟨aM,rfl⟩
   ·rw [aE.1 hu]
    exact⟨aI _ (aI _ (aI _ aM)),rfl⟩
  refine s_seq λK3 hK3=>?_;refine s_anyP [0,1,2,3,4,5,6,7,8,9,10,11] 13 2 (InvL [⟨5,some (G 5),137,sdPs x y⟩,⟨1,some (G 1),31,trPs (.node g x y) d⟩]) (by kernel_rfl) rfl (inv_of hsub) ?_;refine p_frontO (.a 5 (0+1*0)) trivial 0 (by kernel_rfl) rfl rfl rfl rfl rfl (runO_ixA 0 rfl Tryz.underlying137 rfl rfl rfl (by decide)) ?_;refine p_frontA (.v x.val) trivial 1 (by kernel_rfl) rfl rfl rfl rfl rfl (λx hx=>(hsub x hx).1) (λ_ h=>h) (runO_ldL _ rfl rfl rfl rfl Tryz.underlying29 rfl) ?_;refine p_frontS TY_ok 2 (by kernel_rfl) rfl rfl rfl rfl rfl rfl (λx hx=>(hsub x hx).1) (λ_ h=>h) ?_;refine p_frontS TY_ok 3 (by kernel_rfl) rfl rfl rfl rfl rfl rfl (λx hx=>(hsub x hx).1) (λ_ h=>h) ?_;refine p_frontS TY_ok 4 (by kernel_rfl) rfl rfl rfl rfl rfl rfl (λx hx=>(hsub x hx).1) (λ_ h=>h) ?_;refine p_frontS TY_ok 5 (by kernel_rfl) rfl rfl rfl rfl rfl rfl (λx hx=>(hsub x hx).1) (λ_ h=>h) ?_;refine p_frontO (.a 5 (0+1*1)) trivial 6 (by kernel_rfl) rfl rfl rfl rfl rfl (runO_ixA 1 rfl Tryz.underlying137 rfl rfl rfl (by decide)) ?_;refine p_frontA (.v y.val) trivial 7 (by kernel_rfl) rfl rfl rfl rfl rfl (λx hx=>(hsub x hx).1) (λ_ h=>h) (runO_ldL _ rfl rfl rfl rfl Tryz.underlying29 rfl) ?_;refine p_frontS TY_ok 8 (by kernel_rfl) rfl rfl rfl rfl rfl rfl (λx hx=>(hsub x hx).1) (λ_ h=>h) ?_;refine p_frontS TY_ok 9 (by kernel_rfl) rfl rfl rfl rfl rfl rfl (λx hx=>(hsub x hx).1) (λ_ h=>h) ?_;refine p_frontS TY_ok 10 (by kernel_rfl) rfl rfl rfl rfl rfl rfl (λx hx=>(hsub x hx).1) (λ_ h=>h) ?_;refine p_frontS TY_ok 11 (by kernel_rfl) rfl rfl rfl rfl rfl rfl (λx hx=>(hsub x hx).1) (λ_ h=>h) ?_;refine p_step 12 (by kernel_rfl) rfl λK5 hK5=>?_;refine l_autoS TY_ok rfl ?_
  refine s_end (hK5 _ (inv_of λu hu=>by
   rcases aJ.1 hu with rfl|hu
   ·exact⟨aM,rfl⟩
   ·rw [aE.1 hu]
    exact⟨aI _ (aI _ (aI _ aM)),rfl⟩) ?_)
  refine p_tail [13,14] (by kernel_rfl) rfl ?_;refine l_autoS TY_ok rfl ?_;refine s_end (hK3 _ ?_);exact s_ret (k_ret TY_ok () rfl (by decide) rfl (congrArg (λz:Int=>RV.t [.p [.one (.v x.val),.one (.v (.int .u8 z))],.p [.one (.v y.val),.one (.v (.int .u8 z))],.c (.v (.bool true))]) hd.symm) rfl (λ_ _ _=>trivial) (λ_ _=>trivial))
theorem tPut_S(r:Nat)(l:List PairT)(t:TA)(p:PairT)(hp:OkT2 p)(hr:r<=256)(ht:TOk r l t)(hs:cV l)(hk:gE l)(hsh:dN (256-r) (p::l))(hl:l.length+1<=1000000) :
  Spec 52 [(eTr t ((256-r)%256)).den,(eY 32 p.1).den,(eY 32 p.2).den] [] (λw=>TF t w/\Tsh w) { ret:=λx:{ t':TA // TOk r (dK l p) t' }=>.q (eTr x.1 ((256-r)%256)),own:=λ_=>[],p:=λx=>TF x.1 }:=by
 have hput:=λh=>tput_S r l t h p hr ht hs hk hsh hl;obtain⟨D,hD⟩:∃D,(256-r)%256=D:=⟨_,rfl⟩;rw [hD] at hput ⊢;refine spec_S [eTr t D,eY 32 p.1,eY 32 p.2] 19 Tryz.func52 rfl (by rw [Tryz.ntmps52];rfl) (more_ok (trPs_ok t _) (two_ok (eY_ok hp.1).1 (eY_ok hp.2).1)) λb=>?_;refine s_auto TY_ok rfl ?_;refine s_locs λG=>?_
 have hsub:∀u∈([⟨5,some (G 5),45,[.agg 32 (By p.2).toArray]⟩,⟨4,some (G 4),45,[.agg 32 (By p.1).toArray]⟩,⟨3,some (G 3),31,trPs t D⟩]:List LV),u∈withG G [⟨6,none,31,trPs .nil 0⟩,⟨5,none,45,[.agg 32 (By p.2).toArray]⟩,⟨4,none,45,[.agg 32 (By p.1).toArray]⟩,⟨3,none,31,trPs t D⟩]/\u.g.isSome=true:=λu hu=>by
  rcases aJ.1 hu with rfl|hu
  ·exact⟨aI _ aM,rfl⟩
  rcases aJ.1 hu with rfl|hu
  ·exact⟨aI _ (aI _ aM),rfl⟩
  rw [aE.1 hu];exact⟨aI _ (aI _ (aI _ aM)),rfl⟩
 refine s_seq λK3 hK3=>?_;refine s_anyP [0,1,2,3,4,6,7,9,10] 11 2 (InvL [⟨5,some (G 5),45,[.agg 32 (By p.2).toArray]⟩,⟨4,some (G 4),45,[.agg 32 (By p.1).toArray]⟩,⟨3,some (G 3),31,trPs t D⟩]) (by kernel_rfl) rfl (inv_of hsub) ?_;refine p_frontS TY_ok 0 (by kernel_rfl) rfl rfl rfl rfl rfl rfl (λx hx=>(hsub x hx).1) (λ_ h=>h) ?_;refine p_frontS TY_ok 1 (by kernel_rfl) rfl rfl rfl rfl rfl rfl (λx hx=>(hsub x hx).1) (λ_ h=>h) ?_;refine p_frontS TY_ok 2 (by kernel_rfl) rfl rfl rfl rfl rfl rfl (λx hx=>(hsub x hx).1) (λ_ h=>h) ?_;refine p_frontS TY_ok 3 (by kernel_rfl) rfl rfl rfl rfl rfl rfl (λx hx=>(hsub x hx).1) (λ_ h=>h) ?_;refine p_frontS TY_ok 4 (by kernel_rfl) rfl rfl rfl rfl rfl rfl (λx hx=>(hsub x hx).1) (λ_ h=>h) ?_;refine p_frontS TY_ok 6 (by kernel_rfl) rfl rfl rfl rfl rfl rfl (λx hx=>(hsub x hx).1) (λ_ h=>h) ?_;refine p_frontS TY_ok 7 (by kernel_rfl) rfl rfl rfl rfl rfl rfl (λx hx=>(hsub x hx).1) (λ_ h=>h) ?_;refine p_frontS TY_ok 9 (by kernel_rfl) rfl rfl rfl rfl rfl rfl (λx hx=>(hsub x hx).1) (λ_ h=>h) ?_;refine p_frontS TY_ok 10 (by kernel_rfl) rfl rfl rfl rfl rfl rfl (λx hx=>(hsub x hx).1) (λ_ h=>h) ?_;refine p_step 5 (by kernel_rfl) rfl λK5 hK5=>?_;refine l_autoS TY_ok rfl ?_;refine l_give 12 (E':=[(8,.v t.val),(14,.v (.int .u8 (D:Int))),(17,.v (.int .u8 (D:Int))),(6,.a 6 0)]) rfl ⟨rfl,rfl,rfl,rfl,trivial⟩ λh=>?_;refine l_objOut 0 rfl ?_;refine s_end (hK5 _ (inv_of hsub) ?_);refine p_step 8 (by kernel_rfl) rfl λK6 hK6=>?_;refine l_call0 [t.val,.pointer (some ⟨h,0,none⟩),.int .u8 (D:Int)] rfl rfl rfl own_tput rfl rfl (λ_ _=>rfl) (hput h) (λ_ h _=>⟨h.2.1,h.1,h.2.2⟩) λx=>?_;refine s_end (hK6 _ (inv_of hsub) ?_);refine p_tail [11,12] (by kernel_rfl) rfl ?_;refine l_autoS TY_ok rfl ?_;refine s_end (hK3 _ ?_);exact s_ret (k_ret TY_ok x rfl (by decide) rfl rfl rfl (λ_ h _=>h.1) (λ_ _=>trivial))
theorem own_twalk:Own 91:=λ_ _=>by go_simp
theorem own_teach:Own 66:=λ_ _=>by go_simp
theorem own_tAll:Own 44:=λ_ _=>by go_simp
theorem own_tAll1:Own 65:=λ_ _=>by go_simp
theorem own_tAll11:Own 67:=λ_ _=>by go_simp
theorem TOk.all_eq:∀{r:Nat} {l:List PairT} {t:TA},TOk r l t->cV l->gE l->dN (256-r) l->r<=256->t.all=l
 | _,_,.nil,h,_,_,_,_=>h.nil_inv.symm
 | _,_,.leaf _ _ _,h,_,_,_,_=>h.leaf_inv.symm
 | 0,_,.node _ _ _,h,_,_,_,_=>h.elim
 | r+1,l,.node _ a b,h,hs,hk,hsh,hr=>by
  obtain⟨_,h2,h3⟩:=h
  have e:256-(r+1)=255-r:=by omega
  rw [e] at hsh
  have e2:255-r+1=256-r:=by omega
  have hl:=hsh.left;have hr':=hsh.right;rw [e2] at hl hr'
  show a.all++b.all=l
  rw [h2.all_eq (hs.filter _) (hk.filter _) hl (by omega),h3.all_eq (hs.filter _) (hk.filter _) hr' (by omega)];exact sI (by omega) hs hk hsh
theorem twalk_S{f:FuncId}(hf:Own f)(caps:List Value)(Fc:World->Prop)(JR:Nat->Res)(JX:Res):∀(t:TA) (i:Nat),
  (∀(j:Nat) (p:PairT) (h:Nat),t.all[j]?=some p->Spec f (.pointer (some ⟨h,0,none⟩)::caps) [JR (i+j)] (λw=>ObjF h 135 (prPs p) w/\Fc w) (bpost (JR (i+j+1)) JX)) ->
  Spec 91 [t.val,.func (.func f) #[] caps.toArray] [JR i] (λw=>TF t w/\Fc w) (bpost (JR (i+t.all.length)) JX):=by
 intro t
 induction t with
 | nil =>
  intro i _
  refine spec_S [.c (.v TA.nil.val),.c (.v (.func (.func f) #[] caps.toArray))] 34 Tryz.func91 rfl (by rw [Tryz.ntmps91];rfl) (two_ok trivial trivial) λb=>?_;refine s_auto TY_ok rfl ?_;refine s_seq λK hK=>?_;refine s_auto TY_ok rfl ?_;refine s_yes rfl ?_;refine s_auto TY_ok rfl ?_;exact s_ret (k_ret TY_ok true rfl (by decide) rfl rfl rfl (λ_ _ _=>trivial) (λ_ _=>trivial))
 | leaf g h p =>
  intro i ht
  have htell:=ht 0 p h rfl;refine spec_S [.c (.v (TA.leaf g h p).val),.c (.v (.func (.func f) #[] caps.toArray))] 34 Tryz.func91 rfl (by rw [Tryz.ntmps91];rfl) (two_ok trivial trivial) λb=>?_;refine s_auto TY_ok rfl ?_;refine s_seq λK hK=>?_;refine s_auto TY_ok rfl ?_;refine s_no rfl ?_;refine s_skip (hK _ ?_);refine s_seq λK2 hK2=>?_;refine s_regA TY_ok rfl λK3 hK3=>?_;refine l_ldO TY_ok rfl rfl rfl rfl rfl rfl (obj_fact λ_ h _=>h.1.1) ?_;refine l_autoS TY_ok rfl ?_;refine s_end (hK3 _ ?_);refine s_yes rfl ?_;refine s_regA TY_ok rfl λK4 hK4=>?_;refine l_ldO TY_ok rfl rfl rfl rfl rfl rfl (obj_fact λ_ h _=>h.1.1) ?_;refine l_callV (own:=[JR (i+0)]) (R':=[]) (.pointer (some ⟨h,0,none⟩)::caps) rfl rfl rfl hf rfl rfl rfl (λ_ _=>rfl) htell (λ_ h _=>⟨h.1.2,h.2⟩) λt=>?_;refine l_autoS TY_ok rfl ?_;refine s_end (hK4 _ ?_);exact s_ret (k_ret TY_ok t rfl (by decide) rfl rfl rfl (λ_ _ _=>trivial) (λ_ _=>trivial))
 | node g x y ihx ihy =>
  intro i ht
  have hx:=ihx i λj p h hj=>ht j p h (by
   show(x.all++y.all)[j]?=_
   rw [iR (bC.1 hj).1]
   exact hj)
  have hy:=ihy (i+x.all.length) λj p h hj=>by
   have:=ht (x.all.length+j) p h (by
    show(x.all++y.all)[_]?=_
    rw [cD (by omega),g6]
    exact hj)
   rwa [<-bW] at this
  have hlen:(TA.node g x y).all.length=x.all.length+y.all.length:=aC;rw [hlen];clear ihx ihy ht hlen;refine spec_S [.c (.v (TA.node g x y).val),.c (.v (.func (.func f) #[] caps.toArray))] 34 Tryz.func91 rfl (by rw [Tryz.ntmps91];rfl) (two_ok trivial trivial) λb=>?_;refine s_auto TY_ok rfl ?_;refine s_seq λK hK=>?_;refine s_auto TY_ok rfl ?_;refine s_no rfl ?_;refine s_skip (hK _ ?_);refine s_seq λK2 hK2=>?_;refine s_regA TY_ok rfl λK3 hK3=>?_;refine l_ldO TY_ok rfl rfl rfl rfl rfl rfl (obj_fact λ_ h _=>h.1.1) ?_;refine l_autoS TY_ok rfl ?_;refine s_end (hK3 _ ?_);refine s_no rfl ?_;refine s_skip (hK2 _ ?_);refine s_regA TY_ok rfl λK4 hK4=>?_;refine l_op (.v (.pointer (some ⟨g,34+1*0,none⟩))) trivial rfl rfl rfl (runO_ixP 0 rfl Tryz.underlying137 rfl rfl rfl (by decide)) ?_;refine l_opV (.v x.val) trivial rfl rfl rfl (runO_ldB x.val rfl rfl (nd_at x y).1 Tryz.underlying29 rfl (obj_fact λ_ h _=>h.1.1)) ?_;refine l_autoS TY_ok rfl ?_;refine l_callA (own:=[JR i]) (R':=[]) [x.val,.func (.func f) #[] caps.toArray] rfl rfl rfl own_twalk rfl rfl (λ_ _=>rfl) hx (λ_ h _=>⟨h.1.2.1,h.2⟩) λt=>?_
  cases t with
  | false =>
   refine l_autoS TY_ok rfl ?_;refine s_end (hK4 _ ?_);exact s_ret (k_ret TY_ok false rfl (by decide) rfl rfl rfl (λ_ _ _=>trivial) (λ_ _=>trivial))
  | true =>
   refine l_autoS TY_ok rfl ?_;refine l_op (.v (.pointer (some ⟨g,34+1*1,none⟩))) trivial rfl rfl rfl (runO_ixP 1 rfl Tryz.underlying137 rfl rfl rfl (by decide)) ?_;refine l_autoS TY_ok rfl ?_;refine l_opV (.v y.val) trivial rfl rfl rfl (runO_ldB y.val rfl rfl (nd_at x y).2 Tryz.underlying29 rfl (obj_fact λ_ h _=>h.2.1.1)) ?_;refine l_autoS TY_ok rfl ?_;refine l_callA (own:=[JR (i+x.all.length)]) (R':=[]) [y.val,.func (.func f) #[] caps.toArray] rfl rfl rfl own_twalk rfl rfl (λ_ _=>rfl) hy (λ_ h _=>⟨h.2.1.2.2,h.2.2⟩) λt=>?_;refine l_autoS TY_ok rfl ?_;refine s_end (hK4 _ ?_);refine s_ret ?_;rw [<-bW];exact k_ret TY_ok t rfl (by decide) rfl rfl rfl (λ_ _ _=>trivial) (λ_ _=>trivial)
def telA(p:PairT):List Value:=[(eY 32 p.1).den,(eY 32 p.2).den]
def ylPs(l:Nat):List Pt:=[.one (.v (.func (.yield l) #[] #[]))]
theorem ttell_S{l g h:Nat}{p:PairT}{r r1 r0:Res}{Fy:World->Prop}(hy:YSpec l (telA p) Fy r r1 r0):Spec 67 [.pointer (some ⟨h,0,none⟩),.pointer (some ⟨g,0,none⟩)] [r] (λw=>ObjF h 135 (prPs p) w/\ObjF g 116 (ylPs l) w/\Fy w) (bpost r1 r0):=by
 refine spec_S [.c (.v (.pointer (some ⟨h,0,none⟩))),.c (.v (.pointer (some ⟨g,0,none⟩)))] 14 Tryz.func67 rfl (by rw [Tryz.ntmps67];rfl) (two_ok trivial trivial) λb=>?_;refine s_pure (OkT2 p/\OkP (prPs p)) (λw hw _=>⟨prPs_ok hw.1.2,hw.1.2⟩) λ⟨hp,hop⟩=>?_;refine s_of_r ?_;refine r_auto rfl TY_ok rfl ?_;refine r_seq λK hK=>?_;refine r_anyP [0,1,2,3,4,5,6,7,8] 9 2 (λw=>InvL [] w/\ObjF h 135 (prPs p) w/\ObjF g 116 (ylPs l) w) (by kernel_rfl) rfl rfl (inv_two (λ_ h=>by cases h) λ_ h _=>⟨h.1,h.2.1⟩) ?_;refine p_frontI (.v (.func (.yield l) #[] #[])) trivial 0 (by kernel_rfl) rfl rfl rfl rfl rfl (λG a w ha hw=>runO_ldB (L:=[]) (R:=[]) (F:=λw=>ObjF g 116 (ylPs l) w) (M:=λ_=>True) _ rfl rfl rfl Tryz.underlying116 rfl (obj_fact λ_ h _=>h) G (λ_=>False) a w ha ⟨λ_ h=>(by cases h),λ_ h=>h,hw.2.2,trivial⟩) ?_;refine p_frontS TY_ok 1 (by kernel_rfl) rfl rfl rfl rfl rfl rfl (λ_ h=>by cases h) (λ_ h=>h.1) ?_;refine p_frontS TY_ok 2 (by kernel_rfl) rfl rfl rfl rfl rfl rfl (λ_ h=>by cases h) (λ_ h=>h.1) ?_;refine p_frontS TY_ok 3 (by kernel_rfl) rfl rfl rfl rfl rfl rfl (λ_ h=>by cases h) (λ_ h=>h.1) ?_;refine p_ldO TY_ok 4 (by kernel_rfl) rfl rfl rfl rfl rfl rfl rfl hop (λ_ h=>h.2.1) ?_;refine p_frontS TY_ok 5 (by kernel_rfl) rfl rfl rfl rfl rfl rfl (λ_ h=>by cases h) (λ_ h=>h.1) ?_;refine p_frontS TY_ok 6 (by kernel_rfl) rfl rfl rfl rfl rfl rfl (λ_ h=>by cases h) (λ_ h=>h.1) ?_;refine p_frontS TY_ok 7 (by kernel_rfl) rfl rfl rfl rfl rfl rfl (λ_ h=>by cases h) (λ_ h=>h.1) ?_;refine p_ldO TY_ok 8 (by kernel_rfl) rfl rfl rfl rfl rfl rfl rfl hop (λ_ h=>h.2.1) ?_;refine p_tailR [9,10] (by kernel_rfl) rfl ?_;refine t_yield (telA p) rfl rfl rfl rfl rfl rfl (λ_=>rfl) hy (λ_ h _=>h.2.2) λt=>?_;refine t_list rfl ?_;refine l_autoS TY_ok rfl ?_;refine s_end (hK _ ?_);exact r_ret (k_ret TY_ok t rfl (by decide) rfl rfl rfl (λ_ _ _=>trivial) (λ_ _=>trivial))
def epost(r1 r0:Res):Post Bool:={ ret:=λ_=>.t [],own:=λt=>[bif t then r1 else r0] }
theorem teach_S{f:FuncId}(hf:Own f)(caps:List Value)(Fc:World->Prop)(JR:Nat->Res)(JX:Res)(t:TA)
 (ht:∀(j:Nat) (p:PairT) (h:Nat),t.all[j]?=some p->Spec f (.pointer (some ⟨h,0,none⟩)::caps) [JR j] (λw=>ObjF h 135 (prPs p) w/\Fc w) (bpost (JR (j+1)) JX)) :
  Spec 66 [(eTr t 0).den,.func (.func f) #[] caps.toArray] [JR 0] (λw=>TF t w/\Fc w) (epost (JR t.all.length) JX):=by
 have hw:=twalk_S hf caps Fc JR JX t 0 (by simpa using ht);rw [aX] at hw;refine spec_S [eTr t 0,.c (.v (.func (.func f) #[] caps.toArray))] 34 Tryz.func66 rfl (by rw [Tryz.ntmps66];rfl) (two_ok (trPs_ok t 0) trivial) λb=>?_;refine s_auto TY_ok rfl ?_;refine s_seq λK hK=>?_;refine s_auto TY_ok rfl ?_;refine s_ifD (((0:Nat):Int)=0) rfl (λ_=>?_) (λh=>absurd rfl h);refine s_regA TY_ok rfl λK2 hK2=>?_;refine l_callA (own:=[JR 0]) (R':=[]) [t.val,.func (.func f) #[] caps.toArray] rfl rfl rfl own_twalk rfl rfl (λ_ _=>rfl) hw (λ_ h _=>h) λx=>?_;refine s_end (hK2 _ ?_);exact s_ret (k_ret TY_ok x rfl (by decide) rfl rfl rfl (λ_ _ _=>trivial) (λ_ _=>trivial))
theorem tAll1_S(l gb:Nat)(Fy:World->Prop)(JR:Nat->Res)(JX:Res)(t:TA)(hy:∀(j:Nat) (p:PairT),t.all[j]?=some p->YSpec l (telA p) Fy (JR j) (JR (j+1)) JX) :
  Spec 65 [.func (.yield l) #[] #[],.pointer (some ⟨gb,0,none⟩)] [JR 0] (λw=>(ObjF gb 31 (trPs t 0) w/\TF t w)/\Fy w) (epost (JR t.all.length) JX):=by
 refine spec_S [.c (.v (.func (.yield l) #[] #[])),.c (.v (.pointer (some ⟨gb,0,none⟩)))] 6 Tryz.func65 rfl (by rw [Tryz.ntmps65];rfl) (two_ok trivial trivial) λb=>?_;refine s_regA TY_ok rfl λK hK=>?_;refine l_give 2 (E':=[(1,.v (.pointer (some ⟨gb,0,none⟩)))]) rfl ⟨rfl,trivial⟩ λg2=>?_;refine l_objOut 0 rfl ?_;refine s_end (hK _ ?_);refine s_lit ?_;refine l_ldO TY_ok rfl rfl rfl rfl rfl rfl (obj_fact λ_ h _=>h.2.1.1) ?_;refine l_op (.v (.func (.func 67) #[] #[.pointer (some ⟨g2,0,none⟩)])) trivial rfl rfl rfl (run_makeF rfl rfl (λ_=>rfl)) ?_;refine l_callA (own:=[JR 0]) (R':=[]) [(eTr t 0).den,.func (.func 67) #[] #[.pointer (some ⟨g2,0,none⟩)]] rfl rfl rfl own_teach rfl rfl (λ_ _=>rfl) (teach_S own_tAll11 [.pointer (some ⟨g2,0,none⟩)] (λw=>ObjF g2 116 (ylPs l) w/\Fy w) JR JX t λj p h hj=>ttell_S (hy j p hj)) (λ_ h _=>⟨h.2.1.2,h.1,h.2.2⟩) λx=>?_;refine s_end ?_;exact k_ret TY_ok x rfl (by decide) rfl rfl rfl (λ_ _ _=>trivial) (λ_ _=>trivial)
theorem tAll_S(t:TA)(d:Nat):Spec 44 [(eTr t d).den] [] (λ_=>True) { ret:=λg:Nat=>.v (.func (.func 65) #[] #[.pointer (some ⟨g,0,none⟩)]),own:=λ_=>[],p:=λg=>ObjF g 31 (trPs t d) }:=by
 refine spec_S [eTr t d] 4 Tryz.func44 rfl (by rw [Tryz.ntmps44];rfl) (one_ok (trPs_ok t d)) λb=>?_;refine s_regA TY_ok rfl λK hK=>?_;refine l_give 1 (E':=[]) rfl trivial λg=>?_;refine l_objOut 0 rfl ?_;refine s_end (hK _ ?_);refine s_regA TY_ok rfl λK2 hK2=>?_;refine l_op (.v (.func (.func 65) #[] #[.pointer (some ⟨g,0,none⟩)])) trivial rfl rfl rfl (run_makeF rfl rfl (λ_=>rfl)) ?_;refine l_autoS TY_ok rfl ?_;refine s_end (hK2 _ ?_);exact s_ret (k_ret TY_ok g rfl (by decide) rfl rfl rfl (λ_ h _=>h.1) (λ_ _=>trivial))
end Go.Proofs.YtlhlkofpjhpaoaaGreatDoor
