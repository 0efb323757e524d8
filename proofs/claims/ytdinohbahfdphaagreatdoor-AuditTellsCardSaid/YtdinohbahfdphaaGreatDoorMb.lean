import Derived.Test.YtdinohbahfdphaaGreatDoorMa
import Derived.Laws.MakeOwn
import Derived.Maps.AppendAt
import Derived.Great.BuildSlice
import Derived.Lib.SlBytesConst
import Derived.Laws.IdiomStrings
import Derived.Laws.BytesArg
import Derived.Deep.RegionHeld3
import Derived.Laws.CopyOwn
open Go renaming FuncId->yi
open Go renaming IntKind->yj
open Go renaming Oper->yk
open Go renaming Value->yl
open Go renaming Program->ym
open Go renaming TypeId->yn
open Go renaming Operand->yo
open Go renaming World->yp
set_option linter.defProp false
open Go.Proofs.Tryz
set_option maxRecDepth 100000
set_option maxHeartbeats 4000000
open Array renaming replicate->bB,length_toList->bG,getD_eq_getD_getElem?->bT,getElem?_eq_getElem->b8,toList_append->dE,toArray_toList->eH,toList_map->jD,size_range->qL,size_map->rY
open Bool renaming and_eq_true->aN
open False renaming elim->qY
open Fin renaming ext->kI
open Go.Addr renaming add_mid->cQ
open Go.Builtin renaming append_->qK
open Go.Exit renaming inBlock->k7
open Go.Instr renaming sureAddr->fX,indexAt->pA,sliceAt->sX
open Go.Next renaming value->mB
open Go.Oper renaming upon->fB,wp->fT
open Go.Region renaming wanted->aQ,ready->a9,binds->c7,noSelect_spec->eN,noSelect->iA,free_spec->iT
open Go.Result renaming andThen_ok->aC,ok->mQ
open Go.Sem renaming run_bind->aG,run_pure->aI
open Go.Value renaming pointer->qJ
open Iff renaming rfl->iE
open List renaming length_append->aA,replicate->aB,mem_singleton->aD,mem_cons->aH,getElem?_eq_getElem->aJ,mem_cons_of_mem->aK,mem_cons_self->aM,getElem?_eq_some_iff->aP,mem_of_getElem?->aR,append_assoc->aT,length_take->aV,size_toArray->aW,length_map->aX,mem_map->aZ,length_cons->a6,map_cons->bA,append_nil->bC,eq_nil_of_length_eq_zero->bE,take_of_length_le->bJ,mem_append->bK,getElem?_append_right->bN,length_set->bV,take_append_drop->b6,all_eq_true->b7,nil_append->cR,length_drop->cU,getElem?_append_left->cW,getElem?_take->dT,range->dV,nodup_cons->fV,map_toArray->fW,not_mem_nil->gB,getElem_mem->iF,map_nil->iK,mem_range'_1->jK,range'->mJ,getElem_of_mem->mK,flatMap_cons->mL,pairwise_iff_getElem->nK,take_left->qG,cons_ne_nil->qU
open List.Pairwise renaming nil->pJ,cons->qV
open List.cons renaming injEq->fO
open Nat renaming le_of_ble_eq_true->aE,le_refl->aF,zero_le->aL,eq_of_beq_eq_true->aO,blt->aU,zero_add->aY,mod_eq_of_lt->a7,le_trans->bM,beq->bW,lt_of_lt_of_le->b9,pow_succ->cB,add_zero->cD,mod_lt->cI,mul_comm->cX,mul_assoc->eQ,one_mul->fH,lt_irrefl->gG,div_le_self->gM,mul_le_mul->iS,le_of_dvd->jE,dvd_of_mod_eq_zero->j4,le_of_eq->kA,pow_add->kC,eq_zero_or_pos->kM,mul_mod->kR,add_mul->kT,gcd->lM,dvd_trans->mR,pow_mul->nP,beq_refl->pN,sub_mod_eq_zero_of_mod_eq->rQ,ble->tH,eq_zero_of_dvd_of_lt->tY,le_mul_of_pos_right->uP,mul_succ->uU,mod_eq_zero_of_dvd->uW
open Option renaming map_some->bS
open Option.some renaming injEq->a8,inj->bQ
open Prod.mk renaming injEq->cK
open UInt8 renaming ofNat->bP,toNat_ofNat'->gK
namespace Go.Proofs.Q
open Go.RowKit Go.IntWalk
def cS(P:ym)(b:Base)(c:Code)(Q:zx)(N:Nat)(e:Env):Prop:=∀a w,St b N e a w->c.wp P Q a w
def kS(b:Base)(K:zw)(N:Nat)(e:Env):Prop:=∀a w,St b N e a w->K a w
def SubS:SE->SE->Prop
  | [],_=>True
  | p::r,E=>lookS E p.1=some p.2/\SubS r E
def findL:ze->Nat->Option LV
  | [],_=>none
  | x::r,j=>match bW x.j j with
    | true=>some x
    | false=>findL r j
def SubL:ze->ze->Prop
  | [],_=>True
  | x::r,L=>findL L x.j=some x/\farL x.j r=true/\SubL r L
theorem SubS.ok:∀{E' E:SE},SubS E' E->OkE E->OkE E'
 | [],_,_,_=>λ_ hx=>by cases hx
 | (j,u)::r,E,hs,h=>λx hx=>by
  rcases aH.1 hx with rfl|hx
  .exact h.get hs.1
  .exact SubS.ok hs.2 h x hx
theorem findL_mem:∀{L:ze} {j:Nat} {x:LV},findL L j=some x->x∈L/\x.j=j
 | [],_,_,h=>by cases h
 | y::r,j,x,h=>by
  unfold findL at h;split at h
  .rename_i e;injection h with h;subst h;exact⟨aM,aO e⟩
  .exact⟨aK _ (findL_mem h).1,(findL_mem h).2⟩
theorem SubL.mem:∀{L' L:ze},SubL L' L->∀x∈L',x∈L
 | [],_,_,_,h=>by cases h
 | y::r,L,h,x,hx=>by
  rcases aH.1 hx with rfl|hx
  .exact(findL_mem h.1).1
  .exact SubL.mem h.2.2 x hx
def SubL.names{L' L:ze}(h:SubL L' L):∀j∈namesL L',j∈namesL L:=λj hj=>by obtain⟨x,hx,rfl⟩:=aZ.1 hj;exact aZ.2 ⟨x,h.mem x hx,rfl⟩
theorem SubL.nodup:∀{L' L:ze},SubL L' L->(namesL L').Nodup
 | [],_,_=>List.nodup_nil
 | _::_,_,h=>fV.2 ⟨farL_mem h.2.1,SubL.nodup h.2.2⟩
def pair_of{G:zk}{l m:zj}(h:m.Pairwise λi j=>G i≠G j)(hl:∀j∈l,j∈m)(hd:l.Nodup):l.Pairwise λi j=>G i≠G j:=by
 refine List.Pairwise.imp_of_mem (λ{x y} hx hy hxy=>?_) hd;obtain⟨p,hp,e1⟩:=mK (hl x hx);obtain⟨q,hq,e2⟩:=mK (hl y hy);rw [<-e1,<-e2];rcases Nat.lt_trichotomy p q with h1|h1|h1
 .exact nK.1 h p q hp hq h1
 .subst h1;exact absurd (e1.symm.trans e2) hxy
 .exact(nK.1 h q p hq hp h1).symm
theorem denE_sub{G:zk}:∀{E' E:SE},SubS E' E->Sub (denE G E') (denE G E)
 | [],_,_=>trivial
 | (k,v)::r,E,h=>⟨by rw [look_den,h.1];rfl,denE_sub h.2⟩
structure Weak(e e':Env):Prop where
  E:SubS e'.E e.E
  L:SubL e'.L e.L
  R:e.R.Perm e'.R
  F:∀w,e.F w->e.M w->e'.F w
  M:∀w,e.M w->e'.M w
section
variable{b:Base}{N:Nat}{e e':Env}{a:Act}{w:yp}
def StW.less{G:zk}{S:zm}{L L':ze}{R:zd}{F M:zv}(h:StW b G S L R F M w)(hL:SubL L' L):StW b G S L' R F M w:=by have hM:∀k,Mine S G L' k->Mine S G L k:=λk hk=>hk.imp id λ⟨j,hj,e⟩=>⟨j,hL.names j hj,e⟩;exact⟨λx hx=>h.var x (hL.mem x hx),pair_of h.apart hL.names hL.nodup,h.res,λj hj=>h.sep j (hL.names j hj),h.fact.less λk _ hk=>hk.imp id (hM k),h.fresh.less λk _ hk=>hk.imp id (hM k),h.chg,λk hk=>h.mine k (hM k hk),h.old⟩
def St.weak(h:St b N e a w)(hw:Weak e e'):St b N e' a w:=by obtain⟨G,S,h1,h2,h3⟩:=h;refine⟨G,S,h1.sub (denE_sub hw.E),hw.E.ok h2,?_⟩;have h4:=(h3.less hw.L).imp hw.F hw.M;exact { h4 with res:=h4.res.perm hw.R }
end
section
variable{P:ym}{b:Base}{Q:zx}{N:Nat}{e e':Env}
def k_weak{K:zw}(hw:Weak e e')(h:kS b K N e'):kS b K N e:=λa w hs=>h a w (hs.weak hw)
def c_weak{c:Code}(hw:Weak e e')(h:cS P b c Q N e'):cS P b c Q N e:=λa w hs=>h a w (hs.weak hw)
def zM{x y:Code}(h:∀K:zw,(∀e',cS P b y Q N e'->kS b K N e')->cS P b x (Exit.then K Q) N e):cS P b (.seq x y) Q N e:=λa w hs =>
 wp_seq_k λK hK=>h K (λ_ h' a' w' hs'=>hK _ _ (h' a' w' hs')) a w hs
def s_lit{id:Nat}{l:zo}(h:lS P b l.toArray Q N l e):cS P b (.region id l.toArray false) Q N e:=λa w hs=>wp_region_lit (h a w hs)
def s_reg{id:Nat}{l:zo}{y:Code}(h:∀K:zw,(∀e',cS P b y Q N e'->kS b K N e')->lS P b l.toArray (Exit.then K Q) N l e):cS P b (.seq (.region id l.toArray false) y) Q N e:=zM λK hK=>s_lit (h K hK)
def zJ{ops:zp}(h:kS b (Q .normal) N e):lS P b ops Q N [] e:=λa w hs=>wpl_nil (h a w hs)
def s_if{c:yo}{x y:Code}{E:SE}{L:ze}{R:zd}{F M:zv}(t:Bool)(hc:evS E c=some (.b t))(h1:t=true->cS P b x Q N ⟨E,L,R,F,M⟩)(h2:t=false->cS P b y Q N ⟨E,L,R,F,M⟩):cS P b (.cond c x y) Q N ⟨E,L,R,F,M⟩:=λa w hs=>by have hs':=hs;obtain⟨G,S,h3⟩:=hs;exact wp_cond_split (h3.fr.eval (evS_ok hc)) (λht=>h1 ht a w hs') (λht=>h2 ht a w hs')
def zW{c:yo}{x y:Code}{E:SE}{L:ze}{R:zd}{F M:zv}(p:Prop)[Decidable p](hc:evS E c=some (.b (decide p)))(h1:p->cS P b x Q N ⟨E,L,R,F,M⟩)(h2:¬p->cS P b y Q N ⟨E,L,R,F,M⟩):cS P b (.cond c x y) Q N ⟨E,L,R,F,M⟩ :=
 s_if (decide p) hc (λh=>h1 (of_decide_eq_true h)) (λh=>h2 (of_decide_eq_false h))
def s_yes{c:yo}{x y:Code}{E:SE}{L:ze}{R:zd}{F M:zv}(hc:evS E c=some (.v (.bool true)))(h1:cS P b x Q N ⟨E,L,R,F,M⟩):cS P b (.cond c x y) Q N ⟨E,L,R,F,M⟩:=λa w hs=>by have hs':=hs;obtain⟨G,S,h3⟩:=hs;exact wp_cond_true (h3.fr.eval (evS_ok hc)) (h1 a w hs')
def s_no{c:yo}{x y:Code}{E:SE}{L:ze}{R:zd}{F M:zv}(hc:evS E c=some (.v (.bool false)))(h1:cS P b y Q N ⟨E,L,R,F,M⟩):cS P b (.cond c x y) Q N ⟨E,L,R,F,M⟩:=λa w hs=>by have hs':=hs;obtain⟨G,S,h3⟩:=hs;exact wp_cond_false (h3.fr.eval (evS_ok hc)) (h1 a w hs')
def zN{id:Nat}{c:Code}(h:cS P b c (k7 id Q) N e):cS P b (.block id c) Q N e:=λa w hs=>wp_block (h a w hs)
def zO(h:kS b (Q .normal) N e):cS P b .skip Q N e:=λa w hs=>wp_skip (h a w hs)
def s_exit{id:Nat}(h:kS b (Q (.exit id)) N e):cS P b (.exit id) Q N e:=λa w hs=>wp_exit (h a w hs)
def zP(h:kS b (Q .ret) N e):cS P b .ret Q N e:=λa w hs=>wp_ret (h a w hs)
def k_out{id:Nat}(h:kS b (Q .normal) N e):kS b (k7 id Q (.exit id)) N e:=λa w hs=>by simp only [k7,if_true];exact h a w hs
def zS{id:Nat}{K:zw}(h:kS b (Q (.exit id)) N e):kS b (Exit.then K Q (.exit id)) N e:=h
def k_passB{id id':Nat}(hne:(id==id')=false)(h:kS b (Q (.exit id)) N e):kS b (k7 id' Q (.exit id)) N e:=λa w hs=>by simp only [k7];rw [if_neg (by simpa using hne)];exact h a w hs
theorem s_loop{σ:Type}{c:Code}(m:σ->Nat)(F:σ->Env)(I:σ->Prop)
 (round:∀s,I s->cS P b c (Exit.then (λa' w'=>∃s',I s'/\St b N (F s') a' w'/\m s'<m s) Q) N (F s))(s0:σ)(h0:I s0):cS P b (.loop c) Q N (F s0):=λa w hs=>by
 obtain⟨G,S,h1,h2,h3⟩:=hs;refine c_loop (σ:=σ×zk×zm) (m:=λx=>m x.1) (F:=λx=>denE x.2.1 (F x.1).E) (R:=λx w=>I x.1/\OkE (F x.1).E/\StW b x.2.1 x.2.2 (F x.1).L (F x.1).R (F x.1).F (F x.1).M w) ?_ (s0,G,S) ⟨h0,h2,h3⟩ a h1
 rintro⟨s,G,S⟩ w ⟨hI,hE,hW⟩ a ha
 refine wp_mono (round s hI a w ⟨G,S,ha,hE,hW⟩) λx a' w' hx=>?_
 cases x with
 | normal =>
  obtain⟨s',hI',⟨G',S',h4,h5,h6⟩,hm⟩:=hx;exact⟨(s',G',S'),⟨hI',h5,h6⟩,h4,hm⟩
 | exit _=>exact hx
 | goto _=>exact hx
 | ret=>exact hx
 | panic _=>exact hx
 | outgrown=>exact hx
def zX{σ:Type}{m:σ->Nat}{F:σ->Env}{I:σ->Prop}{s:σ}(s':σ)(hI:I s')(hm:m s'<m s)(hw:Weak e (F s')):kS b (λa' w'=>∃s',I s'/\St b N (F s') a' w'/\m s'<m s) N e:=λ_ _ hs=>⟨s',hI,hs.weak hw,hm⟩
end
inductive RV where
  | q (x:SQ)
  | t (vs:yq)
def RV.sv:RV->SV
  | .q x=>.q x
  | .t vs=>.t vs
def RV.den:RV->yl
  | .q x=>x.den
  | .t vs=>.tuple (vs.map SQ.den).toArray
def RV.sv_den(r:RV)(G:zk):r.sv.den G=r.den:=by cases r<;>rfl
abbrev RV.v(x:yl):RV:=.q (.c (.v x))
structure Post(α:Type) where
  ret:α->RV
  own:α->zd:=λ_=>[]
  p:α->zv:=λ_ _=>True
  n:α->zv:=λ_ _=>True
def Spec(f:yi)(args:zq)(own:zd)(F:zv){α:Type}(post:Post α):Prop :=
  ∀(w:yp) (S X:zm),starL own w S->(∀k,X k->k<w.heap.size/\¬S k)->Stb (λk=>X k\/S k) F w ->
    Calls prog f args.toArray w λe w'=>∃x S',e = .returned (post.ret x).den/\(post.ret x).sv.Ok/\Chg S w w'/\starL (post.own x) w' S'/\(∀k,S' k->k<w.heap.size->S k) /\
      Stb (λk=>X k\/S' k) (post.p x) w'/\Stb (λk=>k<w.heap.size\/S' k) (post.n x) w'
abbrev one(r:RV):Post Unit:={ ret:=λ_=>r }
def Spec.pure{f:yi}{args:zq}{F:zv}{r:RV}(hr:r.sv.Ok)(h:∀w,F w->Calls prog f args.toArray w λe w'=>e = .returned r.den/\Below w.heap.size w w'):Spec f args [] F (one r):=λw _ _ _ _ hF =>
 (h w hF.now).mono λ_ _ ⟨h1,h2⟩=>⟨(),λ_=>False,h1,hr,Chg.of_up h2,λ_ h=>h,λ_ h=>h.elim,λ_ _=>trivial,λ_ _=>trivial⟩
def Spec.imp{f:yi}{args:zq}{own:zd}{F F':zv}{α:Type}{post:Post α}(h:Spec f args own F post)(hF:∀w,F' w->F w):Spec f args own F' post:=λw S X hS hX hf=>h w S X hS hX (hf.imp hF)
def argS:Nat->yq->SE
  | _,[]=>[]
  | j,v::vs=>(j,.q v)::argS (j+1) vs
theorem argS_den(G:zk):∀(vs:yq) (j:Nat),denE G (argS j vs)=argE j (vs.map SQ.den)
 | [],_=>rfl
 | v::vs,j=>by rw [argS,denE,argS_den G vs (j+1)];rfl
theorem argS_ok:∀{vs:yq} {j:Nat},(∀v∈vs,v.Ok)->OkE (argS j vs)
 | [],_,_=>λ_ h=>by cases h
 | v::vs,j,h=>OkE.cons (argS_ok λu hu=>h u (by simp [hu])) (h v (by simp))
def endS{α:Type}(b:Base)(post:Post α)(e:Ending)(w':yp):Prop:=∃x S',e = .returned (post.ret x).den/\(post.ret x).sv.Ok/\Chg b.D b.B w'/\starL (post.own x) w' S'/\(∀k,S' k->k<b.B.heap.size->b.D k) /\
  Stb (λk=>b.X k\/S' k) (post.p x) w'/\Stb (λk=>k<b.B.heap.size\/S' k) (post.n x) w'
def zQ{f:yi}{fn:Func}{c:Code}{own:zd}{F:zv}{α:Type}{post:Post α}(vs:yq)(N:Nat)(hf:prog.funcs[f]?=some fn)(hb:fn.body=some c)(hn:vs.length+(fn.ntmps-vs.length)=N)(hv:∀v∈vs,v.Ok)
 (h:∀b:Base,cS prog b c (bodyPost prog fn (endS b post)) N ⟨argS 0 vs,[],own,F,λ_=>True⟩):Spec f (vs.map SQ.den) own F post:=λw S X hS hX hF=>by
 refine calls_F N hf hb (by simpa using hn) λa ha=>?_;refine h ⟨X,w,S⟩ a w ⟨λ_=>0,S,by rw [argS_den];exact ha,argS_ok hv,λx hx=>(by cases hx),pJ,hS,λx hx=>(by cases hx),?_,λ_ _=>trivial,Chg.refl _ _,λk hk _=>?_,hX⟩
 .exact hF.less λk _ hk=>hk.imp id λhk=>hk.elim id λ⟨j,hj,_⟩=>by cases hj
 .exact hk.elim id λ⟨j,hj,_⟩=>by cases hj
def resS(T:yw)(E:SE)(L:ze):List ResultVar->Option yq
  | []=>some []
  | .tmp t::r=>match lookS E t,resS T E L r with
    | some (.q q),some qs=>some (q::qs)
    | _,_=>none
  | .cell t ty::r=>match lookS E t,resS T E L r with
    | some (.a j off),some qs=>match lookL L j with
      | some ps=>match loadS T ps ty off with
        | some q=>some (q::qs)
        | none=>none
      | none=>none
    | _,_=>none
def retOf:yq->RV
  | [q]=>.q q
  | qs=>.t qs
def elemR(tmps:zr):ResultVar->Sem yl
  | .tmp t=>pure (tmps.getD t undef)
  | .cell p t=>do loadVar t (<-asAddr (tmps.getD p undef))
theorem elemR_ok{P:ym}{T:yw}(hT:OkT P T){E:SE}{L:ze}(hE:OkE E)(hL:OkL L){N:Nat}{G:zk}{a:Act}{w:yp}(ha:Fr N (denE G E) a)(hl:LAt G L w){r:ResultVar}{rs:List ResultVar}{qs:yq}(h:resS T E L (r::rs)=some qs) :
  ∃q qs',qs=q::qs'/\q.Ok/\(elemR a.tmps r).run P w = .ok q.den w/\resS T E L rs=some qs':=by
 cases r with
 | tmp t =>
  simp only [resS] at h
  split at h
  .rename_i q qs' h1 h2;injection h with h;subst h;have e:a.tmps.getD t undef=q.den:=ha.get t _ (by rw [look_den,h1];rfl);exact⟨q,qs',rfl,hE.get h1,by simp only [elemR,aI,e],h2⟩
  .cases h
 | cell t ty =>
  simp only [resS] at h
  split at h
  .rename_i j off qs' h1 h2
   split at h
   .rename_i ps hps
    split at h
    .rename_i q hq;injection h with h;subst h;obtain⟨y,hy,rfl,rfl⟩:=lookL_mem hps;obtain⟨h5,h6⟩:=loadS_ok hT (hL y hy) hq;have e:a.tmps.getD t undef = .pointer (some ⟨G y.j,off,none⟩):=ha.get t _ (by rw [look_den,h1];rfl);have h7:=h6 (hl y hy);simp only [Instr.loadAt,fX,aG,aI,aC] at h7;exact⟨q,qs',rfl,h5,by simp only [elemR,aG,aI,aC,e,asAddr,h7],h2⟩
    .cases h
   .cases h
  .cases h
def results_eq(fn:Func)(tmps:zr):results fn tmps=(do
  let vs <-fn.results.mapM (elemR tmps)
  pure (if h:vs.size=1 then vs[0] else .tuple vs)):=by
 unfold results
 congr 2
def run_results{P:ym}{T:yw}(hT:OkT P T){E:SE}{L:ze}(hE:OkE E)(hL:OkL L){N:Nat}{G:zk}{fn:Func}{a:Act}{w:yp}(ha:Fr N (denE G E) a)(hl:LAt G L w){rs:List ResultVar}{qs:yq}(hr:fn.results=rs.toArray)(hs:rs.length<=3)(h:resS T E L rs=some qs) :
  (retOf qs).sv.Ok/\(results fn a.tmps).run P w = .ok (retOf qs).den w:=by
 rw [results_eq,hr]
 rcases rs with _|⟨r1,_|⟨r2,_|⟨r3,_|⟨r4,rs⟩⟩⟩⟩
 .cases h;exact⟨λ_ h=>(by cases h),by simp [retOf,RV.den]⟩
 .obtain⟨q1,qs,rfl,o1,e1,h⟩:=elemR_ok hT hE hL ha hl h;cases h;exact⟨o1,by simp [retOf,RV.den,e1]⟩
 .obtain⟨q1,qs,rfl,o1,e1,h⟩:=elemR_ok hT hE hL ha hl h;obtain⟨q2,qs,rfl,o2,e2,h⟩:=elemR_ok hT hE hL ha hl h;cases h;refine⟨λx hx=>?_,by simp [retOf,RV.den,e1,e2]⟩;simp only [aH,gB,or_false] at hx;rcases hx with rfl|rfl<;>assumption
 .obtain⟨q1,qs,rfl,o1,e1,h⟩:=elemR_ok hT hE hL ha hl h;obtain⟨q2,qs,rfl,o2,e2,h⟩:=elemR_ok hT hE hL ha hl h;obtain⟨q3,qs,rfl,o3,e3,h⟩:=elemR_ok hT hE hL ha hl h;cases h;refine⟨λx hx=>?_,by simp [retOf,RV.den,e1,e2,e3]⟩;simp only [aH,gB,or_false] at hx;rcases hx with rfl|rfl|rfl<;>assumption
 .simp at hs
def zR{T:yw}(hT:OkT prog T){b:Base}{fn:Func}{N:Nat}{E:SE}{L:ze}{R:zd}{F M:zv}{α:Type}{post:Post α}{rs:List ResultVar}{qs:yq}(x:α)(hr:fn.results=rs.toArray)(hs:rs.length<=3)(h:resS T E L rs=some qs)
 (hx:post.ret x=retOf qs)(hR:post.own x=R)(hp:∀w,F w->M w->post.p x w)(hn:∀w,M w->post.n x w):kS b (bodyPost prog fn (endS b post) .ret) N ⟨E,L,R,F,M⟩:=λa w ⟨G,S,h1,h2,h3⟩=>by
 obtain⟨h4,h5⟩:=run_results hT h2 h3.okL h1 h3.at hr hs h;refine bodyPost_ret h5 h1.defers ⟨x,S,by rw [hx],by rw [hx];exact h4,h3.chg,by rw [hR];exact h3.res,λk hk hlt=>h3.mine k (.inl hk) hlt,(h3.all.imp λw hw=>hp w hw.1 hw.2).less λk _ hk=>hk.imp id .inl,(h3.fresh.imp hn).less λk _ hk=>hk.imp id .inl⟩
def k_retD{T:yw}(hT:OkT prog T){b:Base}{fn:Func}{N:Nat}{E:SE}{L:ze}{R:zd}{F M:zv}{α:Type}{post:Post α}{rs:List ResultVar}{qs:yq}(x:α)(hr:fn.results=rs.toArray)(hs:rs.length<=3)(h:resS T E L rs=some qs)
 (hx:(post.ret x).den=(retOf qs).den)(ho:(post.ret x).sv.Ok)(hR:post.own x=R)(hp:∀w,F w->M w->post.p x w)(hn:∀w,M w->post.n x w):kS b (bodyPost prog fn (endS b post) .ret) N ⟨E,L,R,F,M⟩:=λa w ⟨G,S,h1,h2,h3⟩=>by
 obtain⟨h4,h5⟩:=run_results hT h2 h3.okL h1 h3.at hr hs h;refine bodyPost_ret h5 h1.defers ⟨x,S,by rw [hx],ho,h3.chg,by rw [hR];exact h3.res,λk hk hlt=>h3.mine k (.inl hk) hlt,(h3.all.imp λw hw=>hp w hw.1 hw.2).less λk _ hk=>hk.imp id .inl,(h3.fresh.imp hn).less λk _ hk=>hk.imp id .inl⟩
structure View(G:zk)(S:zm)(L:ze)(R:zd)(F M:zv)(w:yp):Prop where
  var:∀x∈L,Blk w (G x.j) x.t (catP x.ps)/\OkP x.ps/\∀g,x.g=some g->G x.j=g
  res:starL R w S
  fact:F w
  fresh:M w
section
variable{b:Base}{G:zk}{S:zm}{L:ze}{R R' own:zd}{F M F':zv}{w w':yp}{α:Type}{post:Post α}{f:yi}{args:zq}
def StW.view(h:StW b G S L R F M w):View G S L R F M w:=⟨h.var,h.res,h.fact.now,h.all.now.2⟩
def StW.split(h:StW b G S L (own++R') F M w):∃S1 S2,starL own w S1/\starL R' w S2/\(∀k,S k↔S1 k\/S2 k)/\∀k,S1 k->¬S2 k:=starL.app.1 h.res
def StW.chgd(h:StW b G S L R F M w){S1 S2 S':zm}(hS:∀k,S k↔S1 k\/S2 k)(hc:Chg S1 w w')(hr:starL R' w' λk=>S' k\/S2 k)(hS':∀k,S' k->k<w.heap.size->S1 k):StW b G (λk=>S' k\/S2 k) L R' F M w':=by
 have hSm:∀k,S1 k->Mine S G L k:=λk hk=>.inl ((hS k).2 (.inl hk));have hM:∀k,k<w.heap.size->Mine (λk=>S' k\/S2 k) G L k->Mine S G L k:=λk hlt hk=>hk.imp (λhk=>(hS k).2 (hk.imp (λh=>hS' k h hlt) id)) id;refine⟨λx hx=>⟨(hc.block _ (h.var x hx).1.lt λhs=>h.sep x.j (aZ.2 ⟨x,hx,rfl⟩) ((hS _).2 (.inl hs))).trans (h.var x hx).1,(h.var x hx).2⟩,h.apart,hr,λj hj hs=>?_,?_,?_,h.chg.step hc λi hi hs=>h.mine i (hSm i hs) hi,λk hk hlt=>h.mine k (hM k (b9 hlt h.chg.size) hk) hlt,h.old⟩
 .have hlt:=h.lt (G j) (.inr ⟨j,hj,rfl⟩);exact h.sep j hj ((hS _).2 (hs.imp (λh=>hS' _ h hlt) id))
 .exact h.fact.past (D':=Dof b.X (λk=>S' k\/S2 k) G L) (hc.mono (D':=Dof b.X S G L) λi _ hs=>.inr (hSm i hs)) λi hi hd=>hd.imp id (hM i hi)
 .exact h.fresh.past (D':=Nof b (λk=>S' k\/S2 k) G L) (hc.mono (D':=Nof b S G L) λi _ hs=>.inr (hSm i hs)) λi hi hd=>hd.imp id (hM i hi)
def StW.lent(h:StW b G S L (own++R') F M w){S1 S2 S':zm}{own':zd}(h2:starL R' w S2)(hS:∀k,S k↔S1 k\/S2 k)(hd:∀k,S1 k->¬S2 k)(hc:Chg S1 w w')(h1':starL own' w' S')(hS':∀k,S' k->k<w.heap.size->S1 k) :
  StW b G (λk=>S' k\/S2 k) L (own'++R') F M w':=h.chgd hS hc (starL.app.2 ⟨S',S2,h1',h2.keep λk hk=>hc.block k (h2.lt k hk) λhs=>hd k hs hk,λ_=>iE,λk hk hk2=>hd k (hS' k hk (h2.lt k hk2)) hk2⟩) hS'
def StW.put(h:StW b G S L R F M w){i:Nat}{r:Res}(hi:R[i]?=some r):∃S1,r.holds w S1/\∀(r':Res) (w':yp) (S':zm),Chg S1 w w'->r'.holds w' S'->(∀k,S' k->k<w.heap.size->S1 k)->∃S'',StW b G S'' L (R.set i r') F M w':=by obtain⟨S1,S2,h1,h2,h3,h4,h5⟩:=h.res.at hi;refine⟨S1,h1,λr' w' S' hc hr hS'=>⟨_,h.chgd h2 hc (h5 r' w' S' hr (λk hk=>hc.block k (h4.lt k hk) λhs=>h3 k hs hk) λk hk hk2=>h3 k (hS' k hk (h4.lt k hk2)) hk2) hS'⟩⟩
def StW.gain(h:StW b G S L R F M w)(k:Below w.heap.size w w'){r:Res}{S':zm}(hr:r.holds w' S')(hn:∀k,S' k->w.heap.size<=k):∃S'',StW b G S'' L (r::R) F M w':=by
 refine⟨_,h.chgd (S1:=λ_=>False) (S2:=S) (S':=S') (λk=>⟨.inr,λh=>h.elim qY id⟩) (Chg.of_up k) ⟨S',S,hr,h.res.keep λi hi=>k.block i (h.res.lt i hi),λ_=>iE,λi hi hs=>?_⟩ λi hi hlt=>?_⟩
 .exact gG _ (b9 (h.res.lt i hs) (hn i hi))
 .exact gG _ (b9 hlt (hn i hi))
def StW.let(h:StW b G S L R F M w){i:Nat}{r:Res}(hi:R[i]?=some r):∃S1 S2,r.holds w S1/\(∀k,S1 k->¬S2 k)/\(∀k,S k↔S1 k\/S2 k)/\StW b G S2 L (R.eraseIdx i) F M w:=by obtain⟨S1,S2,h1,h2,h3,h4,_⟩:=h.res.at hi;have hM:∀k,Mine S2 G L k->Mine S G L k:=λk hk=>hk.imp (λh=>(h2 k).2 (.inr h)) id;exact⟨S1,S2,h1,h3,h2,{ h with res:=h4,sep:=λj hj hs=>h.sep j hj ((h2 _).2 (.inr hs)),fact:=h.fact.less λk _ hk=>hk.imp id (hM k),fresh:=h.fresh.less λk _ hk=>hk.imp id (hM k),mine:=λk hk=>h.mine k (hM k hk) }⟩
def StW.callA(h:StW b G S L (own++R') F M w)(hs:Spec f args own F' post)(hF:∀w,F w->M w->F' w) :
  Calls prog f args.toArray w λe w'=>∃x S',e = .returned (post.ret x).den/\(post.ret x).sv.Ok/\StW b G S' L (post.own x++R') (λw=>post.p x w/\F w) (λw=>post.n x w/\M w) w':=by
 obtain⟨S1,S2,h1,h2,hS,hd⟩:=h.split
 have hX:∀k,b.X k\/(S2 k\/∃j∈namesL L,G j=k)->k<w.heap.size/\¬S1 k:=λk hk=>by
  rcases hk with hk|hk|⟨j,hj,rfl⟩
  .exact⟨b9 (h.old k hk).1 h.chg.size,λhs=>(h.old k hk).2 (h.mine k (.inl ((hS k).2 (.inl hs))) (h.old k hk).1)⟩
  .exact⟨h2.lt k hk,λhs=>hd k hs hk⟩
  .exact⟨h.lt _ (.inr ⟨j,hj,rfl⟩),λhs=>h.sep j hj ((hS _).2 (.inl hs))⟩
 refine(hs w S1 (λk=>b.X k\/(S2 k\/∃j∈namesL L,G j=k)) h1 hX ((h.all.imp λw hw=>hF w hw.1 hw.2).less λk _ hk=>?_)).mono ?_
 .rcases hk with(hk|hk|hk)|hk
  .exact .inl hk
  .exact .inr (.inl ((hS k).2 (.inr hk)))
  .exact .inr (.inr hk)
  .exact .inr (.inl ((hS k).2 (.inl hk)))
 .rintro e w' ⟨x,S',he,hok,hc,h1',hS',hp,hn⟩
  have h3:=h.lent h2 hS hd hc h1' hS';refine⟨x,_,he,hok,(h3.and (p:=post.p x) (hp.less λk _ hk=>?_)).andM (p:=post.n x) (hn.less λk _ hk=>?_)⟩
  .rcases hk with hk|(hk|hk)|hk
   .exact .inl (.inl hk)
   .exact .inr hk
   .exact .inl (.inr (.inl hk))
   .exact .inl (.inr (.inr hk))
  .rcases hk with hk|(hk|hk)|⟨j,hj,rfl⟩
   .exact .inl (b9 hk h.chg.size)
   .exact .inr hk
   .exact .inl (h2.lt k hk)
   .exact .inl (h.lt _ (.inr ⟨j,hj,rfl⟩))
end
section
variable{b:Base}{ops:zp}{Q:zx}{N:Nat}{E:SE}{L:ze}{R R' own:zd}{F M F':zv}{o:yk}{rest:zo}{k:Nat}{α:Type}{post:Post α}{f:yi}{xs:zg}{ats:zf}{svs:yu}
def call_run{G:zk}{a:Act}{w:yp}(hf:Own f)(ho:o.op = .call { callee:=.value (.func f),args:=xs,argTypes:=ats })(hx:evSs E xs.toList=some svs)(ha:Fr N (denE G E) a) :
  (execOp a.eval o).run prog w = .ok (.enter f (svs.map (SV.den G)).toArray) w:=by
 rw [run_call_fn hf ho,map_eval (ha.evals _ _ (by rw [evSs_ok hx]))]
def l_callA(args:zq)(hg:o.guard=none)(hd:o.dst=some k)(hk:aU k N=true)(hf:Own f)(ho:o.op = .call { callee:=.value (.func f),args:=xs,argTypes:=ats })(hx:evSs E xs.toList=some svs)
 (ha:∀G:zk,(∀x∈L,∀g,x.g=some g->G x.j=g)->svs.map (SV.den G)=args)(hs:Spec f args own F' post)(hF:∀w,F w->M w->F' w)
 (hn:∀x,lS prog b ops Q N rest ⟨(k,(post.ret x).sv)::E,L,post.own x++R',λw=>post.p x w/\F w,λw=>post.n x w/\M w⟩):lS prog b ops Q N (o::rest) ⟨E,L,own++R',F,M⟩:=λa w ⟨G,S,h1,h2,h3⟩=>by
 have hr:=call_run (w:=w) hf ho hx h1;rw [ha G λx hx=>(h3.var x hx).2.2] at hr
 unfold wpList
 rw [if_pos (by simp [aQ,hg])];refine .inl ?_
 unfold fT
 rw [hr];simp only [fB,hd];refine(h3.callA hs hF).mono ?_
 rintro e w' ⟨x,S',rfl,hok,h4⟩
 have h5:=h1.put hk (post.ret x).den;rw [<-RV.sv_den _ G] at h5;have h6:=hn x _ w' ⟨G,S',h5,h2.cons hok,h4⟩;rw [RV.sv_den] at h6;exact h6
def l_call1{r:RV}(args:zq)(hg:o.guard=none)(hd:o.dst=some k)(hk:aU k N=true)(hf:Own f)(ho:o.op = .call { callee:=.value (.func f),args:=xs,argTypes:=ats })(hx:evSs E xs.toList=some svs)
 (ha:∀G:zk,(∀x∈L,∀g,x.g=some g->G x.j=g)->svs.map (SV.den G)=args)(hr:r.sv.Ok)(hs:∀G S w,View G S L R F M w->Calls prog f args.toArray w λe w'=>e = .returned r.den/\Below w.heap.size w w')
 (hn:lS prog b ops Q N rest ⟨(k,r.sv)::E,L,R,F,M⟩):lS prog b ops Q N (o::rest) ⟨E,L,R,F,M⟩:=λa w ⟨G,S,h1,h2,h3⟩=>by
 have hr':=call_run (w:=w) hf ho hx h1;rw [ha G λx hx=>(h3.var x hx).2.2] at hr'
 unfold wpList
 rw [if_pos (by simp [aQ,hg])];refine .inl ?_
 unfold fT
 rw [hr'];simp only [fB,hd];refine(hs G S w h3.view).mono ?_
 rintro e w' ⟨rfl,hb⟩
 have h5:=h1.put hk r.den;rw [<-RV.sv_den _ G] at h5;have h6:=hn _ w' ⟨G,S,h5,h2.cons hr,h3.later hb⟩;rw [RV.sv_den] at h6;exact h6
def l_f{P:ym}(v:SV)(hv:v.Ok)(h:∀(G:zk) (S:zm) (w:yp) (C0:zv) (Q':Act->Prop),View G S L R F M w->(∀w',C0 w'->w'=w)->bF P ops C0 Q' [] N ((k,v.den G)::denE G E)->bF P ops C0 Q' [o] N (denE G E))(hs:stillG o.op=true)
 (hn:lS P b ops Q N rest ⟨(k,v)::E,L,R,F,M⟩):lS P b ops Q N (o::rest) ⟨E,L,R,F,M⟩:=λa w ⟨G,S,h1,h2,h3⟩=>by
 refine wpList_of_Bs [o] a w (by simp [hs]) (h G S w (· = w) _ h3.view (λ_ h=>h) (λa' ha'=>wpB_nil ?_) a h1);exact hn a' w ⟨G,S,ha',h2.cons hv,h3⟩
def l_eq{P:ym}{l:zo}(k:Nat){v:SV}(v':SV)(h:lookS E k=some v)(he:v=v')(hn:lS P b ops Q N l ⟨(k,v')::E,L,R,F,M⟩):lS P b ops Q N l ⟨E,L,R,F,M⟩:=λa w ⟨G,S,h1,h2,h3⟩=>by subst he;exact hn a w ⟨G,S,h1.more (h1.get k _ (by rw [look_den,h];rfl)),h2.cons (h2.get h),h3⟩
def l_is{P:ym}{l:zo}(k:Nat){t:Bool}(q:Bool)(h:lookS E k=some (.b t))(he:t=q)(hn:lS P b ops Q N l ⟨(k,.v (.bool q))::E,L,R,F,M⟩):lS P b ops Q N l ⟨E,L,R,F,M⟩:=λa w ⟨G,S,h1,h2,h3⟩=>by subst he;exact hn a w ⟨G,S,h1.more (h1.get k _ (by rw [look_den,h];rfl)),h2.cons trivial,h3⟩
def l_num{P:ym}{l:zo}(k:Nat){K:yj}{m:Int}(n:Int)(h:lookS E k=some (.v (.int K m)))(he:m=n)(hn:lS P b ops Q N l ⟨(k,.v (.int K n))::E,L,R,F,M⟩):lS P b ops Q N l ⟨E,L,R,F,M⟩:=l_eq k _ h (by rw [he]) hn
end
def gS(P:ym)(_b:Base)(ops:zp)(Q:zx)(N:Nat)(T:zo)(G:zk)(w0:yp)(l:List (Nat×yk))(E:SE):Prop:=OkE E->gF P Bel ops (Up w0) (endG P ops Q (Up w0) T) l N (denE G E) []
section
variable{P:ym}{b:Base}{Q:zx}{N:Nat}{E:SE}{L:ze}{R:zd}{F M:zv}{id:Nat}{l:zo}
def s_drawn(n:Nat)(hn:n<=l.length)(hm:P.follows .mixedOrders=true)(hB:tailH l.toArray n (l.drop n).length=true)
 (h:∀G S w0,StW b G S L R F M w0->gS P b l.toArray Q N (l.drop n) G w0 (idx 0 (l.take n)) E):cS P b (.region id l.toArray true) Q N ⟨E,L,R,F,M⟩:=λa w ⟨G,S,h1,h2,h3⟩ =>
 c_g n hn hm hB (h G S w h3 h2) a h1
def s_regD{y:Code}(n:Nat)(hn:n<=l.length)(hm:P.follows .mixedOrders=true)(hB:tailH l.toArray n (l.drop n).length=true)
 (h:∀K:zw,(∀e',cS P b y Q N e'->kS b K N e')->∀G S w0,StW b G S L R F M w0->gS P b l.toArray (Exit.then K Q) N (l.drop n) G w0 (idx 0 (l.take n)) E):cS P b (.seq (.region id l.toArray true) y) Q N ⟨E,L,R,F,M⟩:=zM λK hK=>s_drawn n hn hm hB (h K hK)
end
def autoD(T:yw)(ops:zp)(N:Nat)(L:ze):List (Nat×yk)->SE->List (Nat×yk)×SE
  | [],E=>([],E)
  | (i,o)::l,E=>match wantS ops N E o with
    | none=>((i,o)::l,E)
    | some false=>match o.dst with
      | some k=>match aU k N with
        | true=>autoD T ops N L l ((k,.v undef)::E)
        | false=>((i,o)::l,E)
      | none=>((i,o)::l,E)
    | some true=>match o.dst with
      | some k=>match aU k N with
        | true=>match stepS T E L o.op with
          | some v=>autoD T ops N L l ((k,v)::E)
          | none=>((i,bareO o)::l,E)
        | false=>((i,o)::l,E)
      | none=>((i,bareO o)::l,E)
section
variable{P:ym}{b:Base}{T:yw}{ops:zp}{Q:zx}{N:Nat}{T':zo}{G:zk}{S:zm}{L:ze}{R:zd}{F M:zv}{w0:yp}
theorem autoD_ok(hT:OkT P T)(hst:StW b G S L R F M w0):∀{l:List (Nat×yk)} {E:SE},gS P b ops Q N T' G w0 (autoD T ops N L l E).1 (autoD T ops N L l E).2->gS P b ops Q N T' G w0 l E
 | [],_,h=>h
 | (i,o)::l,E,h=>by
  unfold autoD at h;cases hw:wantS ops N E o with
  | none=>rw [hw] at h;exact h
  | some q =>
   rw [hw] at h
   intro hE a Fa ha hF
   have hwt:=wantS_ok ha hw
   cases q with
   | false =>
    dsimp only at h
    cases hd:o.dst with
    | none=>rw [hd] at h;exact h hE a Fa ha hF
    | some k =>
     rw [hd] at h
     dsimp only at h
     cases hk:aU k N with
     | false=>rw [hk] at h;exact h hE a Fa ha hF
     | true =>
      rw [hk] at h
      unfold wpG
      rw [hwt,if_neg (by decide)]
      dsimp only
      rw [hd];exact autoD_ok hT hst h (hE.cons (v:=.v undef) trivial) _ _ (ha.put hk undef) (hF.up rfl)
   | true =>
    dsimp only at h
    have hgd:gS P b ops Q N T' G w0 ((i,bareO o)::l) E->wpG P Bel ops (Up w0) (endG P ops Q (Up w0) T') ((i,o)::l) Fa a:=λh1=>by have h1:=h1 hE a Fa ha hF;obtain⟨dst,op,ty,pos,af,gd⟩:=o;unfold wpG at h1 ⊢;rw [if_pos hwt];rw [if_pos (by rfl)] at h1;exact h1
    cases hd:o.dst with
    | none=>rw [hd] at h;exact hgd h
    | some k =>
     rw [hd] at h
     dsimp only at h
     cases hk:aU k N with
     | false=>rw [hk] at h;exact h hE a Fa ha hF
     | true =>
      rw [hk] at h
      dsimp only at h
      cases hv:stepS T E L o.op with
      | none=>rw [hv] at h;exact hgd h
      | some v =>
       rw [hv] at h;obtain⟨h1,h2⟩:=stepS_ok hT hE hst.okL hv;refine g_op rfl (λa ha=>b_val (wantS_ok ha hw) (λw hw=>h2 ha (hst.later hw.1).at) ?_) a Fa ha hF;rw [hd];exact g_go (o:=o) (autoD_ok hT hst h (hE.cons h1)) _ (ha.put hk _)
def g_autoS(hT:OkT P T)(hst:StW b G S L R F M w0){l l':List (Nat×yk)}{E E':SE}(h:autoD T ops N L l E=(l',E'))(hn:gS P b ops Q N T' G w0 l' E'):gS P b ops Q N T' G w0 l E:=autoD_ok hT hst (by rw [h];exact hn)
def g_endS(hst:StW b G S L R F M w0){E:SE}(h:lS P b ops Q N T' ⟨E,L,R,F,M⟩):gS P b ops Q N T' G w0 [] E:=λhE=>g_end λw hw _ a ha=>h a w ⟨G,S,ha,hE,hst.later hw⟩
variable{E:SE}{o:yk}{rest:List (Nat×yk)}{i k:Nat}
def g_f(hst:StW b G S L R F M w0)(v:SV)(hv:v.Ok)(h:∀(C0:zv) (Q':Act->Prop),(∀w,C0 w->View G S L R F M w)->bF P ops C0 Q' [] N ((k,v.den G)::denE G E)->bF P ops C0 Q' [o] N (denE G E))(hn:gS P b ops Q N T' G w0 rest ((k,v)::E)):gS P b ops Q N T' G w0 ((i,o)::rest) E:=λhE =>
 g_op rfl (h _ _ (λ_ hw=>(hst.later hw.1).view) (g_go (o:=o) (hn (hE.cons hv))))
def g_eq{l:List (Nat×yk)}(k:Nat){v:SV}(v':SV)(h:lookS E k=some v)(he:v=v')(hn:gS P b ops Q N T' G w0 l ((k,v')::E)):gS P b ops Q N T' G w0 l E:=λhE=>by subst he;intro a Fa ha hF;exact hn (hE.cons (hE.get h)) a Fa (ha.more (ha.get k _ (by rw [look_den,h];rfl))) hF
def g_is{l:List (Nat×yk)}(k:Nat){t:Bool}(q:Bool)(h:lookS E k=some (.b t))(he:t=q)(hn:gS P b ops Q N T' G w0 l ((k,.v (.bool q))::E)):gS P b ops Q N T' G w0 l E:=λhE=>by subst he;intro a Fa ha hF;exact hn (hE.cons trivial) a Fa (ha.more (ha.get k _ (by rw [look_den,h];rfl))) hF
def g_num{l:List (Nat×yk)}(k:Nat){K:yj}{m:Int}(n:Int)(h:lookS E k=some (.v (.int K m)))(he:m=n)(hn:gS P b ops Q N T' G w0 l ((k,.v (.int K n))::E)):gS P b ops Q N T' G w0 l E:=g_eq k _ h (by rw [he]) hn
end
def g_call1{b:Base}{ops:zp}{Q:zx}{N:Nat}{T':zo}{G:zk}{S:zm}{L:ze}{R:zd}{F M:zv}{w0:yp}{E:SE}{o:yk}{rest:List (Nat×yk)}{i k:Nat}{f:yi}{xs:zg}{ats:zf}{svs:yu}{r:RV}
 (hst:StW b G S L R F M w0)(args:zq)(hg:o.guard=none)(hd:o.dst=some k)(hk:aU k N=true)(hf:Own f)(ho:o.op = .call { callee:=.value (.func f),args:=xs,argTypes:=ats })(hx:evSs E xs.toList=some svs)
 (ha:(∀x∈L,∀g,x.g=some g->G x.j=g)->svs.map (SV.den G)=args)(hr:r.sv.Ok)(hs:∀w,View G S L R F M w->Calls prog f args.toArray w λe w'=>e = .returned r.den/\Below w.heap.size w w')
 (hn:gS prog b ops Q N T' G w0 rest ((k,r.sv)::E)):gS prog b ops Q N T' G w0 ((i,o)::rest) E:=by
 refine g_f hst r.sv hr (λC0 Q' hC hQ=>?_) hn;rw [RV.sv_den] at hQ;exact f_call args.toArray r.den hg hd hk hf (λw hw=>hs w (hC w hw)) ho (by rw [evSs_ok hx,ha λx hx=>(hst.var x hx).2.2]) hQ
def SQ.cl(q:SQ):zq:=q.den.cells.toList
def SQ.parts1:SQ->zb
  | .c s=>[.one s]
  | .p ps=>ps
def OkF{α:Type}(k:Nat)(fe:α->SQ)(l:List α):Prop:=∀x∈l,OkP (fe x).parts1/\(fe x).cl.length=k
theorem SQ.cl_parts{q:SQ}(h:OkP q.parts1):q.cl=(catP q.parts1).toList:=by
 cases q with
 | c s=>exact congrArg Array.toList (h _ aM).2.2
 | p ps=>rfl
theorem SQ.ok_parts{q:SQ}(h:OkP q.parts1):q.Ok:=by
 cases q with
 | c s=>exact(h _ aM).1
 | p ps=>exact h
def SQ.cl_one{q:SQ}(h:OkP q.parts1):∀v∈q.cl,v.oneCell'=true:=by rw [SQ.cl_parts h];exact h.one
def Rd{α:Type}(k:Nat)(fe:α->SQ)(A:zt)(c:Nat)(l:List α)(w:yp):Prop :=
  l.length<=c/\c<=9223372036854775807/\(A=none->c=0)/\OkF k fe l/\(0<l.length->∃b o,A=some ⟨b,o,none⟩/\b<w.heap.size/\∀(i:Nat) x,l[i]?=some x->w.rangeAt b (o+k*i) (fe x).cl)
section
variable{α:Type}{k c:Nat}{fe:α->SQ}{A:zt}{l:List α}{w w':yp}
def Rd.keep(h:Rd k fe A c l w)(hs:w.heap.size<=w'.heap.size)(hk:∀b,A.map (·.block)=some b->b<w.heap.size->w'.heap[b]?=w.heap[b]?):Rd k fe A c l w':=by obtain⟨h1,h2,h3,h4,h5⟩:=h;refine⟨h1,h2,h3,h4,λhl=>?_⟩;obtain⟨b,o,e,hb,hr⟩:=h5 hl;subst e;exact⟨b,o,rfl,b9 hb hs,λi x hi j v hj=>(World.cell?_of_block (w:=w) (w':=w') (a:=⟨b,o+k*i+j,none⟩) (hk b rfl hb)).trans (hr i x hi j v hj)⟩
instance:Pst (Rd k fe A c l):=⟨λ_ _ h hb=>h.keep hb.size λb _ hlt=>hb.block b hlt⟩
def Rd.later(h:Rd k fe A c l w)(hb:Below w.heap.size w w'):Rd k fe A c l w':=h.keep hb.size λb _ hlt=>hb.block b hlt
def Rd.nil(k:Nat)(fe:α->SQ)(w:yp):Rd k fe none 0 [] w:=⟨aF _,by decide,λ_=>rfl,λ_ h=>(by cases h),λh=>absurd h (gG _)⟩
def Rd.take(h:Rd k fe A c l w)(n:Nat):Rd k fe A c (l.take n) w:=by
 obtain⟨h1,h2,h3,h4,h5⟩:=h;refine⟨bM (List.length_take_le' _ _) h1,h2,h3,λx hx=>h4 x (List.mem_of_mem_take hx),λhl=>?_⟩;obtain⟨b,o,e,hb,hr⟩:=h5 (by rw [aV] at hl;omega);refine⟨b,o,e,hb,λi x hi=>hr i x ?_⟩;rw [dT] at hi;split at hi
 .exact hi
 .cases hi
end
def ptrAt(A:zt)(n:Nat):yl:=match A with
  | some a=>.pointer (some ⟨a.block,a.off+n,none⟩)
  | none=>.pointer none
structure EL where
  k1:Nat
  k2:Nat
  sz:Nat
  t:yn
  A:zt
  n:Nat
  c:Nat
  i:Int
def elemS(T:yw)(N:Nat)(E:SE)(o1 o2:yk):Option EL:=match o1.dst,o2.dst,o1.op,o2.op with
  | some k1,some k2,.indexAddr t x y,.load t' (.tmp z)=>match bW z k1,aU k1 N,aU k2 N,findT T t with
    | true,true,true,some r=>match r.el with
      | some e=>match findT T e,evS E x,evS E y with
        | some re,some (.q (.c (.v (.slice A n c)))),some (.q (.c (.v (.int _ i))))=>some ⟨k1,k2,sizeP re.zero,t',A,n,c,i⟩
        | _,_,_=>none
      | none=>none
    | _,_,_,_=>none
  | _,_,_,_=>none
def el_of{P:ym}{r:TyR}(h:r.ok P){e:yn}(he:r.el=some e):P.underlying r.t=some (.slice e):=by obtain⟨it,d,h5,h6, -, -, -, -,h7, -⟩:=h.info;rw [he] at h7;cases d<;>first|(cases h7;done)|skip;injection h7 with h7;subst h7;exact h6
theorem run_index{P:ym}{t e:yn}{k:Nat}(ht:P.underlying t=some (.slice e))(he:(P.info? e).map (·.size)=some k)(b o n c:Nat)(K:yj)(i:Nat)(hi:i<n)(w:yp) :
  (pA t (.slice (some ⟨b,o,none⟩) n c) (.int K (i:Int))).run P w = .ok (.pointer (some ⟨b,o+k*i,none⟩)) w:=by
 cases hq:P.info? e with
 | none=>simp [hq] at he
 | some ie =>
  have hs:ie.size=k:=by simpa [hq] using he
  have h1:(i:Int)<(n:Int):=by omega
  have h2:(0:Int)<=(i:Int):=by omega
  simp [pA,asIntOf,run_underlying ht,sizeOf,typeInfo,hq,hs,cQ,cX,hi]
def elemS_ok{P:ym}{T:yw}(hT:OkT P T){N:Nat}{E:SE}{o1 o2:yk}{u:EL}(h:elemS T N E o1 o2=some u) :
  o1.dst=some u.k1/\o2.dst=some u.k2/\aU u.k1 N=true/\aU u.k2 N=true/\o2.op = .load u.t (.tmp u.k1)/\∃t e x y K,o1.op = .indexAddr t x y/\P.underlying t=some (.slice e)/\(P.info? e).map (·.size)=some u.sz/\evS E x=some (.v (.slice u.A u.n u.c))/\evS E y=some (.v (.int K u.i)):=by
 unfold elemS at h
 split at h
 .rename_i k1 k2 t x y t' z e1 e2 e3 e4
  split at h
  .rename_i r e5 e6 e7 hr
   split at h
   .rename_i e he
    split at h
    .rename_i re A n c K i hre hx hy;injection h with h;subst h;obtain⟨h1,rfl⟩:=findT_ok hT hr;have h2:=findT_ok hT hre;clear hre;obtain⟨h2,rfl⟩:=h2;obtain⟨it,d,h5,_,h6, -⟩:=h2.info;have e5:=aO e5;subst e5;exact⟨e1,e2,e6,e7,e4,_,_,x,y,K,e3,el_of h1 he,by rw [h5,bS,h6],hx,hy⟩
    .cases h
   .cases h
  .cases h
 .cases h
section
variable{α:Type}{fe:α->SQ}{l:List α}{P:ym}{T:yw}{b:Base}{ops:zp}{Q:zx}{N:Nat}{E:SE}{L:ze}{R:zd}{F M:zv}{o1 o2:yk}{u:EL}
def elem_run(hT:OkT P T)(h:elemS T N E o1 o2=some u)(j:Nat){x:α}(hj:u.i=(j:Int))(hx:l[j]?=some x)(hn:u.n=l.length)(hl:loadS T (fe x).parts1 u.t 0=some (fe x)) :
  ∀{G:zk} {a:Act} {w:yp},Rd u.sz fe u.A u.c l w->Fr N (denE G E) a->(execOp a.eval o1).run P w = .ok (.value (ptrAt u.A (u.sz*j))) w/\(fe x).Ok /\
   ∀a':Act,a'.eval (.tmp u.k1)=ptrAt u.A (u.sz*j)->(execOp a'.eval o2).run P w = .ok (.value (fe x).den) w:=by
 intro G a w hrd ha
 obtain⟨h1,h2,h3,h4,h5,t,e,y1,y2,K,h6,h7,h8,h9,h10⟩:=elemS_ok hT h;have hlt:=(aP.1 hx).1;obtain⟨_,_,_,hok,hr⟩:=hrd;obtain⟨bk,o,hA,hb,hr⟩:=hr (by omega);obtain⟨hp,hsz⟩:=hok x (aR hx);have e1:=ha.eval (evS_ok h9);have e2:=ha.eval (evS_ok h10)
 have hq:ptrAt u.A (u.sz*j) = .pointer (some ⟨bk,o+u.sz*j,none⟩):=by rw [hA];rfl
 refine⟨?_,SQ.ok_parts hp,λa' ha'=>?_⟩
 .have hi:=run_index (P:=P) h7 h8 bk o u.n u.c K j (by omega) w;rw [<-hA,<-hj] at hi;unfold execOp;simp only [h6,e1,e2,SV.den,SQ.den,SC.den,hi,aG,aI,aC,hq]
 .obtain⟨_,h12⟩:=loadS_at hT hp hl;have h13:=h12 (w:=w) (g:=bk) (base:=o+u.sz*j) (by rw [<-SQ.cl_parts hp];exact hr j x hx);rw [cD] at h13;unfold execOp;simp only [h5,ha',hq,h13,aG,aI,aC]
def ptrAt_ok(A:zt)(n:Nat):(SV.o (ptrAt A n)).Ok:=by cases A<;>exact⟨rfl,rfl⟩
theorem want_any{ops:zp}{N k:Nat}{E:SE}{o:yk}{v:SV}{q:Bool}(h:wantS ops N ((k,.v undef)::E) o=some q):wantS ops N ((k,v)::E) o=some q:=by
 unfold wantS at h ⊢;cases hgd:o.guard with
 | none=>rw [hgd] at h;exact h
 | some jb =>
  obtain⟨j,b⟩:=jb;rw [hgd] at h
  dsimp only at h ⊢
  cases ht:(ops[j]?).bind (·.dst) with
  | none=>rw [ht] at h;cases h
  | some t =>
   rw [ht] at h
   dsimp only at h ⊢
   cases hN:aU t N with
   | false=>rw [hN] at h;cases h
   | true =>
    rw [hN] at h;simp only [lookS] at h ⊢
    cases he:bW k t with
    | true=>rw [he] at h;cases h
    | false=>rw [he] at h;exact h
def l_elem{rest:zo}(hT:OkT P T)(h:elemS T N E o1 o2=some u)(hg:o1.guard=none)(hw:wantS ops N ((u.k1,.v undef)::E) o2=some true)(j:Nat){x:α}(hj:u.i=(j:Int))(hx:l[j]?=some x)(hn:u.n=l.length)(hl:loadS T (fe x).parts1 u.t 0=some (fe x))
 (hrd:∀G S w,View G S L R F M w->Rd u.sz fe u.A u.c l w)(hk:lS P b ops Q N rest ⟨(u.k2,.q (fe x))::(u.k1,.o (ptrAt u.A (u.sz*j)))::E,L,R,F,M⟩):lS P b ops Q N (o1::o2::rest) ⟨E,L,R,F,M⟩:=λa w ⟨G,S,h1,h2,h3⟩=>by
 obtain⟨d1,d2,n1,n2,ho2, -⟩:=elemS_ok hT h;obtain⟨r1,hok,r2⟩:=elem_run hT h j hj hx hn hl (hrd G S w h3.view) h1
 have hw1:aQ o1 (yielded ops a.tmps)=true:=by simp [aQ,hg]
 refine wpl_go hw1 r1 ?_;rw [d1];have f1:Fr N (denE G ((u.k1,.o (ptrAt u.A (u.sz*j)))::E)) (a.put (some u.k1) (ptrAt u.A (u.sz*j))):=h1.put n1 _;refine wpl_go (wantS_ok (E:=(u.k1,.o (ptrAt u.A (u.sz*j)))::E) f1 (want_any hw)) (r2 _ (eval_put_same h1 n1 _)) ?_;rw [d2];exact hk _ w ⟨G,S,f1.put n2 _,(h2.cons (ptrAt_ok _ _)).cons hok,h3⟩
def g_elem{T':zo}{G:zk}{S:zm}{w0:yp}{rest:List (Nat×yk)}{i1 i2:Nat}(hT:OkT P T)(hst:StW b G S L R F M w0)(h:elemS T N E o1 o2=some u)(hg:o1.guard=none)(hw:wantS ops N ((u.k1,.v undef)::E) o2=some true)(j:Nat){x:α}(hj:u.i=(j:Int))(hx:l[j]?=some x)(hn:u.n=l.length)(hl:loadS T (fe x).parts1 u.t 0=some (fe x))
 (hrd:∀G S w,View G S L R F M w->Rd u.sz fe u.A u.c l w)(hk:gS P b ops Q N T' G w0 rest ((u.k2,.q (fe x))::(u.k1,.o (ptrAt u.A (u.sz*j)))::E)):gS P b ops Q N T' G w0 ((i1,o1)::(i2,o2)::rest) E:=λhE=>by
 obtain⟨d1,d2,n1,n2,ho2, -⟩:=elemS_ok hT h;have hv:=λw (hw:Up w0 w)=>hrd G S w (hst.later hw).view
 have hok:(fe x).Ok:=by obtain⟨_,_,_,h4,_⟩:=hv w0 (Up.refl _);exact SQ.ok_parts (h4 x (aR hx)).1
 refine g_op rfl (λa ha=>b_val (v:=ptrAt u.A (u.sz*j)) (by simp [aQ,hg]) (λw hw=>(elem_run hT h j hj hx hn hl (hv w hw.1) ha).1) ?_);rw [d1];have f1:Fr N (denE G ((u.k1,.o (ptrAt u.A (u.sz*j)))::E)) (a.put (some u.k1) (ptrAt u.A (u.sz*j))):=ha.put n1 _;refine g_go (o:=o1) (E:=denE G ((u.k1,.o (ptrAt u.A (u.sz*j)))::E)) (g_op rfl (λa2 ha2=>b_val (v:=(fe x).den) (wantS_ok (E:=(u.k1,.o (ptrAt u.A (u.sz*j)))::E) ha2 (want_any hw)) (λw hw=>?_) ?_)) _ f1
 .have hev:a2.eval (.tmp u.k1)=ptrAt u.A (u.sz*j):=ha2.get u.k1 _ (by rw [denE,look_cons,if_pos rfl];rfl);exact(elem_run hT h j hj hx hn hl (hv w hw.1) ha).2.2 a2 hev
 .rw [d2];exact g_go (o:=o2) (hk ((hE.cons (ptrAt_ok _ _)).cons hok)) _ (ha2.put n2 _)
end
def flatF{α:Type}(fe:α->SQ)(l:List α):zq:=l.flatMap λx=>(fe x).cl
section
variable{α:Type}{k:Nat}{fe:α->SQ}{l m:List α}
def flatF_app:flatF fe (l++m)=flatF fe l++flatF fe m:=List.flatMap_append
theorem flatF_len(h:OkF k fe l):(flatF fe l).length=l.length*k:=by
 induction l with
 | nil=>simp [flatF]
 | cons x l ih =>
  have h1:=ih λy hy=>h y (by simp [hy]);have h2:=(h x (by simp)).2;simp only [flatF,mL,aA,a6] at h1 ⊢;rw [h1,h2,kT]
  omega
def flatF_one(h:OkF k fe l):∀v∈flatF fe l,v.oneCell'=true:=λv hv=>by obtain⟨x,hx,hv⟩:=List.mem_flatMap.1 hv;exact SQ.cl_one (h x hx).1 v hv
theorem flatF_split(h:OkF k fe l){i:Nat}{x:α}(hi:l[i]?=some x):∃A Z,flatF fe l=A++((fe x).cl++Z)/\A.length=k*i/\∀y:α,flatF fe (l.set i y)=A++((fe y).cl++Z):=by
 induction l generalizing i with
 | nil=>simp at hi
 | cons y l ih =>
  cases i with
  | zero =>
   simp only [List.getElem?_cons_zero,a8] at hi;subst hi;exact⟨[],flatF fe l,by simp [flatF],rfl,λz=>by simp [flatF]⟩
  | succ i =>
   obtain⟨A,Z,h1,h2,h3⟩:=ih (λz hz=>h z (by simp [hz])) (by simpa using hi);refine⟨(fe y).cl++A,Z,?_,?_,λz=>?_⟩
   .rw [aT,<-h1];simp [flatF]
   .rw [aA,h2,(h y (by simp)).2,uU];omega
   .rw [aT,<-h3 z];simp [flatF]
def OkF.app(h:OkF k fe l)(h':OkF k fe m):OkF k fe (l++m):=λx hx=>(bK.1 hx).elim (h x) (h' x)
def OkF.set(h:OkF k fe l){i:Nat}{y:α}(hy:OkP (fe y).parts1/\(fe y).cl.length=k):OkF k fe (l.set i y):=λx hx=>(List.mem_or_eq_of_mem_set hx).elim (h x) λe=>e▸hy
end
def OwnS{α:Type}(lo:Nat)(e:yn)(k:Nat)(fe:α->SQ)(A:zt)(c:Nat)(l:List α):Res where
  holds w S:=OkF k fe l/\w.ownsRow lo e k (.slice A l.length c) l.length (flatF fe l)/\∀j,S j↔A.map (·.block)=some j
  keep:=λ{w w' S} ⟨h1,h2,h3⟩ hk=>by
    refine⟨h1,⟨h2.1,?_⟩,h3⟩;rcases h2.2 with h4|⟨g,cap,cur,hv,hb,hg,hr⟩
    . exact .inl h4
    . injection hv with h5 h6 h7
      refine .inr ⟨g,cap,cur,by rw [h5,h7],hb,?_,hr⟩;rw [hk g ((h3 g).2 (by rw [h5];rfl))];exact hg
  lt:=λ{w S} ⟨_,h2,h3⟩ j hj=>by
    have h4:=(h3 j).1 hj;cases A with
    | none=>cases h4
    | some a =>
      have:=(h2.lt a.block rfl).2
      simp only [bS,a8] at h4
      rw [<-h4]
      exact this
section
variable{α:Type}{lo e k c:Nat}{fe:α->SQ}{A:zt}{l:List α}{w:yp}{S:zm}
def OwnS.rd(h:(OwnS lo e k fe A c l).holds w S):Rd k fe A c l w:=by
 obtain⟨h1,h2,h3⟩:=h;rcases h2.2 with⟨h4,h5⟩|⟨g,cap,cur,hv,hb,hg,hn,hm,hs,ht⟩
 .injection h4 with h6 h7 h8;have:=bE h5;subst h6 h8 this;exact Rd.nil _ _ _
 .injection hv with h6 h7 h8
  subst h6 h8;refine⟨hn,by simp only [maxLen] at hm;omega,λh=>(by cases h),h1,λ_=>⟨g,0,rfl,(Array.getElem?_eq_some_iff.1 hg).1,λi x hi j v hj=>?_⟩⟩;obtain⟨B,Z,h9,h10,_⟩:=flatF_split h1 hi;have hB:Blk w g e cur:=hg;rw [hB.cell,aY];have hlt:=(aP.1 hj).1;have h11:(flatF fe l)[k*i+j]?=some v:=by rw [h9,bN (by omega),h10,Nat.add_sub_cancel_left,cW hlt];exact hj
  rw [<-ht,dT] at h11;split at h11
  .simpa using h11
  .cases h11
def OwnS.nil(lo e k:Nat)(fe:α->SQ)(w:yp):(OwnS lo e k fe none 0 []).holds w λ_=>False :=
 ⟨λ_ h=>(by cases h),⟨by simp [flatF],.inl ⟨rfl,rfl⟩⟩,λj=>⟨qY,λh=>(by cases h)⟩⟩
def OwnS.inb(h:(OwnS lo e k fe A c l).holds w S):∀a,A=some a->lo<=a.block/\a.block<w.heap.size:=λa ha=>h.2.1.lt a.block (by rw [ha];rfl)
end
theorem fill_row{k:Nat}:∀(vs:zq) (A Z:zq) (i:Nat),A.length=i*k->Z.length=k*vs.length->(∀v∈vs,v.cells.size=k) ->
  Instr.fill (λi=>some (i*k,k)) (A++Z).toArray ((vs.zipIdx i).map λx=>(x.2,x.1))=some (A++vs.flatMap λv=>v.cells.toList).toArray
 | [],A,Z,i,_,hZ,_=>by obtain rfl:=bE (show Z.length=0 by simpa using hZ);rfl
 | v::vs,A,Z,i,hA,hZ,hl=>by
  rw [a6,uU] at hZ;have hk:=hl v (by simp);have e:Z=Z.take k++Z.drop k:=(b6 k Z).symm;have tk:(Z.take k).length=k:=by rw [aV];omega
  rw [e,List.zipIdx_cons,bA];rw [fill_cells (λi=>some (i*k,k)) i k A (Z.take k) (Z.drop k) v.cells.toList _ v (by rw [hA]) (by rw [bG,hk]) tk (by simp),<-aT];rw [fill_row vs (A++v.cells.toList) (Z.drop k) (i+1) (by rw [aA,show v.cells.toList.length=k from by rw [bG,hk],hA,Nat.succ_mul]) (by rw [cU];omega) (λu hu=>hl u (by simp [hu]))];rw [mL,aT]
def run_lit{P:ym}{t e:yn}{ie:TypeInfo}{z:yl}{k:Nat}(ht:P.underlying t=some (.slice e))(hi:P.info? e=some ie)(hz:ie.zero=some z)(hs:ie.size=k)(vs:zq)(n:Nat)(parts:Array (Nat×yl))(hp:parts.toList=(vs.zipIdx 0).map λx=>(x.2,x.1))(hn:vs.length=n)(h0:0<n*k)(h24:n*k<=16777216)(hl:∀v∈vs,v.cells.size=k)(w:yp) :
  (Instr.buildSlice t n parts).run P w = .ok (.slice (some ⟨w.heap.size,0,none⟩) n n) (w.alloc (.cells (vs.flatMap λv=>v.cells.toList).toArray e)):=by
 subst hs;refine run_buildSlice w t e n parts _ ie z ht hi hz (by omega) (by omega) ?_;rw [hp]
 have hsz:((Array.range (n*ie.size)).map (z.cells[· % z.cells.size]!)).size=n*ie.size:=by simp
 generalize (Array.range (n*ie.size)).map (z.cells[· % z.cells.size]!)=Z at *;have:=fill_row (k:=ie.size) vs [] Z.toList 0 (by simp) (by rw [bG,hsz,hn,cX]) hl
 rwa [cR,cR,eH] at this
def slS(T:yw)(t:yn):Option (yn×Nat×Nat):=match findT T t with
  | some r=>match r.el with
    | some e=>match findT T e with
      | some re=>some (e,sizeP re.zero,re.w)
      | none=>none
    | none=>none
  | none=>none
def slS_ok{P:ym}{T:yw}(hT:OkT P T){t e:yn}{k bs:Nat}(h:slS T t=some (e,k,bs)):P.underlying t=some (.slice e)/\∃ie z,P.info? e=some ie/\ie.zero=some z/\ie.size=k/\ie.bytes=bs/\z.cells.size=k/\∃zs,OkP zs/\z.cells=catP zs/\∃r,findT T e=some r/\r.zero=zs:=by
 unfold slS at h;split at h
 .rename_i r hr
  split at h
  .rename_i e' he
   split at h
   .rename_i re hre
    injection h with h;injection h with e1 h;injection h with e2 e3;subst e1 e2 e3;obtain⟨h1,rfl⟩:=findT_ok hT hr;have hre':=hre;have h2:=findT_ok hT hre;clear hre;obtain⟨h2,rfl⟩:=h2;obtain⟨it,d,h5,_,h6,h7,_,_,_,_,_,h8⟩:=h2.info;cases hz:it.zero with
    | none=>rw [hz] at h7;cases h7
    | some z =>
     rw [hz] at h7;simp only [bS,a8] at h7;exact⟨el_of h1 he,it,z,h5,hz,h6,h8,by rw [h7,h2.2.size],re.zero,h2.2,h7,re,hre',rfl⟩
   .cases h
  .cases h
 .cases h
def OwnS.new{α:Type}{lo e k:Nat}{fe:α->SQ}{l:List α}(w:yp)(hlo:lo<=w.heap.size)(h:OkF k fe l)(hm:l.length<=9223372036854775807):(OwnS lo e k fe (some ⟨w.heap.size,0,none⟩) l.length l).holds (w.alloc (.cells (flatF fe l).toArray e)) λj=>j=w.heap.size :=
 ⟨h,⟨flatF_len h,.inr ⟨w.heap.size,l.length,(flatF fe l).toArray,rfl,hlo,heap_alloc_new w _,aF _,by simp only [maxLen];omega,by simp [flatF_len h],bJ (kA (flatF_len h))⟩⟩,λj=>by simp [eq_comm]⟩
section
variable{α:Type}{fe:α->SQ}{l:List α}{P:ym}{T:yw}{b:Base}{ops:zp}{Q:zx}{N:Nat}{E:SE}{L:ze}{R:zd}{F M:zv}{o o2:yk}{rest:zo}{k e sz bs:Nat}{t:yn}
def oneS(hg:o.guard=none){a:Act}:aQ o (yielded ops a.tmps)=true:=by simp [aQ,hg]
theorem map_parts{G:zk}{a:Act}(ha:Fr N (denE G E) a):∀(l:List (Nat×yo)) (m:List (yl×Nat)),l.map (λp=>(p.1,(evS E p.2).map (SV.den G)))=m.map (λx=>(x.2,some x.1))->l.map (λ(i,x)=>(i,a.eval x))=m.map λx=>(x.2,x.1)
 | [],[],_=>rfl
 | [],_::_,h=>by cases h
 | _::_,[],h=>by cases h
 | p::l,u::m,h=>by
  simp only [bA,fO,cK] at h ⊢;refine⟨⟨h.1.1,?_⟩,map_parts ha l m h.2⟩;cases hx:evS E p.2 with
  | none=>rw [hx] at h;cases h.1.2
  | some v =>
   rw [hx] at h;simp only [bS,a8] at h;exact(ha.eval (evS_ok hx)).trans h.1.2
def l_list{n:Nat}{parts:Array (Nat×yo)}(hT:OkT P T)(lo:Nat)(l:List α)(hg:o.guard=none)(hd:o.dst=some k)(hk:aU k N=true)(ho:o.op = .buildSlice t n parts)(hs:slS T t=some (e,sz,bs))
 (hp:∀G:zk,parts.toList.map (λp=>(p.1,(evS E p.2).map (SV.den G)))=((l.map λx=>(fe x).den).zipIdx 0).map λx=>(x.2,some x.1))(hn:l.length=n)(h0:0<n*sz)(h24:n*sz<=16777216)(hok:OkF sz fe l)(hlo:lo<=b.B.heap.size)
 (hc:∀A,lS P b ops Q N rest ⟨(k,.v (.slice A n n))::E,L,OwnS lo e sz fe A n l::R,F,M⟩):lS P b ops Q N (o::rest) ⟨E,L,R,F,M⟩:=λa w ⟨G,S,h1,h2,h3⟩=>by
 obtain⟨ht,ie,z,hi,hz,hsz,hbs,hzs,_⟩:=slS_ok hT hs
 have hr:=run_lit (P:=P) ht hi hz hsz (l.map λx=>(fe x).den) n (parts.map λ(i,x)=>(i,a.eval x)) (by rw [jD];exact map_parts h1 _ _ (hp G)) (by rw [aX,hn]) h0 h24 (λv hv=>by
  obtain⟨x,hx,rfl⟩:=aZ.1 hv;have:=(hok x hx).2
  rwa [SQ.cl,bG] at this) w
 have e1:((l.map λx=>(fe x).den).flatMap λv=>v.cells.toList)=flatF fe l:=by rw [List.flatMap_map];rfl
 rw [e1] at hr;subst hn
 refine wpl_go (v:=.slice (some ⟨w.heap.size,0,none⟩) l.length l.length) (w':=w.alloc (.cells (flatF fe l).toArray e)) (oneS hg) (by unfold execOp;simp only [ho,aG,hr,aC,aI]) ?_
 rw [hd];have hsz':0<sz:=Nat.pos_of_mul_pos_left h0
 obtain⟨S',h4⟩:=h3.gain ((Below.refl w.heap.size w).alloc (aF _) _) (OwnS.new (lo:=lo) w (bM hlo h3.chg.size) hok (by have:=uP l.length hsz';omega)) (λj hj=>kA hj.symm)
 exact hc _ _ _ ⟨G,S',h1.put hk _,h2.cons trivial,h4⟩
def l_nil0{l':zo}(lo e sz:Nat)(fe:α->SQ)(h:lS P b ops Q N l' ⟨E,L,OwnS lo e sz fe none 0 []::R,F,M⟩):lS P b ops Q N l' ⟨E,L,R,F,M⟩:=λa w ⟨G,S,h1,h2,h3⟩=>by obtain⟨S',h4⟩:=h3.gain (Below.refl _ _) (OwnS.nil lo e sz fe w) (λ_ h=>h.elim);exact h a w ⟨G,S',h1,h2,h4⟩
def s_nil0{c:Code}(lo e sz:Nat)(fe:α->SQ)(h:cS P b c Q N ⟨E,L,OwnS lo e sz fe none 0 []::R,F,M⟩):cS P b c Q N ⟨E,L,R,F,M⟩:=λa w ⟨G,S,h1,h2,h3⟩=>by obtain⟨S',h4⟩:=h3.gain (Below.refl _ _) (OwnS.nil lo e sz fe w) (λ_ h=>h.elim);exact h a w ⟨G,S',h1,h2,h4⟩
end
structure PU where
  k1:Nat
  k2:Nat
  t:yn
  A:zt
  n:Nat
  c:Nat
  q:SQ
def pushS(N:Nat)(E:SE)(o1 o2:yk):Option PU:=match o1.dst,o2.dst,o1.op,o2.op with
  | some k1,some k2,.buildSlice t 1 ⟨[(0,z)]⟩,.call { callee:=.builtin .append,args:=⟨[s,.tmp y]⟩,argTypes:=⟨[t1,t2]⟩ }=>match bW y k1,bW t1 t,bW t2 t,aU k1 N,aU k2 N with
    | true,true,true,true,true=>match evS E z,evS E s,lookS E k1 with
      | some (.q q),some (.q (.c (.v (.slice A n c)))),none=>some ⟨k1,k2,t,A,n,c,q⟩
      | _,_,_=>none
    | _,_,_,_,_=>none
  | _,_,_,_=>none
def pushS_ok{N:Nat}{E:SE}{o1 o2:yk}{u:PU}(h:pushS N E o1 o2=some u):o1.dst=some u.k1/\o2.dst=some u.k2/\aU u.k1 N=true/\aU u.k2 N=true/\lookS E u.k1=none /\
  ∃z s,o1.op = .buildSlice u.t 1 #[(0,z)]/\o2.op = .call { callee:=.builtin .append,args:=#[s,.tmp u.k1],argTypes:=#[u.t,u.t] }/\evS E z=some (.q u.q)/\evS E s=some (.v (.slice u.A u.n u.c)):=by
 unfold pushS at h
 split at h
 .rename_i k1 k2 t z s y t1 t2 e1 e2 e3 e4
  split at h
  .rename_i e5 e6 e7 e8 e9
   split at h
   .rename_i q A n c e10 e11 e12;injection h with h;subst h;obtain rfl:=aO e5;obtain rfl:=aO e6;obtain rfl:=aO e7;exact⟨e1,e2,e8,e9,e12,z,s,e3,e4,e10,e11⟩
   .cases h
  .cases h
 .cases h
def slice_of{w:yp}{lo e k n:Nat}{v:yl}{xs:zq}(h:w.ownsRow lo e k v n xs):∃A c,v = .slice A n c:=by
 rcases h.2 with⟨h1,h2⟩|⟨g,cap,cur,hv,_⟩
 .exact⟨none,0,by rw [h1,h2]⟩
 .exact⟨_,_,hv⟩
def ownBlock_slice(A:zt)(n c:Nat):(Value.slice A n c).ownBlock=A.map (·.block):=by cases A<;>rfl
def OwnS.grow{α:Type}{P:ym}{T:yw}(hT:OkT P T){t e:yn}{lo sz bs c d:Nat}{fe:α->SQ}{A:zt}{l m:List α}{ad:Addr}{w:yp}{S:zm}(ty:yn)(hs:slS T t=some (e,sz,bs))(h0:0<sz)(h:(OwnS lo e sz fe A c l).holds w S)(hok:OkF sz fe m)
 (hcells:∀j u,(flatF fe m)[j]?=some u->w.cell? (ad.add j)=some u)(hb:(l.length+m.length)*bs<=140737488355328)(hm:l.length+m.length<=9223372036854775807-64)(hlo:lo<=w.heap.size) :
  ∃A' c' w' S',(qK #[t,t] ty #[.slice A l.length c,.slice (some ad) m.length d]).run P w = .ok (.slice A' (l++m).length c') w'/\Chg S w w'/\(OwnS lo e sz fe A' c' (l++m)).holds w' S'/\∀k,S' k->k<w.heap.size->S k:=by
 obtain⟨ht,ie,z,hi,hz,hsz,hbs,hzs,_⟩:=slS_ok hT hs;obtain⟨h1,h2,h3⟩:=h;obtain⟨v',w',hr,ho,hg,_,hat⟩:=run_append_own_at (P:=P) w lo t ty e ie z sz bs ht hi hz hsz hbs hzs h0 _ l.length (flatF fe l) h2 ad m.length d (flatF fe m) (flatF_len hok) hcells (flatF_one hok) (by simp only [maxLen];omega) hb hlo;rw [<-flatF_app] at ho;obtain⟨A',c',rfl⟩:=slice_of ho;rw [ownBlock_slice] at hg hat;rw [ownBlock_slice] at hat;rw [<-aA] at hr ho;refine⟨A',c',w',λj=>A'.map (·.block)=some j,hr,(Chg.of_grown hg).mono λi _ hi=>(h3 i).2 hi,⟨h1.app hok,ho,λ_=>iE⟩,λj hj hlt=>?_⟩
 rcases hat with e1|e1
 .exact(h3 j).2 (e1.symm.trans hj)
 .rw [hj] at e1;injection e1 with e1;omega
section
variable{α:Type}{fe:α->SQ}{l:List α}{P:ym}{T:yw}{b:Base}{ops:zp}{Q:zx}{N:Nat}{E:SE}{L:ze}{R:zd}{F M:zv}{o1 o2:yk}{rest:zo}{e sz bs lo:Nat}{u:PU}
def l_push(hT:OkT P T)(i:Nat)(x:α)(h:pushS N E o1 o2=some u)(hg:o1.guard=none)(hg2:o2.guard=none)(hs:slS T u.t=some (e,sz,bs))(hq:fe x=u.q)(hi:R[i]?=some (OwnS lo e sz fe u.A u.c l))(hn:u.n=l.length)(hx:OkP (fe x).parts1/\(fe x).cl.length=sz)(h0:0<sz)(h24:sz<=16777216)
 (hb:(l.length+1)*bs<=140737488355328)(hm:l.length<9223372036854775000)(hlo:lo<=b.B.heap.size)
 (hc:∀A' c',lS P b ops Q N rest ⟨(u.k2,.v (.slice A' (l++[x]).length c'))::E,L,R.set i (OwnS lo e sz fe A' c' (l++[x])),F,M⟩):lS P b ops Q N (o1::o2::rest) ⟨E,L,R,F,M⟩:=λa w ⟨G,S,h1,h2,h3⟩=>by
 obtain⟨d1,d2,n1,n2,hf,z,s,p1,p2,p3,p4⟩:=pushS_ok h;obtain⟨ht,ie,zz,hie,hz,hsz,hbs,hzs,_⟩:=slS_ok hT hs
 have hok:OkF sz fe [x]:=λy hy=>by rw [aD.1 hy];exact hx
 have hfl:flatF fe [x]=(fe x).cl:=by simp [flatF]
 have e1:=h1.eval (evS_ok p3)
 have hr:=run_lit (P:=P) ht hie hz hsz [(fe x).den] 1 #[(0,a.eval z)] (by rw [e1,hq];rfl) rfl (by omega) (by omega) (λv hv=>by
  rw [aD.1 hv];have:=hx.2
  rwa [SQ.cl,bG] at this) w
 have e2:([(fe x).den].flatMap λv=>v.cells.toList)=flatF fe [x]:=by simp [flatF,SQ.cl]
 rw [e2] at hr;have hal:=(Below.refl w.heap.size w).alloc (aF _) (.cells (flatF fe [x]).toArray e)
 refine wpl_go (v:=.slice (some ⟨w.heap.size,0,none⟩) 1 1) (w':=w.alloc (.cells (flatF fe [x]).toArray e)) (oneS hg) (by unfold execOp;simp only [p1,fW,bA,iK,aG,hr,aC,aI]) ?_
 rw [d1];have hnew:=Blk.new w e (flatF fe [x]).toArray;have h4:=h3.later hal;generalize w.alloc (.cells (flatF fe [x]).toArray e)=w1 at *;have f1:=h1.putFar (k:=u.k1) (by rw [look_den,hf];rfl) (.slice (some ⟨w.heap.size,0,none⟩) 1 1);have e3:=f1.eval (evS_ok p4);have e4:(a.put (some u.k1) (.slice (some ⟨w.heap.size,0,none⟩) 1 1)).eval (.tmp u.k1) = .slice (some ⟨w.heap.size,0,none⟩) 1 1:=eval_put_same h1 n1 _;obtain⟨S1,h5,hput⟩:=h4.put hi
 obtain⟨A',c',w',S',hr2,hch,ho,hS'⟩:=OwnS.grow hT (d:=1) (ad:=⟨w.heap.size,0,none⟩) o2.type hs h0 h5 hok (λj v hj=>by rw [cQ,hnew.cell,aY];simpa using hj) hb (by simp;omega) (bM hlo h4.chg.size)
 obtain⟨S'',h6⟩:=hput _ _ _ hch ho hS'
 have hr3:(qK #[u.t,u.t] o2.type #[.slice u.A u.n u.c,.slice (some ⟨w.heap.size,0,none⟩) 1 1]).run P w1 = .ok (.slice A' (l++[x]).length c') w':=by rw [hn];exact hr2
 refine wpl_go (v:=.slice A' (l++[x]).length c') (w':=w') (oneS hg2) (by unfold execOp;simp only [p2,resolve,invoke,builtin,aG,aI,aC,fW,bA,iK,e3,e4,SV.den,SQ.den,SC.den,hr3]) ?_
 rw [d2];exact hc A' c' _ _ ⟨G,S'',f1.put n2 _,h2.cons trivial,h6⟩
end
def rd_own{α:Type}{lo e k c:Nat}{fe:α->SQ}{A:zt}{l:List α}{L:ze}{R:zd}{F M:zv}(i:Nat)(hi:R[i]?=some (OwnS lo e k fe A c l)):∀G S w,View G S L R F M w->Rd k fe A c l w:=λ_ _ _ h=>by obtain⟨S1,_,h1,_⟩:=h.res.at hi;exact OwnS.rd h1
def rd_fact{α:Type}{k c:Nat}{fe:α->SQ}{A:zt}{l:List α}{L:ze}{R:zd}{F M:zv}(h:∀w,F w->M w->Rd k fe A c l w):∀G S w,View G S L R F M w->Rd k fe A c l w:=λ_ _ w hv=>h w hv.fact hv.fresh
section
variable{α:Type}{fe:α->SQ}{b:Base}{G:zk}{S:zm}{L:ze}{R:zd}{F M:zv}{w:yp}{lo e k c:Nat}{A:zt}{l:List α}
def StW.free(h:StW b G S L R F M w){i:Nat}(hi:R[i]?=some (OwnS lo e k fe A c l)):∃S',StW b G S' L (R.eraseIdx i) (λw=>Rd k fe A c l w/\F w) M w:=by
 obtain⟨S1,S2,h1,h2,h3,h4⟩:=h.let hi;refine⟨S2,h4.and λw' hw=>OwnS.rd h1 |>.keep hw.size λg hg hlt=>hw.block g hlt ?_⟩;have hS1:S1 g:=(h1.2.2 g).2 hg;rintro(hx|hx|⟨j,hj,rfl⟩)
 .exact(h.old g hx).2 (h.mine g (.inl ((h3 g).2 (.inl hS1))) (h.old g hx).1)
 .exact h2 g hS1 hx
 .exact h.sep j hj ((h3 _).2 (.inl hS1))
def StW.freeM(h:StW b G S L R F M w){i:Nat}(hi:R[i]?=some (OwnS lo e k fe A c l))(hlo:b.B.heap.size<=lo):∃S',StW b G S' L (R.eraseIdx i) F (λw=>Rd k fe A c l w/\M w) w:=by
 obtain⟨S1,S2,h1,h2,h3,h4⟩:=h.let hi;refine⟨S2,h4.andM λw' hw=>OwnS.rd h1 |>.keep hw.size λg hg hlt=>hw.block g hlt ?_⟩;have hS1:S1 g:=(h1.2.2 g).2 hg;rintro(hx|hx|⟨j,hj,rfl⟩)
 .cases A with
  | none=>cases hg
  | some a =>
   have:=(OwnS.inb h1 a rfl).1;simp only [bS,a8] at hg
   omega
 .exact h2 g hS1 hx
 .exact h.sep j hj ((h3 _).2 (.inl hS1))
end
section
variable{α:Type}{fe:α->SQ}{P:ym}{b:Base}{ops:zp}{Q:zx}{N:Nat}{E:SE}{L:ze}{R:zd}{F M:zv}{lo e k c:Nat}{A:zt}{l:List α}
def l_free{l':zo}(i:Nat)(hi:R[i]?=some (OwnS lo e k fe A c l))(h:lS P b ops Q N l' ⟨E,L,R.eraseIdx i,λw=>Rd k fe A c l w/\F w,M⟩):lS P b ops Q N l' ⟨E,L,R,F,M⟩:=λa w ⟨G,S,h1,h2,h3⟩=>by obtain⟨S',h4⟩:=h3.free hi;exact h a w ⟨G,S',h1,h2,h4⟩
def l_freeM{l':zo}(i:Nat)(hi:R[i]?=some (OwnS lo e k fe A c l))(hlo:b.B.heap.size<=lo)(h:lS P b ops Q N l' ⟨E,L,R.eraseIdx i,F,λw=>Rd k fe A c l w/\M w⟩):lS P b ops Q N l' ⟨E,L,R,F,M⟩:=λa w ⟨G,S,h1,h2,h3⟩=>by obtain⟨S',h4⟩:=h3.freeM hi hlo;exact h a w ⟨G,S',h1,h2,h4⟩
def s_free{x:Code}(i:Nat)(hi:R[i]?=some (OwnS lo e k fe A c l))(h:cS P b x Q N ⟨E,L,R.eraseIdx i,λw=>Rd k fe A c l w/\F w,M⟩):cS P b x Q N ⟨E,L,R,F,M⟩:=λa w ⟨G,S,h1,h2,h3⟩=>by obtain⟨S',h4⟩:=h3.free hi;exact h a w ⟨G,S',h1,h2,h4⟩
end
theorem made_flat{α:Type}{fe:α->SQ}{k:Nat}(z:zr)(x:α)(hz:z.toList=(fe x).cl)(hk:z.size=k)(n:Nat):(madeCells z (n*k)).toList=flatF fe (aB n x):=by
 induction n with
 | zero=>simp [madeCells,flatF]
 | succ n ih =>
  have e1:madeCells z ((n+1)*k)=madeCells z (n*k)++z:=by
   subst hk;apply Array.ext
   .simp [madeCells,kT]
   .intro i h1 h2
    simp only [madeCells,rY,qL] at h1;rw [Array.getElem_append];split
    .simp [madeCells]
    .rename_i h3
     simp only [madeCells,rY,qL] at h3;have hlt:i-n*z.size<z.size:=by rw [kT] at h1;omega
     have e:i%z.size=i-n*z.size:=by rw [show i=(i-n*z.size)+n*z.size by omega,Nat.add_mul_mod_self_right,Nat.add_sub_cancel];exact a7 hlt
     simp only [madeCells,Array.getElem_map,Array.getElem_range,e,rY,qL];rw [getElem!_pos z _ hlt]
  rw [e1,dE,ih,List.replicate_succ',flatF_app]
  simp [flatF,hz]
section
variable{α:Type}{fe:α->SQ}{P:ym}{T:yw}{b:Base}{ops:zp}{Q:zx}{N:Nat}{E:SE}{L:ze}{R:zd}{F M:zv}{o o1 o2:yk}{rest:zo}{k e sz bs lo:Nat}{t:yn}
def l_makeS{x y:yo}{K:yj}(hT:OkT P T)(lo:Nat)(n:Nat)(z:α)(hg:o.guard=none)(hd:o.dst=some k)(hk:aU k N=true)(ho:o.op = .makeSlice t x y)(hs:slS T t=some (e,sz,bs))(hx:evS E x=some (.v (.int K (n:Int))))(hy:evS E y=some (.v (.int K (n:Int))))
 (hz:(findT T e).map (λr=>(catP r.zero).toList)=some (fe z).cl)(hok:OkP (fe z).parts1/\(fe z).cl.length=sz)(hb:bs*n<=281474976710656)(hm:n<=9223372036854775807)(hlo:lo<=b.B.heap.size)
 (hc:∀A,lS P b ops Q N rest ⟨(k,.v (.slice A n n))::E,L,OwnS lo e sz fe A n (aB n z)::R,F,M⟩):lS P b ops Q N (o::rest) ⟨E,L,R,F,M⟩:=λa w ⟨G,S,h1,h2,h3⟩=>by
 obtain⟨ht,ie,zz,hi,hzz,hsz,hbs,hzs,zs,_,hzc,r,hr1,hr2⟩:=slS_ok hT hs
 have hb':(ie.bytes:Int)*(n:Int)<=281474976710656:=by
  rw [hbs];have h:((bs*n:Nat):Int)<=281474976710656:=by omega
  rwa [Int.natCast_mul] at h
 have hr:=run_make (P:=P) w t e ie zz ht hi hzz K K n n (by omega) (Int.le_refl _) hb' (by omega);rw [hr1] at hz;simp only [bS,a8] at hz;have hfl:=made_flat (fe:=fe) zz.cells z (by rw [hzc,<-hr2];exact hz) hzs n
 have e1:madeCells zz.cells (n*ie.size)=(flatF fe (aB n z)).toArray:=by rw [hsz,<-hfl,eH]
 simp only [Int.toNat_natCast] at hr;rw [e1] at hr;have e2:=h1.eval (evS_ok hx);have e3:=h1.eval (evS_ok hy)
 refine wpl_go (v:=.slice (some ⟨w.heap.size,0,none⟩) n n) (w':=w.alloc (.cells (flatF fe (aB n z)).toArray e)) (oneS hg) (by unfold execOp;simp only [ho,e2,e3,SV.den,SQ.den,SC.den,aG,hr,aC,aI]) ?_
 rw [hd];have hnew:=OwnS.new (lo:=lo) (e:=e) (k:=sz) (fe:=fe) (l:=aB n z) w (bM hlo h3.chg.size) (λx hx=>by rw [(List.mem_replicate.1 hx).2];exact hok) (by simpa using hm);rw [List.length_replicate] at hnew;obtain⟨S',h4⟩:=h3.gain ((Below.refl w.heap.size w).alloc (aF _) _) hnew (λj hj=>kA hj.symm);exact hc _ _ _ ⟨G,S',h1.put hk _,h2.cons trivial,h4⟩
structure PL where
  k1:Nat
  t:yn
  A:zt
  n:Nat
  c:Nat
  i:Int
  q:SQ
def placeS(T:yw)(N:Nat)(E:SE)(o1 o2:yk):Option PL:=match o1.dst,o2.dst,o1.op,o2.op with
  | some k1,none,.indexAddr t x y,.store t' (.tmp p) z=>match bW p k1,aU k1 N,slS T t,findT T t' with
    | true,true,some (_,sz,_),some r=>match evS E x,evS E y,evS E z,bW (sizeP r.zero) sz,lookS E k1 with
      | some (.q (.c (.v (.slice A n c)))),some (.q (.c (.v (.int _ i)))),some (.q q),true,none=>some ⟨k1,t,A,n,c,i,q⟩
      | _,_,_,_,_=>none
    | _,_,_,_=>none
  | _,_,_,_=>none
def placeS_ok{P:ym}(hT:OkT P T){u:PL}(h:placeS T N E o1 o2=some u):o1.dst=some u.k1/\o2.dst=none/\aU u.k1 N=true/\lookS E u.k1=none/\∃x y z t' K e sz bs,o1.op = .indexAddr u.t x y/\o2.op = .store t' (.tmp u.k1) z/\slS T u.t=some (e,sz,bs)/\(P.info? t').map (·.size)=some sz /\
  evS E x=some (.v (.slice u.A u.n u.c))/\evS E y=some (.v (.int K u.i))/\evS E z=some (.q u.q):=by
 unfold placeS at h
 split at h
 .rename_i k1 t x y t' p z e1 e2 e3 e4
  split at h
  .rename_i e sz bs r e5 e6 e7 e8
   split at h
   .rename_i A n c K i q e9 e10 e11 e12 e13;injection h with h;subst h;obtain rfl:=aO e5;have h2:=findT_ok hT e8;clear e8;obtain⟨h2,rfl⟩:=h2;obtain⟨it,d,h5,_,h6, -⟩:=h2.info;exact⟨e1,e2,e6,e13,x,y,z,_,K,e,sz,bs,e3,e4,e7,by rw [h5,bS,h6,aO e12],e9,e10,e11⟩
   .cases h
  .cases h
 .cases h
def l_place{u:PL}{l:List α}(hT:OkT P T)(i:Nat)(x:α)(j:Nat)(h:placeS T N E o1 o2=some u)(hg:o1.guard=none)(hg2:o2.guard=none)(hs:slS T u.t=some (e,sz,bs))(hq:fe x=u.q)(hi:R[i]?=some (OwnS lo e sz fe u.A u.c l))(hn:u.n=l.length)(hj:u.i=(j:Int))(hlt:j<l.length)(hx:OkP (fe x).parts1/\(fe x).cl.length=sz)
 (hc:lS P b ops Q N rest ⟨E,L,R.set i (OwnS lo e sz fe u.A u.c (l.set j x)),F,M⟩):lS P b ops Q N (o1::o2::rest) ⟨E,L,R,F,M⟩:=λa w ⟨G,S,h1,h2,h3⟩=>by
 obtain⟨d1,d2,n1,hf,x1,y1,z1,t',K,e',sz',bs',p1,p2,p3,p4,p5,p6,p7⟩:=placeS_ok hT h;rw [hs] at p3
 injection p3 with p3
 injection p3 with q1 p3
 injection p3 with q2 q3
 subst q1 q2 q3;obtain⟨ht,ie,zz,hie,hz,hsz,hbs,hzs,_⟩:=slS_ok hT hs;obtain⟨S1,h5,hput⟩:=h3.put hi;obtain⟨hok,hrow,hS1⟩:=h5
 rcases hrow.2 with⟨h6,h7⟩|⟨g,cap,cur,hv,hb,hg',hnc,hm,hcs,htk⟩
 .omega
 injection hv with v1 _ v2
 have hB:Blk w g e cur:=hg';have e1:=h1.eval (evS_ok p5);have e2:=h1.eval (evS_ok p6);have hr:=run_index (P:=P) ht (by rw [hie,bS,hsz]) g 0 u.n u.c K j (by omega) w;rw [<-v1,<-hj,aY] at hr
 refine wpl_go (v:=.pointer (some ⟨g,sz*j,none⟩)) (w':=w) (oneS hg) (by unfold execOp;simp only [p1,e1,e2,SV.den,SQ.den,SC.den,aG,hr,aC,aI]) ?_
 rw [d1];have f1:=h1.putFar (k:=u.k1) (by rw [look_den,hf];rfl) (.pointer (some ⟨g,sz*j,none⟩));have e3:=f1.eval (evS_ok p7);have e4:(a.put (some u.k1) (.pointer (some ⟨g,sz*j,none⟩))).eval (.tmp u.k1) = .pointer (some ⟨g,sz*j,none⟩):=eval_put_same h1 n1 _;obtain⟨B,Z,h9,h10,h11⟩:=flatF_split hok (aJ hlt)
 have hxl:(fe x).den.cells.size=sz:=by rw [<-bG];exact hx.2
 have hcl:(fe l[j]).cl.length=sz:=(hok _ (iF hlt)).2;have hlen:=flatF_len hok;rw [h9,aA,aA,h10,hcl] at hlen;have hle:l.length*sz<=cap*sz:=Nat.mul_le_mul_right _ hnc;have hst:=run_store_part (P:=P) (t:=t') (v:=(fe x).den) (off:=sz*j) hB (by rw [p4,hxl]) (by rw [hxl,hcs];omega) (SQ.cl_one hx.1);rw [hxl] at hst
 have hcut:cur.toList=B++((fe l[j]).cl++(Z++cur.toList.drop (l.length*sz))):=by have h0:=(b6 (l.length*sz) cur.toList).symm;rw [htk,h9,aT,aT] at h0;exact h0
 have hnew:(cur.toList.take (sz*j)++(fe x).den.cells.toList++cur.toList.drop (sz*j+sz))=B++((fe x).cl++(Z++cur.toList.drop (l.length*sz))):=by generalize cur.toList.drop (l.length*sz)=D at hcut ⊢;rw [hcut,<-h10,qG,aT];congr 2;rw [<-hcl,<-aA,<-aT,List.drop_left]
 rw [hnew] at hst;have hB':=hB.row (B++((fe x).cl++(Z++cur.toList.drop (l.length*sz)))).toArray
 obtain⟨S'',h12⟩:=hput (OwnS lo e sz fe u.A u.c (l.set j x)) (w.setRow g (B++((fe x).cl++(Z++cur.toList.drop (l.length*sz)))).toArray) S1 ((Chg.row w g _).mono λk _ hk=>(hS1 k).2 (by rw [hk,v1];rfl))
  ⟨hok.set hx,by
   refine⟨by rw [flatF_len (hok.set hx),bV],.inr ⟨g,cap,_,by rw [bV,v1,v2],hb,hB',by rw [bV];exact hnc,hm,?_,?_⟩⟩
   .have hD:(cur.toList.drop (l.length*sz)).length=cap*sz-l.length*sz:=by rw [cU,bG,hcs]
    rw [aW,aA,aA,aA,hD,hx.2,h10];omega
   .rw [bV,h11 x]
    have:l.length*sz=(B++((fe x).cl++Z)).length:=by rw [aA,aA,h10,hx.2];omega
    generalize cur.toList.drop (l.length*sz)=D;show List.take (l.length*sz) (B++((fe x).cl++(Z++D)))=_;have e9:B++((fe x).cl++(Z++D))=(B++((fe x).cl++Z))++D:=by simp only [aT]
    rw [this,e9,qG],hS1⟩ (λk hk _=>hk)
 refine wpl_skip (w':=w.setRow g (B++((fe x).cl++(Z++cur.toList.drop (l.length*sz)))).toArray) (oneS hg2) (by unfold execOp;simp only [p2,e3,e4,SV.den,<-hq,aG,hst,aC,aI]) ?_
 rw [d2];exact hc _ _ ⟨G,S'',f1,h2,h12⟩
end
def TY:yw:=[
  { t:=2,kind:=0,zero:=[.one (.v (.int .i64 0))],ik:=some .i64,w:=8 },
  { t:=3,kind:=0,zero:=[.one (.v (.int .i64 0))],ik:=some .i64,w:=8 },
  { t:=4,kind:=0,zero:=[.one (.v (.bool false))],w:=1 },
  { t:=5,kind:=0,zero:=[.one (.v (.int .u8 0))],ik:=some .u8,w:=1 },
  { t:=9,kind:=0,zero:=[.one (.v (.string ⟨#[]⟩))],w:=16 },
  { t:=12,kind:=0,zero:=[.one (.v (.int .u64 0))],ik:=some .u64,w:=8 },
  { t:=13,kind:=2,zero:=[.one (.v (.string ⟨#[]⟩)),.one (.v (.int .u64 0))],w:=24 },
  { t:=21,kind:=0,zero:=[.one (.v (.int .i32 0))],ik:=some .i32,w:=4 },
  { t:=22,kind:=0,zero:=[.one (.v (.slice none 0 0))],el:=some 80,w:=24 },
  { t:=24,kind:=0,zero:=[.one (.v (.slice none 0 0))],el:=some 41,w:=24 },
  { t:=25,kind:=0,zero:=[.one (.v (.slice none 0 0))],el:=some 43,w:=24 },
  { t:=28,kind:=0,zero:=[.one (.v (.map none))],w:=8 },
  { t:=29,kind:=0,zero:=[.one (.v (.pointer none))],pt:=true,w:=8 },
  { t:=30,kind:=2,zero:=[.one (.v (.pointer none)),.one (.v (.int .u8 0))],w:=16 },
  { t:=31,kind:=2,zero:=[.one (.v (.pointer none)),.one (.v (.int .u8 0))],w:=16 },
  { t:=32,kind:=2,zero:=[.one (.v (.int .i64 0)),.one (.v (.map none)),.agg 2 #[.pointer none,.int .u8 0]],w:=32 },
  { t:=33,kind:=2,zero:=[.one (.v (.int .i64 0)),.one (.v (.map none)),.agg 2 #[.pointer none,.int .u8 0]],w:=32 },
  { t:=34,kind:=0,zero:=[.one (.v (.slice none 0 0))],el:=some 73,w:=24 },
  { t:=35,kind:=2,zero:=[.one (.v (.int .i64 0)),.one (.v (.slice none 0 0))],w:=32 },
  { t:=36,kind:=2,zero:=[.one (.v (.int .i64 0)),.one (.v (.slice none 0 0))],w:=32 },
  { t:=37,kind:=0,zero:=[.one (.v (.slice none 0 0))],el:=some 39,w:=24 },
  { t:=38,kind:=0,zero:=[.one (.v (.slice none 0 0))],el:=some 47,w:=24 },
  { t:=39,kind:=0,zero:=[.one (.v (.slice none 0 0))],el:=some 5,w:=24 },
  { t:=41,kind:=0,zero:=[.one (.v (.slice none 0 0))],el:=some 69,w:=24 },
  { t:=43,kind:=0,zero:=[.one (.v (.slice none 0 0))],el:=some 4,w:=24 },
  { t:=45,kind:=0,zero:=[.one (.v (.int .i64 0))],ik:=some .i64,w:=8 },
  { t:=47,kind:=1,zero:=[.agg 32 (By (aB 32 0)).toArray],w:=32 },
  { t:=52,kind:=1,zero:=[.agg 3 (aB 3 (.int .i64 0)).toArray],w:=24 },
  { t:=53,kind:=0,zero:=[.one (.v (.int .u64 0))],ik:=some .u64,w:=8 },
  { t:=54,kind:=0,zero:=[.one (.v (.slice none 0 0))],el:=some 60,w:=24 },
  { t:=59,kind:=2,zero:=[.agg 32 (By (aB 32 0)).toArray,.one (.v (.slice none 0 0)),.one (.v (.slice none 0 0))],w:=80 },
  { t:=60,kind:=2,zero:=[.agg 32 (By (aB 32 0)).toArray,.one (.v (.slice none 0 0)),.one (.v (.slice none 0 0))],w:=80 },
  { t:=66,kind:=0,zero:=[.one (.v (.map none))],w:=8 },
  { t:=67,kind:=1,zero:=[.agg 64 (By (aB 64 0)).toArray],w:=64 },
  { t:=68,kind:=2,zero:=[.agg 32 (By (aB 32 0)).toArray,.one (.v (.int .i64 0)),.agg 32 (By (aB 32 0)).toArray,.agg 64 (By (aB 64 0)).toArray],w:=136 },
  { t:=69,kind:=2,zero:=[.agg 32 (By (aB 32 0)).toArray,.one (.v (.int .i64 0)),.agg 32 (By (aB 32 0)).toArray,.agg 64 (By (aB 64 0)).toArray],w:=136 },
  { t:=72,kind:=2,zero:=[.agg 32 (By (aB 32 0)).toArray,.one (.v (.slice none 0 0))],w:=56 },
  { t:=73,kind:=2,zero:=[.agg 32 (By (aB 32 0)).toArray,.one (.v (.slice none 0 0))],w:=56 },
  { t:=75,kind:=0,zero:=[.one (.v (.slice none 0 0))],el:=some 3,w:=24 },
  { t:=76,kind:=0,zero:=[.one (.v (.map none))],w:=8 },
  { t:=79,kind:=2,zero:=[.one (.v (.int .i64 0)),.one (.v (.int .i64 0)),.one (.v (.int .i64 0)),.one (.v (.bool false)),.one (.v (.bool false))],w:=32 },
  { t:=80,kind:=2,zero:=[.one (.v (.int .i64 0)),.one (.v (.int .i64 0)),.one (.v (.int .i64 0)),.one (.v (.bool false)),.one (.v (.bool false))],w:=32 },
  { t:=85,kind:=0,zero:=[.one (.v (.nilIface))],w:=16 },
  { t:=86,kind:=2,zero:=[.one (.v (.nilIface))],w:=16 },
  { t:=87,kind:=2,zero:=[.one (.v (.nilIface))],w:=16 },
  { t:=93,kind:=0,zero:=[.one (.v (.slice none 0 0))],el:=some 125,w:=24 },
  { t:=96,kind:=0,zero:=[.one (.v (.int .u64 0))],ik:=some .u64,w:=8 },
  { t:=107,kind:=0,zero:=[.one (.v (.pointer none))],pt:=true,w:=8 },
  { t:=108,kind:=2,zero:=[.one (.v (.slice none 0 0)),.one (.v (.int .i64 0)),.one (.v (.int .i64 0))],w:=40 },
  { t:=109,kind:=2,zero:=[.one (.v (.slice none 0 0)),.one (.v (.int .i64 0)),.one (.v (.int .i64 0))],w:=40 },
  { t:=113,kind:=0,zero:=[.one (.v (.pointer none))],pt:=true,w:=8 },
  { t:=124,kind:=2,zero:=[.agg 32 (By (aB 32 0)).toArray,.agg 32 (By (aB 32 0)).toArray],w:=64 },
  { t:=125,kind:=2,zero:=[.agg 32 (By (aB 32 0)).toArray,.agg 32 (By (aB 32 0)).toArray],w:=64 },
  { t:=131,kind:=0,zero:=[.one (.v (.int .u8 0))],ik:=some .u8,w:=1 },
  { t:=135,kind:=0,zero:=[.one (.v (.map none))],w:=8 },
  { t:=154,kind:=0,zero:=[.one (.v (.pointer none))],pt:=true,w:=8 },
  { t:=168,kind:=0,zero:=[.one (.v (.pointer none))],pt:=true,w:=8 },
  { t:=169,kind:=2,zero:=[.one (.v (.slice none 0 0)),.one (.v (.int .i64 0)),.one (.v (.int .i64 0))],w:=40 },
  { t:=170,kind:=0,zero:=[.one (.v (.slice none 0 0))],el:=some 177,w:=24 },
  { t:=171,kind:=2,zero:=[.one (.v (.slice none 0 0))],w:=24 },
  { t:=172,kind:=2,zero:=[.one (.v (.slice none 0 0))],w:=24 },
  { t:=176,kind:=2,zero:=[.one (.v (.int .i64 0)),.agg 32 (By (aB 32 0)).toArray,.agg 32 (By (aB 32 0)).toArray,.one (.v (.int .i64 0)),.one (.v (.int .i64 0))],w:=88 },
  { t:=177,kind:=2,zero:=[.one (.v (.int .i64 0)),.agg 32 (By (aB 32 0)).toArray,.agg 32 (By (aB 32 0)).toArray,.one (.v (.int .i64 0)),.one (.v (.int .i64 0))],w:=88 },
  { t:=186,kind:=1,zero:=[.agg 4 (aB 4 (.int .u64 0)).toArray],w:=32 },
  { t:=187,kind:=2,zero:=[.agg 4 (aB 4 (.int .u64 0)).toArray],w:=32 },
  { t:=188,kind:=2,zero:=[.agg 4 (aB 4 (.int .u64 0)).toArray],w:=32 },
  { t:=196,kind:=1,zero:=[.agg 8 (By (aB 8 0)).toArray],w:=8 },
  { t:=198,kind:=2,zero:=[],w:=0 },
  { t:=199,kind:=2,zero:=[],w:=0 },
  { t:=200,kind:=2,zero:=[.agg 32 (By (aB 32 0)).toArray],w:=32 },
  { t:=201,kind:=2,zero:=[.agg 32 (By (aB 32 0)).toArray],w:=32 },
  { t:=204,kind:=2,zero:=[.agg 32 (By (aB 32 0)).toArray,.agg 32 (By (aB 32 0)).toArray,.agg 32 (By (aB 32 0)).toArray],w:=96 },
  { t:=205,kind:=2,zero:=[.agg 32 (By (aB 32 0)).toArray,.agg 32 (By (aB 32 0)).toArray,.agg 32 (By (aB 32 0)).toArray],w:=96 },
  { t:=210,kind:=1,zero:=[.agg 2 (aB 2 (.nilIface)).toArray],w:=32 },
  { t:=211,kind:=2,zero:=[.agg 32 (By (aB 32 0)).toArray,.agg 2 (aB 2 (.nilIface)).toArray],w:=64 },
  { t:=212,kind:=2,zero:=[.agg 32 (By (aB 32 0)).toArray,.agg 2 (aB 2 (.nilIface)).toArray],w:=64 },
  { t:=213,kind:=0,zero:=[.one (.v (.slice none 0 0))],el:=some 38,w:=24 },
  { t:=216,kind:=0,zero:=[.one (.v (.pointer none))],pt:=true,w:=8 },
  { t:=217,kind:=2,zero:=[.agg 32 (By (aB 32 0)).toArray,.agg 32 (By (aB 32 0)).toArray],w:=64 },
  { t:=218,kind:=2,zero:=[.agg 32 (By (aB 32 0)).toArray,.agg 32 (By (aB 32 0)).toArray],w:=64 },
  { t:=219,kind:=2,zero:=[.one (.v (.slice none 0 0)),.one (.v (.int .i64 0))],w:=32 },
  { t:=220,kind:=2,zero:=[.one (.v (.slice none 0 0)),.one (.v (.int .i64 0))],w:=32 },
  { t:=221,kind:=2,zero:=[.one (.v (.slice none 0 0)),.one (.v (.int .i64 0))],w:=32 },
  { t:=222,kind:=2,zero:=[.one (.v (.slice none 0 0)),.one (.v (.int .i64 0))],w:=32 },
  { t:=224,kind:=2,zero:=[.agg 32 (By (aB 32 0)).toArray,.one (.v (.int .i64 0))],w:=40 },
  { t:=225,kind:=2,zero:=[.agg 32 (By (aB 32 0)).toArray,.one (.v (.int .i64 0))],w:=40 },
  { t:=233,kind:=1,zero:=[.agg 2 (aB 2 (.pointer none)).toArray],w:=16 },
  { t:=234,kind:=2,zero:=[.agg 32 (By (aB 32 0)).toArray,.one (.v (.int .i64 0)),.one (.v (.pointer none)),.agg 2 (aB 2 (.pointer none)).toArray],w:=64 },
  { t:=235,kind:=2,zero:=[.agg 32 (By (aB 32 0)).toArray,.one (.v (.int .i64 0)),.one (.v (.pointer none)),.agg 2 (aB 2 (.pointer none)).toArray],w:=64 },
  { t:=245,kind:=1,zero:=[.agg 5 (aB 5 (.int .u64 0)).toArray],w:=40 },
  { t:=246,kind:=2,zero:=[.agg 5 (aB 5 (.int .u64 0)).toArray],w:=40 },
  { t:=247,kind:=2,zero:=[.agg 5 (aB 5 (.int .u64 0)).toArray],w:=40 },
  { t:=248,kind:=2,zero:=[.agg 5 (aB 5 (.int .u64 0)).toArray,.agg 5 (aB 5 (.int .u64 0)).toArray,.agg 5 (aB 5 (.int .u64 0)).toArray,.agg 5 (aB 5 (.int .u64 0)).toArray],w:=160 },
  { t:=249,kind:=2,zero:=[.agg 5 (aB 5 (.int .u64 0)).toArray,.agg 5 (aB 5 (.int .u64 0)).toArray,.agg 5 (aB 5 (.int .u64 0)).toArray,.agg 5 (aB 5 (.int .u64 0)).toArray],w:=160 },
  { t:=263,kind:=0,zero:=[.one (.v (.int .u32 0))],ik:=some .u32,w:=4 },
  { t:=264,kind:=1,zero:=[.agg 8 (aB 8 (.int .u32 0)).toArray],w:=32 },
  { t:=269,kind:=0,zero:=[.one (.v (.pointer none))],pt:=true,w:=8 },
  { t:=272,kind:=0,zero:=[.one (.v (.slice none 0 0))],el:=some 53,w:=24 },
  { t:=273,kind:=0,zero:=[.one (.v (.slice none 0 0))],el:=some 96,w:=24 },
  { t:=278,kind:=0,zero:=[.one (.v (.slice none 0 0))],el:=some 216,w:=24 },
  { t:=284,kind:=1,zero:=[.agg 8 (aB 8 (.int .u64 0)).toArray],w:=64 },
  { t:=285,kind:=1,zero:=[.agg 128 (By (aB 128 0)).toArray],w:=128 },
  { t:=292,kind:=2,zero:=[.agg 5 (aB 5 (.int .u64 0)).toArray,.agg 5 (aB 5 (.int .u64 0)).toArray,.agg 5 (aB 5 (.int .u64 0)).toArray,.agg 5 (aB 5 (.int .u64 0)).toArray],w:=160 },
  { t:=293,kind:=2,zero:=[.agg 5 (aB 5 (.int .u64 0)).toArray,.agg 5 (aB 5 (.int .u64 0)).toArray,.agg 5 (aB 5 (.int .u64 0)).toArray,.agg 5 (aB 5 (.int .u64 0)).toArray],w:=160 },
  { t:=294,kind:=1,zero:=[.agg 160 (aB 160 (.int .u64 0)).toArray],w:=1280 },
  { t:=295,kind:=1,zero:=[.agg 256 (By (aB 256 0)).toArray],w:=256 },
  { t:=296,kind:=2,zero:=[.agg 160 (aB 160 (.int .u64 0)).toArray,.agg 256 (By (aB 256 0)).toArray],w:=1536 },
  { t:=297,kind:=2,zero:=[.agg 160 (aB 160 (.int .u64 0)).toArray,.agg 256 (By (aB 256 0)).toArray],w:=1536 },
  { t:=305,kind:=0,zero:=[.one (.v (.int .i64 0))],ik:=some .i64,w:=8 },
  { t:=314,kind:=1,zero:=[.agg 64 (aB 64 (.int .u32 0)).toArray],w:=256 },
  { t:=317,kind:=1,zero:=[.agg 80 (aB 80 (.int .u64 0)).toArray],w:=640 },
  { t:=319,kind:=1,zero:=[.agg 1 (By (aB 1 0)).toArray],w:=1 },
  { t:=330,kind:=0,zero:=[.one (.v (.slice none 0 0))],el:=some 297,w:=24 },
  { t:=335,kind:=2,zero:=[.one (.v (.int .u64 0)),.one (.v (.int .u64 0))],w:=16 },
  { t:=336,kind:=2,zero:=[.one (.v (.int .u64 0)),.one (.v (.int .u64 0))],w:=16 },
  { t:=339,kind:=0,zero:=[.one (.v (.int .u64 0))],ik:=some .u64,w:=8 },
  { t:=342,kind:=0,zero:=[.one (.v (.pointer none))],pt:=true,w:=8 },
  { t:=349,kind:=0,zero:=[.one (.v (.pointer none))],pt:=true,w:=8 },
  { t:=364,kind:=0,zero:=[.one (.v (.pointer none))],pt:=true,w:=8 }]
def zY:OkT prog TY:=okT_of (by kernel_rfl) (by kernel_rfl)
def keepE:zj->SE->SE
  | [],_=>[]
  | k::ks,E=>match lookS E k with
    | some v=>(k,v)::keepE ks E
    | none=>keepE ks E
theorem keepE_sub:∀(ks:zj) (E:SE),SubS (keepE ks E) E
 | [],_=>trivial
 | k::ks,E=>by
  unfold keepE;split
  .rename_i v h;exact⟨h,keepE_sub ks E⟩
  .exact keepE_sub ks E
def memB(j:Nat):zj->Bool
  | []=>false
  | k::ks=>match bW k j with
    | true=>true
    | false=>memB j ks
def keepL(js:zj):ze->ze
  | []=>[]
  | x::L=>match memB x.j js with
    | true=>x::keepL js L
    | false=>keepL js L
theorem keepL_mem{js:zj}:∀{L:ze} {x:LV},x∈keepL js L->x∈L
 | [],_,h=>by cases h
 | y::L,x,h=>by
  unfold keepL at h;split at h
  .rcases aH.1 h with rfl|h
   .exact aM
   .exact aK _ (keepL_mem h)
  .exact aK _ (keepL_mem h)
theorem keepL_names{js:zj}:∀{L:ze},(namesL (keepL js L)).Sublist (namesL L)
 | []=>List.Sublist.slnil
 | y::L=>by
  unfold keepL;split
  .exact(keepL_names (L:=L)).cons_cons _
  .exact(keepL_names (L:=L)).cons _
section
variable{b:Base}{N:Nat}{E:SE}{L:ze}{R:zd}{F M:zv}{a:Act}{w:yp}
def StW.keep{G:zk}{S:zm}(h:StW b G S L R F M w)(js:zj):StW b G S (keepL js L) R F M w:=by have hn:∀j,j∈namesL (keepL js L)->j∈namesL L:=λj hj=>keepL_names.subset hj;have hM:∀k,Mine S G (keepL js L) k->Mine S G L k:=λk hk=>hk.imp id λ⟨j,hj,e⟩=>⟨j,hn j hj,e⟩;exact⟨λx hx=>h.var x (keepL_mem hx),h.apart.sublist keepL_names,h.res,λj hj=>h.sep j (hn j hj),h.fact.less λk _ hk=>hk.imp id (hM k),h.fresh.less λk _ hk=>hk.imp id (hM k),h.chg,λk hk=>h.mine k (hM k hk),h.old⟩
def St.keep(h:St b N ⟨E,L,R,F,M⟩ a w)(ks js:zj):St b N ⟨keepE ks E,keepL js L,R,F,M⟩ a w:=by obtain⟨G,S,h1,h2,h3⟩:=h;exact⟨G,S,h1.sub (denE_sub (keepE_sub ks E)),(keepE_sub ks E).ok h2,h3.keep js⟩
end
section
variable{P:ym}{b:Base}{T:yw}{Q:zx}{N:Nat}{E E' E2:SE}{L L' L2:ze}{R:zd}{F M:zv}
def s_keep{c:Code}(ks js:zj)(h1:keepE ks E=E')(h2:keepL js L=L')(h:cS P b c Q N ⟨E',L',R,F,M⟩):cS P b c Q N ⟨E,L,R,F,M⟩:=λa w hs=>by subst h1 h2;exact h a w (hs.keep ks js)
def s_auto{id:Nat}{l:zo}{y:Code}(hT:OkT P T)(h:autoS T l.toArray N l E L=([],E',L'))(hn:cS P b y Q N ⟨E',L',R,F,M⟩):cS P b (.seq (.region id l.toArray false) y) Q N ⟨E,L,R,F,M⟩ :=
 s_reg λ_ hK=>l_autoS hT h (zJ (hK _ hn))
def s_autoE{id:Nat}{l:zo}(hT:OkT P T)(h:autoS T l.toArray N l E L=([],E',L'))(hn:kS b (Q .normal) N ⟨E',L',R,F,M⟩):cS P b (.region id l.toArray false) Q N ⟨E,L,R,F,M⟩ :=
 s_lit (l_autoS hT h (zJ hn))
def s_pure{c:Code}(φ:Prop)(h:∀w,F w->M w->φ)(hn:φ->cS P b c Q N ⟨E,L,R,F,M⟩):cS P b c Q N ⟨E,L,R,F,M⟩:=λa w hs=>by have hs':=hs;obtain⟨G,S,h1,h2,h3⟩:=hs;exact hn (h w h3.all.now.1 h3.all.now.2) a w hs'
def l_pure{ops:zp}{l:zo}(φ:Prop)(h:∀w,F w->M w->φ)(hn:φ->lS P b ops Q N l ⟨E,L,R,F,M⟩):lS P b ops Q N l ⟨E,L,R,F,M⟩:=λa w hs=>by have hs':=hs;obtain⟨G,S,h1,h2,h3⟩:=hs;exact hn (h w h3.all.now.1 h3.all.now.2) a w hs'
def s_regA{id:Nat}{l l':zo}{y:Code}(hT:OkT P T)(h:autoS T l.toArray N l E L=(l',E',L'))(hn:∀K:zw,(∀e',cS P b y Q N e'->kS b K N e')->lS P b l.toArray (Exit.then K Q) N l' ⟨E',L',R,F,M⟩):cS P b (.seq (.region id l.toArray false) y) Q N ⟨E,L,R,F,M⟩ :=
 s_reg λK hK=>l_autoS hT h (hn K hK)
end
def ObjF(g:Nat)(t:yn)(ps:zb)(w:yp):Prop:=Blk w g t (catP ps)/\OkP ps
instance{g:Nat}{t:yn}{ps:zb}:Pst (ObjF g t ps):=⟨λ_ _ h hb=>⟨h.1.later hb,h.2⟩⟩
def ObjS(g:Nat)(t:yn)(ps:zb):Res where
  holds w S:=ObjF g t ps w/\∀j,S j↔j=g
  keep:=λ⟨h1,h2⟩ hk=>⟨⟨(hk g ((h2 g).2 rfl)).trans h1.1,h1.2⟩,h2⟩
  lt:=λ⟨h1,h2⟩ j hj=>by rw [(h2 j).1 hj];exact h1.1.lt
section
variable{P:ym}{b:Base}{T:yw}{ops:zp}{Q:zx}{N:Nat}{E:SE}{L:ze}{R:zd}{F M:zv}{o:yk}{k g off:Nat}{t:yn}{x:yo}{ty:yn}{ps:zb}{q:SQ}
def load_obj(hT:OkT P T)(ho:o.op = .load t x)(hx:evS E x=some (.v (.pointer (some ⟨g,off,none⟩))))(hl:loadS T ps t off=some q){G:zk}{a:Act}{w:yp}(ha:Fr N (denE G E) a)(h:ObjF g ty ps w):q.Ok/\(execOp a.eval o).run P w = .ok (.value q.den) w:=by obtain⟨h1,h2⟩:=loadS_ok hT h.2 hl;refine⟨h1,?_⟩;have e:=ha.eval (evS_ok hx);unfold execOp;simp only [ho,e,SV.den,SQ.den,SC.den,h2 h.1,aG,aI,aC]
def l_ldO{rest:zo}(hT:OkT P T)(hg:o.guard=none)(hd:o.dst=some k)(hk:aU k N=true)(ho:o.op = .load t x)(hx:evS E x=some (.v (.pointer (some ⟨g,off,none⟩))))(hl:loadS T ps t off=some q)(h:∀G S w,View G S L R F M w->ObjF g ty ps w)
 (hn:lS P b ops Q N rest ⟨(k,.q q)::E,L,R,F,M⟩):lS P b ops Q N (o::rest) ⟨E,L,R,F,M⟩:=λa w ⟨G,S,h1,h2,h3⟩=>by
 obtain⟨h4,h5⟩:=load_obj hT ho hx hl h1 (h G S w h3.view);refine wpl_go (oneS hg) h5 ?_;rw [hd];exact hn _ w ⟨G,S,h1.put hk _,h2.cons h4,h3⟩
def g_ldO{T':zo}{G:zk}{S:zm}{w0:yp}{rest:List (Nat×yk)}{i:Nat}(hT:OkT P T)(hst:StW b G S L R F M w0)(hg:o.guard=none)(hd:o.dst=some k)(hk:aU k N=true)(ho:o.op = .load t x)(hx:evS E x=some (.v (.pointer (some ⟨g,off,none⟩))))(hl:loadS T ps t off=some q)(h:∀G S w,View G S L R F M w->ObjF g ty ps w)
 (hn:gS P b ops Q N T' G w0 rest ((k,.q q)::E)):gS P b ops Q N T' G w0 ((i,o)::rest) E:=λhE =>
 g_op rfl (λa ha=>b_val (v:=q.den) (by simp [aQ,hg]) (λw hw=>(load_obj hT ho hx hl ha (h G S w (hst.later hw.1).view)).2) (by rw [hd];exact g_go (o:=o) (hn (hE.cons (loadS_ok hT (h G S w0 hst.view).2 hl).1)) _ (ha.put hk _)))
end
def obj_own{g:Nat}{t:yn}{ps:zb}{L:ze}{R:zd}{F M:zv}(i:Nat)(hi:R[i]?=some (ObjS g t ps)):∀G S w,View G S L R F M w->ObjF g t ps w:=λ_ _ _ h=>by obtain⟨S1,_,h1,_⟩:=h.res.at hi;exact h1.1
def obj_fact{g:Nat}{t:yn}{ps:zb}{L:ze}{R:zd}{F M:zv}(h:∀w,F w->M w->ObjF g t ps w):∀G S w,View G S L R F M w->ObjF g t ps w:=λ_ _ w hv=>h w hv.fact hv.fresh
def eB(x:UInt8):SQ:=.c (.v (.int .u8 (x.toNat:Int)))
def eI(i:Int):SQ:=.c (.v (.int .i64 i))
def eT(t:Bool):SQ:=.c (.b t)
def eY(n:Nat)(l:zu):SQ:=.p [.agg n (By l).toArray]
def eB_ok(x:UInt8):OkP (eB x).parts1/\(eB x).cl.length=1:=⟨λp hp=>by rw [aD.1 hp];exact⟨trivial,rfl,rfl⟩,rfl⟩
def eT_ok(t:Bool):OkP (eT t).parts1/\(eT t).cl.length=1:=⟨λp hp=>by rw [aD.1 hp];exact⟨trivial,rfl,rfl⟩,rfl⟩
def eY_ok{n:Nat}{l:zu}(h:l.length=n):OkP (eY n l).parts1/\(eY n l).cl.length=n:=by
 have h1:(By l).toArray.size=n:=by rw [aW,By_len,h]
 exact⟨λp hp=>by rw [aD.1 hp];exact⟨h1,By_one l⟩,by rw [SQ.cl,bG];exact h1⟩
def okF_B(l:zu):OkF 1 eB l:=λx _=>eB_ok x
def okF_Y{n:Nat}{ls:zy}(h:∀l∈ls,l.length=n):OkF n (eY n) ls:=λl hl=>eY_ok (h l hl)
theorem flat_B:∀l:zu,flatF eB l=By l
 | []=>rfl
 | x::l=>by have:=flat_B l;simp only [flatF,mL] at this ⊢;rw [this];rfl
def Rd.sb{A:zt}{c:Nat}{l:zu}{w:yp}(h:Rd 1 eB A c l w):SB w (.slice A l.length c) l:=by obtain⟨h1,h2,h3,_,h5⟩:=h;refine⟨A,c,rfl,h1,h2,h3,λhl=>?_⟩;obtain⟨b,o,e,hb,hr⟩:=h5 hl;refine⟨⟨b,o,none⟩,e,aL _,hb,λj x hx=>?_⟩;have:=hr j x hx 0 (.int .u8 (x.toNat:Int)) rfl;rw [cQ];simpa using this
theorem Rd.of_sb{A:zt}{c n:Nat}{l:zu}{w:yp}(h:SB w (.slice A n c) l):n=l.length/\Rd 1 eB A c l w:=by
 obtain⟨A',c',e,h1,h2,h3,h4⟩:=h;injection e with e1 e2 e3;subst e1 e2 e3;refine⟨rfl,h1,h2,h3,okF_B l,λhl=>?_⟩;obtain⟨ad,e,_,h6,h7⟩:=h4 hl;obtain⟨b,o,sp⟩:=ad;have hsp:sp=none:=by
  have h8:=h7 0 l[0] (aJ hl);cases sp with
  | none=>rfl
  | some s =>
   unfold World.cell? Addr.add at h8
   simp only [if_true] at h8
   split at h8
   .simp at h8
   .cases h8
 subst hsp;refine⟨b,o,e,h6,λi x hi j v hj=>?_⟩;have h8:=h7 i x hi;rw [cQ] at h8;cases j with
 | zero =>
  have e:v = .int .u8 (x.toNat:Int):=by have:(eB x).cl[0]?=some (.int .u8 (x.toNat:Int)):=rfl;rw [this] at hj;exact(bQ hj).symm
  rw [e,fH,cD];exact h8
 | succ j =>
  have:(eB x).cl[j+1]?=none:=rfl;rw [this] at hj
  cases hj
def wrapI{m r:Int}(h:m=r)(h1 : -9223372036854775808<=r)(h2:r<=9223372036854775807):IntKind.i64.wrap m=r:=by rw [h,i64_left,wrap64_in _ ⟨h1,by omega⟩]
def wrapQ(n d:Nat)(h:n<=9223372036854775807):IntKind.i64.wrap ((n:Int).tdiv (d:Int))=((n/d:Nat):Int):=by
 have h1:(n:Int).tdiv (d:Int)=((n/d:Nat):Int):=by rw [Int.tdiv_eq_ediv_of_nonneg (by omega)];rfl
 have h2:n/d<=n:=gM _ _;rw [h1];generalize n/d=q at *;exact wrapI rfl (by omega) (by omega)
def one_ok{v:SQ}(h:v.Ok):∀u∈[v],u.Ok:=λu hu=>by rw [aD.1 hu];exact h
def two_ok{v v2:SQ}(h:v.Ok)(h2:v2.Ok):∀u∈[v,v2],u.Ok:=λu hu=>by
 rcases aH.1 hu with rfl|hu
 .exact h
 .exact one_ok h2 u hu
def more_ok{v:SQ}{vs:yq}(h:v.Ok)(h2:∀u∈vs,u.Ok):∀u∈v::vs,u.Ok:=λu hu=>by
 rcases aH.1 hu with rfl|hu
 .exact h
 .exact h2 u hu
instance{p q:zv}[hp:Pst p][hq:Pst q]:Pst (λw=>p w/\q w):=⟨λ_ _ h hb=>⟨hp.later _ _ h.1 hb,hq.later _ _ h.2 hb⟩⟩
instance{α:Type}{p:α->zv}{l:List α}[hp:∀a,Pst (p a)]:Pst (λw=>∀a∈l,p a w):=⟨λ_ _ h hb a ha=>(hp a).later _ _ (h a ha) hb⟩
def g_callS{b:Base}{ops:zp}{Q:zx}{N:Nat}{T':zo}{G:zk}{S:zm}{L:ze}{R:zd}{F M F':zv}{w0:yp}{E:SE}{o:yk}{rest:List (Nat×yk)}{i k:Nat}{f:yi}{xs:zg}{ats:zf}{svs:yu}{r:RV}[Pst F']
 (hst:StW b G S L R F M w0)(args:zq)(hg:o.guard=none)(hd:o.dst=some k)(hk:aU k N=true)(hf:Own f)(ho:o.op = .call { callee:=.value (.func f),args:=xs,argTypes:=ats })(hx:evSs E xs.toList=some svs)
 (ha:(∀x∈L,∀g,x.g=some g->G x.j=g)->svs.map (SV.den G)=args)(hs:Spec f args [] F' (one r))(hr:r.sv.Ok)(hF:∀G S w,View G S L R F M w->F' w)
 (hn:gS prog b ops Q N T' G w0 rest ((k,r.sv)::E)):gS prog b ops Q N T' G w0 ((i,o)::rest) E :=
 g_call1 hst args hg hd hk hf ho hx ha hr (λw hv=>(hs w (λ_=>False) (λ_=>False) (λ_ h=>h) (λ_ h=>h.elim) (Stb.of_pst (hF _ _ _ hv) λ_ _ h=>h.elim id id)).mono λ_ _ ⟨_,_,h1,_,h2,_⟩=>⟨h1,h2.up λ_ _ h=>h⟩) hn
def l_call0{b:Base}{ops:zp}{Q:zx}{N:Nat}{E:SE}{L:ze}{R:zd}{F M F':zv}{o:yk}{rest:zo}{k:Nat}{α:Type}{post:Post α}{f:yi}{xs:zg}{ats:zf}{svs:yu}
 (args:zq)(hg:o.guard=none)(hd:o.dst=some k)(hk:aU k N=true)(hf:Own f)(ho:o.op = .call { callee:=.value (.func f),args:=xs,argTypes:=ats })(hx:evSs E xs.toList=some svs)
 (ha:∀G:zk,(∀x∈L,∀g,x.g=some g->G x.j=g)->svs.map (SV.den G)=args)(hs:Spec f args [] F' post)(hF:∀w,F w->M w->F' w)
 (hn:∀x,lS prog b ops Q N rest ⟨(k,(post.ret x).sv)::E,L,post.own x++R,λw=>post.p x w/\F w,λw=>post.n x w/\M w⟩):lS prog b ops Q N (o::rest) ⟨E,L,R,F,M⟩ :=
 l_callA (own:=[]) (R':=R) args hg hd hk hf ho hx ha hs hF hn
def l_as{P:ym}{b:Base}{ops:zp}{Q:zx}{N:Nat}{E:SE}{L:ze}{R:zd}{F M:zv}{l:zo}(k:Nat){v:SV}(v':SV)(h:lookS E k=some v)(he:∀G,v.den G=v'.den G)(ho:v'.Ok)(hn:lS P b ops Q N l ⟨(k,v')::E,L,R,F,M⟩):lS P b ops Q N l ⟨E,L,R,F,M⟩:=λa w ⟨G,S,h1,h2,h3⟩ =>
 hn a w ⟨G,S,h1.more (h1.get k _ (by rw [look_den,h];exact congrArg some (he G))),h2.cons ho,h3⟩
def l_R{P:ym}{b:Base}{ops:zp}{Q:zx}{N:Nat}{E:SE}{L:ze}{R:zd}{F M:zv}{l:zo}(R2:zd)(h:R=R2)(hn:lS P b ops Q N l ⟨E,L,R2,F,M⟩):lS P b ops Q N l ⟨E,L,R,F,M⟩:=h▸hn
def k_drop{b:Base}{K:zw}{N:Nat}{E:SE}{L:ze}{R:zd}{F M:zv}(i:Nat){r:Res}(hi:R[i]?=some r)(h:kS b K N ⟨E,L,R.eraseIdx i,F,M⟩):kS b K N ⟨E,L,R,F,M⟩:=λa w ⟨G,S,h1,h2,h3⟩=>by obtain⟨S1,S2,_,_,_,h4⟩:=h3.let hi;exact h a w ⟨G,S2,h1,h2,h4⟩
structure Seg where
  A:zt
  c:Nat
  l:zu
abbrev yr:=List Seg
def eSeg(s:Seg):SQ:=.c (.v (.slice s.A s.l.length s.c))
def eSeg_ok(s:Seg):OkP (eSeg s).parts1/\(eSeg s).cl.length=1:=⟨λp hp=>by rw [aD.1 hp];exact⟨trivial,rfl,rfl⟩,rfl⟩
def okF_seg(l:yr):OkF 1 eSeg l:=λs _=>eSeg_ok s
def Seg.rd(s:Seg)(w:yp):Prop:=Rd 1 eB s.A s.c s.l w
instance{s:Seg}:Pst s.rd:=⟨λ_ _ h hb=>h.later hb⟩
def Rd.sl{A:zt}{c:Nat}{l:zu}{w:yp}(h:Rd 1 eB A c l w):SL w 0 w.heap.size A l c:=by obtain⟨A',c',e,h1⟩:=h.sb;injection e with e1 _ e2;subst e1 e2;exact h1
theorem parts_of{A:zt}{c:Nat}{ss:yr}{w:yp}(h:Rd 1 eSeg A c ss w)(h2:∀s∈ss,s.rd w):Parts w w.heap.size A (ss.map Seg.l):=λhl=>by
 obtain⟨b,o,e,hb,hr⟩:=h.2.2.2.2 (by simpa using hl);refine⟨⟨b,o,none⟩,e,hb,λi l hi=>?_⟩;rw [List.getElem?_map] at hi;cases hs:ss[i]? with
 | none=>rw [hs] at hi;cases hi
 | some s =>
  rw [hs] at hi;simp only [bS,a8] at hi;subst hi;refine⟨s.A,s.c,?_,(h2 s (aR hs)).sl⟩;have:=hr i s hs 0 (.slice s.A s.l.length s.c) rfl;rw [cQ]
  simpa using this
end Go.Proofs.Q
namespace Go.Proofs.Q
abbrev ptr(g:Nat):yl:=.pointer (some ⟨g,0,none⟩)
end Go.Proofs.Q
namespace Go.Proofs.Q
open Go.RowKit Go.IntWalk
def eY_len{n:Nat}{l:zu}(h:OkP (eY n l).parts1):l.length=n:=by
 have h1:=(h (.agg n (By l).toArray) (by simp [eY,SQ.parts1])).1
 rwa [aW,By_len] at h1
abbrev Rds:=zu×Nat
def tkO(k:Nat)(s:Rds):zu:=(tk s.1 s.2 k).1
def tkS(k:Nat)(s:Rds):Rds:=(tk s.1 s.2 k).2
def nuO(s:Rds):Nat:=val (tkO 8 s)
def nuS(s:Rds):Rds:=tkS 8 s
def moO(m:Nat)(s:Rds):Nat:=if m<nuO s then 0 else nuO s
def moS(m:Nat)(s:Rds):Rds:=if m<nuO s then((nuS s).1,12) else nuS s
def byO(s:Rds):zu:=tkO (moO 1048576 s) (moS 1048576 s)
def byS(s:Rds):Rds:=tkS (moO 1048576 s) (moS 1048576 s)
def pad64(x:zu):zu:=x++aB (64-x.length) 0
def sgO(s:Rds):zu:=pad64 (tkO 64 s)
def sigS(s:Rds):Rds:=tkS 64 s
def endE(s:Rds):Nat:=don s.1 s.2
section
variable{k:Nat}{s:Rds}
def tk_stick(h:s.2≠0):tkO k s=[]/\tkS k s=s:=by unfold tkO tkS;rw [tk_fail h];exact⟨rfl,rfl⟩
def tk_less(h:s.2=0)(hk:s.1.length<k):tkO k s=[]/\tkS k s=(s.1,10):=by unfold tkO tkS;rw [h,tk_short hk];exact⟨rfl,rfl⟩
def tk_take(h:s.2=0)(hk:k<=s.1.length):tkO k s=s.1.take k/\tkS k s=(s.1.drop k,0):=by unfold tkO tkS;rw [h,tk_ok hk];exact⟨rfl,rfl⟩
def tk_all(k:Nat)(s:Rds):(tkO k s=[]/\tkS k s=s/\s.2≠0)\/(tkO k s=[]/\tkS k s=(s.1,10)/\s.2=0/\s.1.length<k)\/(tkO k s=s.1.take k/\tkS k s=(s.1.drop k,0)/\s.2=0/\k<=s.1.length):=by
 by_cases h:s.2=0
 .by_cases hk:s.1.length<k
  .exact .inr (.inl ⟨(tk_less h hk).1,(tk_less h hk).2,h,hk⟩)
  .exact .inr (.inr ⟨(tk_take h (by omega)).1,(tk_take h (by omega)).2,h,by omega⟩)
 .exact .inl ⟨(tk_stick h).1,(tk_stick h).2,h⟩
def tk_yes(h:(tkS k s).2=0):s.2=0/\(tkO k s).length=k/\s.1=tkO k s++(tkS k s).1:=by
 rcases tk_all k s with⟨h1,h2,h3⟩|⟨h1,h2,h3,h4⟩|⟨h1,h2,h3,h4⟩
 .rw [h2] at h;exact absurd h h3
 .rw [h2] at h;cases h
 .rw [h1,h2];exact⟨h3,by rw [aV];omega,(b6 k s.1).symm⟩
def tkO_le(k:Nat)(s:Rds):(tkO k s).length<=k/\(tkO k s).length<=s.1.length:=by rcases tk_all k s with⟨h1,_⟩|⟨h1,_⟩|⟨h1,_⟩<;>rw [h1]<;>simp;omega
def nuO_lt(s:Rds):nuO s<18446744073709551616:=val_lt _
theorem be8_val{l:zu}(h:l.length=8):be8 (val l)=l:=by
 match l,h with
 | [a,b,c,d,e,f,g,i],_ =>
  have ha:=a.toNat_lt;have hb:=b.toNat_lt;have hc:=c.toNat_lt;have hd:=d.toNat_lt;have he:=e.toNat_lt;have hf:=f.toNat_lt;have hg:=g.toNat_lt;have hi:=i.toNat_lt
  have hv:val [a,b,c,d,e,f,g,i]=a.toNat*72057594037927936+b.toNat*281474976710656+c.toNat*1099511627776+d.toNat*4294967296+e.toNat*16777216+f.toNat*65536+g.toNat*256+i.toNat:=by simp only [val,List.foldl_cons,List.foldl_nil,step];omega
  have key:∀(x:UInt8) (n:Nat),n%256=x.toNat->bP n=x:=λx n h=>by apply UInt8.toNat_inj.1;rw [gK,h]
  rw [hv]
  unfold be8
  rw [key a _ (by omega),key b _ (by omega),key c _ (by omega),key d _ (by omega),key e _ (by omega),key f _ (by omega),key g _ (by omega),key i _ (by omega)]
def nu_yes(h:(nuS s).2=0):s.2=0/\s.1=be8 (nuO s)++(nuS s).1:=by obtain⟨h1,h2,h3⟩:=tk_yes h;refine⟨h1,?_⟩;unfold nuO;rw [be8_val h2];exact h3
def mo_yes{m:Nat}(h:(moS m s).2=0):s.2=0/\moO m s=nuO s/\moO m s<=m/\s.1=be8 (moO m s)++(moS m s).1:=by
 unfold moS moO at *;split at h
 .cases h
 .rename_i hm;rw [if_neg hm,if_neg hm];obtain⟨h1,h2⟩:=nu_yes h;exact⟨h1,rfl,by omega,h2⟩
def moO_le(m:Nat)(s:Rds):moO m s<=m:=by unfold moO;split<;>omega
def by_yes(h:(byS s).2=0):s.2=0/\s.1=be8 (byO s).length++(byO s)++(byS s).1:=by obtain⟨h1,h2,h3⟩:=tk_yes h;obtain⟨g1,_,_,g2⟩:=mo_yes h1;refine⟨g1,?_⟩;unfold byO byS;rw [h2,aT,<-h3];exact g2
def pad_self{x:zu}(h:x.length=64):pad64 x=x:=by simp [pad64,h]
def pad64_len{x:zu}(h:x.length<=64):(pad64 x).length=64:=by simp [pad64];omega
def sgO_len(s:Rds):(sgO s).length=64:=pad64_len (tkO_le 64 s).1
def sg_yes(h:(sigS s).2=0):s.2=0/\s.1=sgO s++(sigS s).1:=by obtain⟨h1,h2,h3⟩:=tk_yes h;refine⟨h1,?_⟩;unfold sgO;rw [pad_self h2];exact h3
end
def wrap64_or(v:Nat)(h:v<18446744073709551616):wrap64 (v:Int)=(v:Int)\/wrap64 (v:Int)=(v:Int)-18446744073709551616:=by unfold wrap64;omega
def u64_is(z:Int):IntKind.u64.wrap z=z%18446744073709551616:=rfl
def wrap_back{v:Nat}(h:v<18446744073709551616):(IntKind.u64.wrap (IntKind.i64.wrap (v:Int))).toNat=v:=by have h1:=wrap64_or v h;rw [i64_left];generalize wrap64 (v:Int)=z at h1;rw [u64_is];omega
def end_ok{s:Rds}(h:endE s=0):s.2=0/\s.1=[]:=by
 unfold endE don at h;split at h
 .split at h
  .exact⟨by assumption,bE (by assumption)⟩
  .cases h
 .exact absurd h (by assumption)
section
variable{P:ym}{b:Base}{ops:zp}{Q:zx}{N:Nat}{E:SE}{L:ze}{R:zd}{F M:zv}{o:yk}{k:Nat}{rest:zo}
theorem parts_den{G:zk}:∀(ps:List (Nat×yo)) (vs:List (Nat×SC)),ps.map (λp=>(p.1,evS E p.2))=vs.map (λx=>(x.1,some (.q (.c x.2))))->ps.map (λp=>(p.1,ev (denE G E) p.2))=(vs.map λx=>(x.1,x.2.den)).map λp=>(p.1,some p.2)
 | [],[],_=>rfl
 | [],_::_,h=>by cases h
 | _::_,[],h=>by cases h
 | p::ps,v::vs,h=>by simp only [bA,fO,cK] at h ⊢;exact⟨⟨h.1.1,evS_ok h.1.2⟩,parts_den ps vs h.2⟩
def l_buildY{t:yn}{parts:Array (Nat×yo)}(vs:List (Nat×SC))(n:Nat)(l:zu)(hg:o.guard=none)(hd:o.dst=some k)(hk:aU k N=true)(ho:o.op = .build t parts)(hv:parts.toList.map (λp=>(p.1,evS E p.2))=vs.map (λx=>(x.1,some (.q (.c x.2)))))
 (hb:P.built t (vs.map λx=>(x.1,x.2.den))=some (By l).toArray)(hl:l.length=n)(hn:lS P b ops Q N rest ⟨(k,.q (eY n l))::E,L,R,F,M⟩):lS P b ops Q N (o::rest) ⟨E,L,R,F,M⟩ :=
 l_f (.q (eY n l)) (eY_ok hl).1 (λG S w C0 Q' _ _ hQ=>f_build _ _ hg hd hk ho (parts_den _ _ hv) hb hQ) (by rw [ho];rfl) hn
end
section
variable{P:ym}{b:Base}{ops:zp}{Q:zx}{N:Nat}{E:SE}{L:ze}{R:zd}{F M:zv}{o:yk}{rest:zo}{k:Nat}
def l_op(v:SV)(hv:v.Ok)(hg:o.guard=none)(hd:o.dst=some k)(hk:aU k N=true)(h:∀(G:zk) (a:Act) (w:yp),Fr N (denE G E) a->(execOp a.eval o).run P w = .ok (.value (v.den G)) w)
 (hn:lS P b ops Q N rest ⟨(k,v)::E,L,R,F,M⟩):lS P b ops Q N (o::rest) ⟨E,L,R,F,M⟩:=λa w ⟨G,S,h1,h2,h3⟩=>by
 refine wpl_go (oneS hg) (h G a w h1) ?_;rw [hd];exact hn _ w ⟨G,S,h1.put hk _,h2.cons hv,h3⟩
def l_opV(v:SV)(hv:v.Ok)(hg:o.guard=none)(hd:o.dst=some k)(hk:aU k N=true)(h:∀(G:zk) (S:zm) (a:Act) (w:yp),Fr N (denE G E) a->View G S L R F M w->(execOp a.eval o).run P w = .ok (.value (v.den G)) w)
 (hn:lS P b ops Q N rest ⟨(k,v)::E,L,R,F,M⟩):lS P b ops Q N (o::rest) ⟨E,L,R,F,M⟩:=λa w ⟨G,S,h1,h2,h3⟩=>by
 refine wpl_go (oneS hg) (h G S a w h1 h3.view) ?_;rw [hd];exact hn _ w ⟨G,S,h1.put hk _,h2.cons hv,h3⟩
variable{T':zo}{G:zk}{S:zm}{w0:yp}{grest:List (Nat×yk)}{i:Nat}
def g_opS(v:SV)(hv:v.Ok)(hg:o.guard=none)(hd:o.dst=some k)(hk:aU k N=true)(h:∀(G:zk) (a:Act) (w:yp),Fr N (denE G E) a->(execOp a.eval o).run P w = .ok (.value (v.den G)) w)
 (hn:gS P b ops Q N T' G w0 grest ((k,v)::E)):gS P b ops Q N T' G w0 ((i,o)::grest) E:=λhE =>
 g_op rfl (λa ha=>b_val (by simp [aQ,hg]) (λw _=>h G a w ha) (by rw [hd];exact g_go (o:=o) (hn (hE.cons hv)) _ (ha.put hk _)))
end
section
variable{N:Nat}{E:SE}{o:yk}{x y:yo}{t t':yn}
def run_eqY{n:Nat}{l m:zu}(ho:o.op = .binOp .eql t x y t')(hx:evS E x=some (.q (eY n l)))(hy:evS E y=some (.q (eY n m)))(ht:prog.underlying t=some (.array n 5))(hg:prog.eqGuardType prog.depth t=false)(hl:l.length=n)(hm:m.length=n) :
  ∀(G:zk) (a:Act) (w:yp),Fr N (denE G E) a->(execOp a.eval o).run prog w = .ok (.value ((SV.b (decide (l=m))).den G)) w:=λG a w ha=>by
 have h1:a.eval x = .agg (By l).toArray:=ha.eval (evS_ok hx);have h2:a.eval y = .agg (By m).toArray:=ha.eval (evS_ok hy)
 unfold execOp
 simp only [ho,h1,h2,aG,run_eqGuard_agg (hm:=hg),aC,binOp,Op.equal,Op.maxDepth,equalIn_bytes 9998 n t l m ht hl hm w,aI]
 rfl
def run_neqY{n:Nat}{l m:zu}(ho:o.op = .binOp .neq t x y t')(hx:evS E x=some (.q (eY n l)))(hy:evS E y=some (.q (eY n m)))(ht:prog.underlying t=some (.array n 5))(hg:prog.eqGuardType prog.depth t=false)(hl:l.length=n)(hm:m.length=n) :
  ∀(G:zk) (a:Act) (w:yp),Fr N (denE G E) a->(execOp a.eval o).run prog w = .ok (.value ((SV.b (!decide (l=m))).den G)) w:=λG a w ha=>by
 have h1:a.eval x = .agg (By l).toArray:=ha.eval (evS_ok hx);have h2:a.eval y = .agg (By m).toArray:=ha.eval (evS_ok hy)
 unfold execOp
 simp only [ho,h1,h2,aG,run_eqGuard_agg (hm:=hg),aC,binOp,Op.equal,Op.maxDepth,equalIn_bytes 9998 n t l m ht hl hm w,aI]
 rfl
def run_xor{m n:Int}(ho:o.op = .binOp .xor 5 x y t')(hx:evS E x=some (.v (.int .u8 m)))(hy:evS E y=some (.v (.int .u8 n))) :
  ∀(G:zk) (a:Act) (w:yp),Fr N (denE G E) a->(execOp a.eval o).run prog w = .ok (.value ((SV.v (.int .u8 (bits .xor .u8 m n))).den G)) w:=λG a w ha=>by
 have h1:a.eval x = .int .u8 m:=ha.eval (evS_ok hx);have h2:a.eval y = .int .u8 n:=ha.eval (evS_ok hy)
 unfold execOp
 simp only [ho,h1,h2]
 go_simp
 rfl
theorem run_sizeOf{P:ym}{e:yn}{k:Nat}(he:(P.info? e).map (·.size)=some k)(w:yp):(sizeOf e).run P w = .ok k w:=by
 cases hq:P.info? e with
 | none=>simp [hq] at he
 | some ie =>
  have hs:ie.size=k:=by simpa [hq] using he
  simp [sizeOf,typeInfo,hq,hs]
theorem run_cutHi{A:zt}{n c j sz:Nat}{e:yn}(he:(prog.info? e).map (·.size)=some sz)(hj:j<=c)(hA:A=none->c=0)(ho:o.op = .slice t x none (some y) none)(hu:prog.underlying t=some (.slice e))(hx:evS E x=some (.v (.slice A n c)))(hy:evS E y=some (.v (.int .i64 (j:Int)))) :
  ∀(G:zk) (a:Act) (w:yp),Fr N (denE G E) a->(execOp a.eval o).run prog w = .ok (.value ((SV.v (.slice A j c)).den G)) w:=λG a w ha=>by
 have h1:a.eval x = .slice A n c:=ha.eval (evS_ok hx);have h2:a.eval y = .int .i64 (j:Int):=ha.eval (evS_ok hy)
 have h3:(j:Int)<=(c:Int):=by omega
 have h4:(0:Int)<=(j:Int):=by omega
 have h5:=run_sizeOf he w
 unfold execOp
 simp only [ho];generalize a.eval=ρ at *;simp only [Option.map,h1,h2]
 show _=mQ (mB (.slice A j c)) w
 cases A with
 | none =>
  have:=hA rfl;obtain rfl:c=0:=this
  obtain rfl:j=0:=by omega
  go_simp
 | some ad=>go_simp
end
def spec_law{f:yi}{args:zq}{F:zv}[Pst F](h:Spec f args [] F (one (.v (.bool true)))){W:yp}(hF:F W):Calls prog f args.toArray W λe W'=>e = .returned (.bool true)/\Below W.heap.size W W' :=
 (h W (λ_=>False) (λ_=>False) (λ_ h=>h) (λ_ h=>h.elim) (Stb.of_pst hF λ_ _ h=>h.elim id id)).mono λ_ _ ⟨_,_,h1,_,h2,_⟩=>⟨h1,h2.up λ_ _ h=>h⟩
def Rd.of_sl{A:zt}{c:Nat}{l:zu}{W:yp}(h:SL W 0 W.heap.size A l c):Rd 1 eB A c l W:=(Rd.of_sb ⟨A,c,rfl,h⟩).2
theorem run_ixArr{P:ym}{t e:yn}{n sz:Nat}(ht:P.underlying t=some (.array n e))(he:(P.info? e).map (·.size)=some sz)(g o:Nat)(K:yj)(i:Nat)(hi:i<n)(w:yp) :
  (pA t (.pointer (some ⟨g,o,none⟩)) (.int K (i:Int))).run P w = .ok (.pointer (some ⟨g,o+sz*i,none⟩)) w:=by
 cases hq:P.info? e with
 | none=>simp [hq] at he
 | some ie =>
  have hs:ie.size=sz:=by simpa [hq] using he
  have h1:(i:Int)<(n:Int):=by omega
  have h2:(0:Int)<=(i:Int):=by omega
  simp [pA,asIntOf,fX,run_underlying ht,sizeOf,typeInfo,hq,hs,cQ,cX,hi]
section
variable{P:ym}{T:yw}{b:Base}{ops:zp}{Q:zx}{N:Nat}{E:SE}{L:ze}{R:zd}{F M:zv}{o:yk}{rest:zo}{k:Nat}{t e:yn}{x y z:yo}{K:yj}{j off n sz g:Nat}
def runO_ixA(i:Nat)(ho:o.op = .indexAddr t x y)(ht:P.underlying t=some (.array n e))(he:(P.info? e).map (·.size)=some sz)(hx:evS E x=some (.a j off))(hy:evS E y=some (.v (.int K (i:Int))))(hi:i<n) :
  ∀(G:zk) (a:Act) (w:yp),Fr N (denE G E) a->(execOp a.eval o).run P w = .ok (.value ((SV.a j (off+sz*i)).den G)) w:=λG a w ha=>by
 have e1:=ha.eval (evS_ok hx);have e2:=ha.eval (evS_ok hy)
 unfold execOp
 simp only [ho,e1,e2,SV.den,SQ.den,SC.den,aG,run_ixArr ht he _ _ _ _ hi,aC,aI]
def runO_ixP(i:Nat)(ho:o.op = .indexAddr t x y)(ht:P.underlying t=some (.array n e))(he:(P.info? e).map (·.size)=some sz)(hx:evS E x=some (.v (.pointer (some ⟨g,off,none⟩))))(hy:evS E y=some (.v (.int K (i:Int))))(hi:i<n) :
  ∀(G:zk) (a:Act) (w:yp),Fr N (denE G E) a->(execOp a.eval o).run P w = .ok (.value ((SV.v (.pointer (some ⟨g,off+sz*i,none⟩))).den G)) w:=λG a w ha=>by
 have e1:=ha.eval (evS_ok hx);have e2:=ha.eval (evS_ok hy)
 unfold execOp
 simp only [ho,e1,e2,SV.den,SQ.den,SC.den,aG,run_ixArr ht he _ _ _ _ hi,aC,aI]
def runO_ixS{c:Nat}(i:Nat)(ho:o.op = .indexAddr t x y)(ht:P.underlying t=some (.slice e))(he:(P.info? e).map (·.size)=some sz)(hx:evS E x=some (.v (.slice (some ⟨g,off,none⟩) n c)))(hy:evS E y=some (.v (.int K (i:Int))))(hi:i<n) :
  ∀(G:zk) (a:Act) (w:yp),Fr N (denE G E) a->(execOp a.eval o).run P w = .ok (.value ((SV.v (.pointer (some ⟨g,off+sz*i,none⟩))).den G)) w:=λG a w ha=>by
 have e1:=ha.eval (evS_ok hx);have e2:=ha.eval (evS_ok hy)
 unfold execOp
 simp only [ho,e1,e2,SV.den,SQ.den,SC.den,aG,run_index ht he _ _ _ _ _ _ hi,aC,aI]
def runO_ldA{d:TypeDesc}{ps:zb}(v:yl)(ho:o.op = .load t x)(hx:evS E x=some (.a j off))(hl:lookL L j=some ps)(hv:(catP ps)[off]?=some v)(hu:P.underlying t=some d)(hr:d.isRow=false) :
  ∀(G:zk) (S:zm) (a:Act) (w:yp),Fr N (denE G E) a->View G S L R F M w->(execOp a.eval o).run P w = .ok (.value ((SV.v v).den G)) w:=λG S a w ha hvw=>by
 obtain⟨z,hz,rfl,rfl⟩:=lookL_mem hl;have hb:=(hvw.var z hz).1
 have hc:w.cell? ⟨G z.j,off,none⟩=some v:=by rw [hb.cell];exact hv
 have e1:=ha.eval (evS_ok hx)
 unfold execOp
 simp only [ho,e1,SV.den,SQ.den,SC.den,run_load_cell hu hr hc,aG,aI,aC]
def l_stA{ps:zb}{v:yl}(ps':zb)(hg:o.guard=none)(hd:o.dst=none)(ho:o.op = .store t x z)(hx:evS E x=some (.a j off))(hz:evS E z=some (.v v))(hl:lookL L j=some ps)(ht:(P.info? t).map (·.size)=some 1)(h1:v.cells = #[v])(h2:v.oneCell'=true)(hlt:off<(catP ps).size)(hp:OkP ps')
 (hs:(catP ps').toList=(catP ps).toList.set off v)(hn:lS P b ops Q N rest ⟨E,putL L j ps',R,F,M⟩):lS P b ops Q N (o::rest) ⟨E,L,R,F,M⟩:=λa w ⟨G,S,f1,f2,f3⟩=>by
 obtain⟨u,hu,rfl,rfl⟩:=lookL_mem hl;have e1:=f1.eval (evS_ok hx);have e2:=f1.eval (evS_ok hz);have hst:=run_store_part (P:=P) (t:=t) (v:=v) (off:=off) (f3.at u hu) (by rw [ht,h1];rfl) (by rw [h1];exact hlt) (by rw [h1];intro u hu;simp at hu;subst hu;exact h2)
 have e3:((catP u.ps).toList.take off++v.cells.toList++(catP u.ps).toList.drop (off+v.cells.size)).toArray=catP ps':=by apply Array.ext';rw [hs,List.set_eq_take_append_cons_drop,if_pos (by simpa using hlt),h1];simp
 rw [e3] at hst
 refine wpl_skip (w':=w.setRow (G u.j) (catP ps')) (oneS hg) (by unfold execOp;simp only [ho,e1,e2,SV.den,SQ.den,SC.den,hst,aG,aI,aC]) ?_
 rw [hd];exact hn _ _ ⟨G,S,f1,f2,f3.set (lookL_name hl) hp⟩
end
section
variable{α:Type}{fe:α->SQ}{l:List α}{P:ym}{T:yw}{b:Base}{ops:zp}{Q:zx}{N:Nat}{E:SE}{L:ze}{R:zd}{F M:zv}{o:yk}{rest:zo}{k:Nat}{t e:yn}{x y z:yo}{A:zt}{lo c sz bs g m:Nat}
def l_list0(lo:Nat)(fe:α->SQ)(hg:o.guard=none)(hd:o.dst=some k)(hk:aU k N=true)(ho:o.op = .buildSlice t 0 #[])(hlo:lo<=b.B.heap.size)
 (hr:∀w:yp,(Instr.buildSlice t 0 #[]).run P w = .ok (.slice (some ⟨w.heap.size,0,none⟩) 0 0) (w.alloc (.cells #[] e)))
 (hc:∀A,lS P b ops Q N rest ⟨(k,.v (.slice A 0 0))::E,L,OwnS lo e sz fe A 0 []::R,F,M⟩):lS P b ops Q N (o::rest) ⟨E,L,R,F,M⟩:=λa w ⟨G,S,h1,h2,h3⟩=>by
 refine wpl_go (v:=.slice (some ⟨w.heap.size,0,none⟩) 0 0) (w':=w.alloc (.cells #[] e)) (oneS hg) (by unfold execOp;simp only [ho,fW,iK,aG,hr,aC,aI]) ?_
 rw [hd];obtain⟨S',h4⟩:=h3.gain ((Below.refl w.heap.size w).alloc (aF _) (.cells #[] e)) (OwnS.new (lo:=lo) (e:=e) (k:=sz) (fe:=fe) (l:=[]) w (bM hlo h3.chg.size) (λ_ h=>(by cases h)) (aL _)) (λj hj=>kA hj.symm);exact hc _ _ _ ⟨G,S',h1.put hk _,h2.cons trivial,h4⟩
def l_appY{A2:zt}{n c2:Nat}(hT:OkT P T)(i:Nat)(m:List α)(hg:o.guard=none)(hd:o.dst=some k)(hk:aU k N=true)(ho:o.op = .call { callee:=.builtin .append,args:=#[x,y],argTypes:=#[t,t] })(hs:slS T t=some (e,sz,bs))(hx:evS E x=some (.v (.slice A n c)))(hy:evS E y=some (.v (.slice A2 m.length c2)))
 (hi:R[i]?=some (OwnS lo e sz fe A c l))(hn:n=l.length)(hrd:∀G S w,View G S L R F M w->Rd sz fe A2 c2 m w)(h0:0<sz)(hb:(l.length+m.length)*bs<=140737488355328)(hm:l.length+m.length<=9223372036854775807-64)(hlo:lo<=b.B.heap.size)
 (hc:∀A' c',lS P b ops Q N rest ⟨(k,.v (.slice A' (l++m).length c'))::E,L,R.set i (OwnS lo e sz fe A' c' (l++m)),F,M⟩):lS P b ops Q N (o::rest) ⟨E,L,R,F,M⟩:=λa w ⟨G,S,f1,f2,f3⟩=>by
 have hR:=hrd G S w f3.view;obtain⟨S1,h5,hput⟩:=f3.put hi;have e1:=f1.eval (evS_ok hx);have e2:=f1.eval (evS_ok hy);subst hn
 have key:∃A' c' w' S',(qK #[t,t] o.type #[.slice A l.length c,.slice A2 m.length c2]).run P w = .ok (.slice A' (l++m).length c') w'/\Chg S1 w w'/\(OwnS lo e sz fe A' c' (l++m)).holds w' S'/\∀k,S' k->k<w.heap.size->S1 k:=by
  cases hA2:A2 with
  | none =>
   have hc2:=hR.2.2.1 hA2;have hml:m=[]:=bE (by have:=hR.1;omega);subst hml;subst hc2;obtain⟨ht,ie,zz,hie,hz,hsz,hbs,hzs,_⟩:=slS_ok hT hs;have hr:=run_append_owned_none (P:=P) w lo t o.type e ie sz ht hie _ l.length (flatF fe l) h5.2.1;refine⟨A,c,w,S1,by rw [bC];exact hr,Chg.refl _ _,by rw [bC];exact h5,λ_ h _=>h⟩
  | some ad =>
   refine OwnS.grow hT (d:=c2) (ad:=ad) o.type hs h0 h5 hR.2.2.2.1 (λj v hj=>?_) hb hm (bM hlo f3.chg.size);have hlen:=flatF_len hR.2.2.2.1;have hjl:=(aP.1 hj).1
   have hml:0<m.length:=by
    rcases kM m.length with h|h
    .rw [hlen,h,Nat.zero_mul] at hjl;omega
    .exact h
   obtain⟨bb,oo,e,_,hcell⟩:=hR.2.2.2.2 hml;rw [hA2] at e
   injection e with e
   subst e
   have hq:j/sz<m.length:=by rw [hlen] at hjl;exact Nat.div_lt_of_lt_mul (by rwa [cX] at hjl)
   obtain⟨B,Z,h9,h10,_⟩:=flatF_split hR.2.2.2.1 (aJ hq);have hmod:=Nat.div_add_mod j sz;have hlt:=cI j h0;have hcl:=(hR.2.2.2.1 _ (iF hq)).2
   have hv:(fe m[j/sz]).cl[j%sz]?=some v:=by
    rw [h9,bN (by omega),h10,cW (by omega)] at hj
    rwa [show j-sz*(j/sz)=j%sz by omega] at hj
   have:=hcell (j/sz) _ (aJ hq) (j%sz) v hv;rw [cQ]
   rwa [Nat.add_assoc,hmod] at this
 obtain⟨A',c',w',S',hr,hch,ho',hS'⟩:=key;obtain⟨S'',h6⟩:=hput _ _ _ hch ho' hS'
 refine wpl_go (v:=.slice A' (l++m).length c') (w':=w') (oneS hg) (by unfold execOp;simp only [ho,resolve,invoke,builtin,aG,aI,aC,fW,bA,iK,e1,e2,SV.den,SQ.den,SC.den,hr]) ?_
 rw [hd];exact hc A' c' _ _ ⟨G,S'',f1.put hk _,f2.cons trivial,h6⟩
end
section
variable{α:Type}{P:ym}{T:yw}{b:Base}{ops:zp}{Q:zx}{N:Nat}{E:SE}{L:ze}{R:zd}{F M:zv}{T':zo}{G:zk}{S:zm}{w0:yp}{rest:List (Nat×yk)}{o:yk}{i k sz bs:Nat}{t e:yn}{z:yo}
def g_opV(hst:StW b G S L R F M w0)(v:SV)(hv:v.Ok)(hg:o.guard=none)(hd:o.dst=some k)(hk:aU k N=true)(h:∀(G:zk) (S:zm) (a:Act) (w:yp),Fr N (denE G E) a->View G S L R F M w->(execOp a.eval o).run P w = .ok (.value (v.den G)) w)
 (hn:gS P b ops Q N T' G w0 rest ((k,v)::E)):gS P b ops Q N T' G w0 ((i,o)::rest) E:=λhE =>
 g_op rfl (λa ha=>b_val (by simp [aQ,hg]) (λw hw=>h G S a w ha (hst.later hw.1).view) (by rw [hd];exact g_go (o:=o) (hn (hE.cons hv)) _ (ha.put hk _)))
end
def wrapU_mod(f:Int)(m:Nat)(h0:0<m)(hm:m<=4294967296):∃k:Nat,k<m/\k=(IntKind.u64.wrap f).toNat%m/\IntKind.i64.wrap ((IntKind.u64.wrap f).tmod (m:Int))=(k:Int):=by
 have h1:0<=IntKind.u64.wrap f:=by show 0<=f%18446744073709551616;omega
 refine⟨(IntKind.u64.wrap f).toNat%m,cI _ h0,rfl,?_⟩;have h2:(IntKind.u64.wrap f).tmod (m:Int)=(((IntKind.u64.wrap f).toNat%m:Nat):Int):=by rw [Int.tmod_eq_emod_of_nonneg h1,Int.natCast_emod,Int.toNat_of_nonneg h1]
 have h3:=cI (IntKind.u64.wrap f).toNat h0;exact wrapI h2 (by omega) (by omega)
def wrapU{m r:Int}(h:m=r)(h1:0<=r)(h2:r<18446744073709551616):IntKind.u64.wrap m=r:=by subst h;show m%18446744073709551616=m;omega
def byte_z{z:Int}(h:0<=z/\z<256):∃y:UInt8,z=(y.toNat:Int):=⟨bP z.toNat,by rw [gK];omega⟩
section
variable{α:Type}{fe:α->SQ}{l:List α}{P:ym}{b:Base}{ops:zp}{Q:zx}{N:Nat}{E:SE}{L:ze}{R:zd}{F M:zv}{e:yn}{A:zt}{lo c sz:Nat}
def l_skipU{o:yk}{rest:zo}{j t k:Nat}{q:Bool}(hgd:o.guard=some (j,q))(hj:(ops[j]?).bind (·.dst)=some t)(hN:aU t N=true)(ht:lookS E t=some (.v undef))(hd:o.dst=some k)(hk:aU k N=true)
 (hn:lS P b ops Q N rest ⟨(k,.v undef)::E,L,R,F,M⟩):lS P b ops Q N (o::rest) ⟨E,L,R,F,M⟩:=λa w ⟨G,S,h1,h2,h3⟩=>by
 have hw:aQ o (yielded ops a.tmps)=false:=by
  have h4:=h1.get t undef (by rw [look_den,ht];rfl);have htN:t<a.tmps.size:=by rw [h1.size];simpa using hN
  simp only [Act.eval,bT] at h4;have h5:a.tmps[t]?=some undef:=by rw [b8 htN] at h4 ⊢;simpa using h4
  unfold aQ;rw [hgd];simp [yielded,hj,h5,undef]
 unfold wpList
 rw [hw,if_neg (by decide),hd];exact hn _ w ⟨G,S,h1.put hk undef,h2.cons trivial,h3⟩
def s_where{y:Code}(i:Nat)(hi:R[i]?=some (OwnS lo e sz fe A c l))(h0:0<l.length)(h:∀g,A=some ⟨g,0,none⟩->cS P b y Q N ⟨E,L,R,F,M⟩):cS P b y Q N ⟨E,L,R,F,M⟩:=λa w ⟨G,S,h1,h2,h3⟩=>by
 obtain⟨S1,⟨_,hrow,_⟩,_⟩:=h3.put hi;rcases hrow.2 with⟨_,h7⟩|⟨g,cap,cur,hv,_⟩
 .omega
 injection hv with v1 _ _;exact h g v1 a w ⟨G,S,h1,h2,h3⟩
def s_own{y:Code}(i:Nat)(hi:R[i]?=some (OwnS lo e sz fe A c l))(h:OkF sz fe l->l.length<=c->(A=none->c=0)->cS P b y Q N ⟨E,L,R,F,M⟩):cS P b y Q N ⟨E,L,R,F,M⟩:=λa w ⟨G,S,h1,h2,h3⟩=>by obtain⟨S1,h5,_⟩:=h3.put hi;have hr:=OwnS.rd h5;exact h hr.2.2.2.1 hr.1 hr.2.2.1 a w ⟨G,S,h1,h2,h3⟩
end
section
variable{P:ym}{T:yw}{b:Base}{ops:zp}{Q:zx}{N:Nat}{E E':SE}{L:ze}{R:zd}{F M:zv}{o:yk}{rest:zo}{k:Nat}{t ty:yn}{x z:yo}{off g:Nat}{ps ps':zb}{q:SQ}
def l_stO(hT:OkT P T)(i:Nat)(hi:R[i]?=some (ObjS g ty ps))(hg:o.guard=none)(hd:o.dst=none)(ho:o.op = .store t x z)(hx:evS E x=some (.v (.pointer (some ⟨g,off,none⟩))))(hz:evS E z=some (.q q))(hs:storeS T ps t off q=some ps')
 (hn:lS P b ops Q N rest ⟨E,L,R.set i (ObjS g ty ps'),F,M⟩):lS P b ops Q N (o::rest) ⟨E,L,R,F,M⟩:=λa w ⟨G,S,f1,f2,f3⟩=>by
 obtain⟨S1,⟨⟨hb,hok⟩,hS1⟩,hput⟩:=f3.put hi;have e1:a.eval x = .pointer (some ⟨g,off,none⟩):=f1.eval (evS_ok hx);have e2:a.eval z=q.den:=f1.eval (evS_ok hz);obtain⟨h3,h4⟩:=storeS_ok hT hok (f2.ev hz) hs;obtain⟨S'',h6⟩:=hput (ObjS g ty ps') (w.setRow g (catP ps')) S1 ((Chg.row w g _).mono λk _ hk=>(hS1 k).2 hk) ⟨⟨hb.row _,h3⟩,hS1⟩ (λk hk _=>hk)
 refine wpl_skip (w':=w.setRow g (catP ps')) (oneS hg) (by unfold execOp;simp only [ho,e1,e2,h4 hb,aG,aI,aC]) ?_
 rw [hd];exact hn _ _ ⟨G,S'',f1,f2,h6⟩
def StW.give{G:zk}{S:zm}{y:LV}{w:yp}(h:StW b G S (y::L) R F M w):StW b G (λk=>k=G y.j\/S k) L (ObjS (G y.j) y.t y.ps::R) F M w:=by
 have hM:∀k,Mine (λk=>k=G y.j\/S k) G L k->Mine S G (y::L) k:=λk hk=>by
  rcases hk with(rfl|hk)|⟨j,hj,rfl⟩
  .exact .inr ⟨y.j,aM,rfl⟩
  .exact .inl hk
  .exact .inr ⟨j,aK _ hj,rfl⟩
 have hy:=h.var y aM;have hap:=List.pairwise_cons.1 (show(y.j::namesL L).Pairwise λi j=>G i≠G j from h.apart);refine⟨λx hx=>h.var x (aK _ hx),hap.2,⟨λk=>k=G y.j,S,⟨⟨hy.1,hy.2.1⟩,λ_=>iE⟩,h.res,λ_=>iE,λk hk hs=>h.sep y.j aM (by rw [<-hk];exact hs)⟩,λj hj hs=>?_,h.fact.less λk _ hk=>hk.imp id (hM k),h.fresh.less λk _ hk=>hk.imp id (hM k),h.chg,λk hk=>h.mine k (hM k hk),h.old⟩;rcases hs with hs|hs
 .exact hap.1 j hj hs.symm
 .exact h.sep j (aK _ hj) hs
def k_give{K:zw}{y:LV}(i:Nat)(hx:lookS E i=some (.a y.j 0))(hs:SubS E' E)(h:∀g,kS b K N ⟨(i,.v (.pointer (some ⟨g,0,none⟩)))::E',L,ObjS g y.t y.ps::R,F,M⟩):kS b K N ⟨E,y::L,R,F,M⟩:=λa w ⟨G,S,h1,h2,h3⟩=>by refine h (G y.j) a w ⟨G,_,?_,(hs.ok h2).cons trivial,h3.give⟩;exact(h1.sub (denE_sub hs)).more (h1.get i _ (by rw [look_den,hx];rfl))
end
def cutA(A:zt)(c n:Nat):zt:=if c=n then A else A.map (·.add n)
def Rd.part{A:zt}{c n:Nat}{l:zu}{w:yp}(h:Rd 1 eB A c l w)(hn:n<=l.length):Rd 1 eB (cutA A c n) (c-n) (l.drop n) w:=by have h1:=h.sl.part (n:=l.length-n) hn;rw [bJ (by rw [cU];exact aF _)] at h1;exact Rd.of_sl h1
section
variable{N:Nat}{E:SE}{o:yk}{x y:yo}{t:yn}
theorem run_cutLo{A:zt}{n c j:Nat}(hj:j<=n)(hc:n<=c)(hA:A=none->c=0)(ho:o.op = .slice 39 x (some y) none none)(hx:evS E x=some (.v (.slice A n c)))(hy:evS E y=some (.v (.int .i64 (j:Int)))) :
  ∀(G:zk) (a:Act) (w:yp),Fr N (denE G E) a->(execOp a.eval o).run prog w = .ok (.value ((SV.v (.slice (cutA A c j) (n-j) (c-j))).den G)) w:=λG a w ha=>by
 have h1:a.eval x = .slice A n c:=ha.eval (evS_ok hx);have h2:a.eval y = .int .i64 (j:Int):=ha.eval (evS_ok hy)
 have h3:(j:Int)<=(n:Int):=by omega
 have h4:(0:Int)<=(j:Int):=by omega
 have h5:(n:Int)<=(c:Int):=by omega
 unfold execOp
 simp only [ho];generalize a.eval=ρ at *;simp only [Option.map,h1,h2]
 show _=mQ (mB (.slice (cutA A c j) (n-j) (c-j))) w
 cases A with
 | none =>
  obtain rfl:c=0:=hA rfl
  obtain rfl:n=0:=by omega
  obtain rfl:j=0:=by omega
  go_simp
  rfl
 | some ad =>
  unfold cutA
  by_cases e:c=j
  .rw [if_pos e];go_simp
  .rw [if_neg e];go_simp
end
section
variable{P:ym}{ops:zp}{Q:zx}{Inv:zv}
def wpAnyK(P:ym)(ops:zp)(Q:zx)(Inv:zv)(n m:Nat):Nat->zn->zw
  | 0,listed,a,w=>(∀j∈a9 .any ops listed,∀i,i<n->waitsT .any ops ops.size j i=true)/\wpAny P .any ops Q m listed a w
  | fuel+1,listed,a,w=>a9 .any ops listed≠[]/\∀i∈a9 .any ops listed,wpOp P ops Q i (λa' w'=>Inv w'/\wpAnyK P ops Q Inv n m fuel (listed.setIfInBounds i true) a' w') a w
theorem wpAny_of_K{n m:Nat}:∀(fuel:Nat) (listed:zn) (a:Act) (w:yp),wpAnyK P ops Q Inv n m fuel listed a w->wpAny P .any ops Q (m+fuel) listed a w
 | 0,_,_,_,h=>h.2
 | fuel+1,_,_,_,h=>⟨λh0=>absurd h0 h.1,λi hi=>wpOp_mono (λa' w' h'=>wpAny_of_K fuel _ a' w' h'.2) (h.2 i hi)⟩
def still_wpOp{i:Nat}{oi:yk}{v:yl}{K:zw}{a:Act}{w:yp}(hi:ops[i]?=some oi)(hst:stillG oi.op=true)(hy:YieldsB P ops Inv oi (· = v) a)(hC:Inv w)(h:K (a.put oi.dst v) w):wpOp P ops Q i K a w:=by
 unfold Go.wpOp;simp only [hi];rcases hy with⟨hw,hv⟩|⟨hw,hv⟩
 .simp only [hw,if_true]
  refine .inl ?_;have h3:=hv w hC;unfold atB at h3;unfold fT;cases hr:(execOp a.eval oi).run P w with
  | ok n w' =>
   rw [hr] at h3
   rcases still_ok hst hr with⟨u,rfl⟩|rfl
   .simp only [uponB] at h3;obtain⟨e1,e2⟩:=h3;subst e1 e2;exact h
   .simp only [uponB] at h3;obtain⟨e1,e2⟩:=h3;subst e1 e2;exact h
  | halt x w' =>
   rw [hr] at h3;simp only [uponB] at h3
 .simp only [hw,Bool.false_eq_true,if_false];rw [hv];exact h
theorem K_first{n m i:Nat}{oi:yk}{v:yl}(hin:i<n)(hi:ops[i]?=some oi)(hst:stillG oi.op=true)(hsel:∀(j:Nat) (o:yk) cs b,ops[j]?=some o->o.op ≠ .select cs b)(hQ:∀c a d v w,Q (.panic c) (a.put d v) w->Q (.panic c) a w) :
  ∀(fuel:Nat) (listed:zn) (a:Act) (w:yp),Inv w->Closed .any ops listed ->
   (∀j oj,ops[j]?=some oj->j≠i->listed.getD j true=false->(∀e∈oj.after,c7 .any e=true->e.on≠i)->oi.apart ops oj=true) ->
   i∈a9 .any ops listed->YieldsB P ops Inv oi (· = v) a->wpAnyK P ops Q Inv n m fuel (listed.setIfInBounds i true) (a.put oi.dst v) w->wpAnyK P ops Q Inv n m (fuel+1) listed a w:=by
 intro fuel
 induction fuel with
 | zero =>
  intro listed a w hC hcs _ hr hy H
  refine⟨λh=>(by rw [h] at hr;cases hr),λj hj=>?_⟩
  by_cases hji:j=i
  .subst hji;exact still_wpOp hi hst hy hC ⟨hC,H⟩
  .have h1:=H.1 j (ready_mono hj hji) i hin;obtain⟨_,oj,hoj,hall⟩:=mem_ready.1 hj;have h6:=hcs.waits _ j i oj hoj hall h1;rw [getD_ready hr] at h6;cases h6
 | succ fuel ih =>
  intro listed a w hC hcs hfree hr hy H
  refine⟨λh=>(by rw [h] at hr;cases hr),λj hj=>?_⟩
  by_cases hji:j=i
  .subst hji;exact still_wpOp hi hst hy hC ⟨hC,H⟩
  .obtain⟨hjun,oj,hoj,hall⟩:=mem_ready.1 hj
   have hnot:∀e∈oj.after,c7 .any e=true->e.on≠i:=λe he hb heq=>by have h1:=hall e he hb;rw [heq,getD_ready hr] at h1;cases h1
   have h2:=wpOp_putB (V:=(· = v)) hoj (hfree j oj hoj hji hjun hnot) (λcs b=>hsel i oi cs b hi) (λcs b=>hsel j oj cs b hoj) ⟨v,rfl⟩ (.inr ⟨v,λ_ h=>h⟩) hQ hy (λu hu=>by subst hu;exact H.2 j (ready_mono hj hji));have hun':∀k,(listed.setIfInBounds j true).getD k true=false->listed.getD k true=false:=λk hun=>by
    by_cases hjk:j=k
    .subst hjk;exact hjun
    .rw [getD_set_ne true hjk] at hun;exact hun
   refine wpOp_mono (λa' w' h3=>?_) h2;obtain⟨hy',h4⟩:=h3;obtain⟨hC',h5⟩:=h4 v rfl;refine⟨hC',ih (listed.setIfInBounds j true) a' w' hC' (hcs.set hj) (λk ok hk hki hun hno=>hfree k ok hk hki (hun' k hun) hno) (ready_mono hr (Ne.symm hji)) hy' ?_⟩;rw [Array.setIfInBounds_comm _ _ hji];exact h5
theorem upon_then{o:yk}{a:Act}{K next:zw}(r:Result Next)(h:o.upon P a next (Exit.then K Q) r):o.upon P a next Q r:=by
 cases r with
 | ok n w'=>cases n<;>exact h
 | halt x w'=>cases x<;>exact h
def wpOp_of_list{i:Nat}{o:yk}{K:zw}{a:Act}{w:yp}(hi:ops[i]?=some o)(h:wpList P ops (Exit.then K Q) [o] a w):wpOp P ops Q i K a w:=by
 unfold Go.wpOp;simp only [hi];unfold wpList at h;split
 .rename_i hw;rw [if_pos hw] at h;refine h.imp (λh=>?_) id;exact Oper.wp_mono (λa' w' h'=>h') (upon_then _ h)
 .rename_i hw;rw [if_neg hw] at h;exact h
end
def InvL(L:ze)(w:yp):Prop:=∀x∈L,∃g,x.g=some g/\Blk w g x.t (catP x.ps)
def aS(P:ym)(b:Base)(Q:zx)(N:Nat)(ops:zp)(Inv:zv)(n m fuel:Nat)(listed:zn)(e:Env):Prop:=Closed .any ops listed->∀a w,St b N e a w->Inv w->wpAnyK P ops (NoPanic Q) Inv n m fuel listed a w
def frontB(ops:zp)(n i:Nat)(listed:zn):Bool:=decide (i<n)&&(a9 .any ops listed).contains i&&Region.free .any ops listed i&&iA ops
section
variable{P:ym}{T:yw}{b:Base}{ops:zp}{Q:zx}{N n m fuel:Nat}{listed:zn}{E:SE}{L L0:ze}{R:zd}{F M:zv}{Inv:zv}{e:Env}
def panic_put:∀c (a:Act) d v w,NoPanic Q (.panic c) (a.put d v) w->NoPanic Q (.panic c) a w:=λ_ _ _ _ _ h=>h
def a_front{o:yk}{k:Nat}{v:SV}(hT:OkT P T)(i:Nat)(hc:frontB ops n i listed=true)(ho:ops[i]?=some o)(hg:o.guard=none)(hd:o.dst=some k)(hk:aU k N=true)(hs:stillG o.op=true)(hv:stepS T E L0 o.op=some v)(hsub:∀x∈L0,x∈L)
 (hn:aS P b Q N ops (InvL L0) n m fuel (listed.setIfInBounds i true) ⟨(k,v)::E,L,R,F,M⟩):aS P b Q N ops (InvL L0) n m (fuel+1) listed ⟨E,L,R,F,M⟩:=λhcs a w hst hI=>by
 obtain⟨G,S,h1,h2,h3⟩:=hst;simp only [frontB,aN,decide_eq_true_eq] at hc;obtain⟨⟨⟨hin,hr⟩,hfr⟩,hsel⟩:=hc
 have hr':i∈a9 .any ops listed:=by simpa using hr
 obtain⟨h4,h5⟩:=stepS_ok hT h2 (λx hx=>(h3.var x (hsub x hx)).2.1) hv;have h6:=hn (hcs.set hr') (a.put (some k) (v.den G)) w ⟨G,S,h1.put hk _,h2.cons h4,h3⟩ hI;refine K_first hin ho hs (eN hsel) panic_put fuel listed a w hI hcs (iT ho hfr) hr' (v:=v.den G) (.inl ⟨by simp [aQ,hg],λw' hw'=>?_⟩) (by rw [hd];exact h6)
 unfold atB
 rw [h5 h1 λx hx=>by obtain⟨g,e1,e2⟩:=hw' x hx;rw [(h3.var x (hsub x hx)).2.2 g e1];exact e2]
 exact⟨rfl,rfl⟩
def a_frontO{o:yk}{k:Nat}(v:SV)(hvo:v.Ok)(i:Nat)(hc:frontB ops n i listed=true)(ho:ops[i]?=some o)(hg:o.guard=none)(hd:o.dst=some k)(hk:aU k N=true)(hs:stillG o.op=true)(hv:∀(G:zk) (a:Act) (w:yp),Fr N (denE G E) a->(execOp a.eval o).run P w = .ok (.value (v.den G)) w)
 (hn:aS P b Q N ops Inv n m fuel (listed.setIfInBounds i true) ⟨(k,v)::E,L,R,F,M⟩):aS P b Q N ops Inv n m (fuel+1) listed ⟨E,L,R,F,M⟩:=λhcs a w hst hI=>by
 obtain⟨G,S,h1,h2,h3⟩:=hst;simp only [frontB,aN,decide_eq_true_eq] at hc;obtain⟨⟨⟨hin,hr⟩,hfr⟩,hsel⟩:=hc
 have hr':i∈a9 .any ops listed:=by simpa using hr
 have h6:=hn (hcs.set hr') (a.put (some k) (v.den G)) w ⟨G,S,h1.put hk _,h2.cons hvo,h3⟩ hI;refine K_first hin ho hs (eN hsel) panic_put fuel listed a w hI hcs (iT ho hfr) hr' (v:=v.den G) (.inl ⟨by simp [aQ,hg],λw' _=>?_⟩) (by rw [hd];exact h6)
 unfold atB
 rw [hv G a w' h1];exact⟨rfl,rfl⟩
def a_step{o:yk}(i:Nat)(hr:a9 .any ops listed=[i])(ho:ops[i]?=some o)(h:∀K:zw,(∀e',(∀a w,St b N e' a w->Inv w)->aS P b Q N ops Inv n m fuel (listed.setIfInBounds i true) e'->kS b K N e')->lS P b ops (Exit.then K (NoPanic Q)) N [o] e):aS P b Q N ops Inv n m (fuel+1) listed e:=λhcs a w hst _ =>
 ⟨by rw [hr];simp,λj hj=>by rw [hr,aD] at hj;subst hj;have hcs':=hcs.set (i:=j) (by rw [hr];simp);exact wpOp_of_list ho (h (λa' w'=>Inv w'/\wpAnyK P ops (NoPanic Q) Inv n m fuel (listed.setIfInBounds j true) a' w') (λe' hI' ha a' w' hs'=>⟨hI' a' w' hs',ha hcs' a' w' hs' (hI' a' w' hs')⟩) a w hst)⟩
def a_step2{o o':yk}(i i':Nat)(hr:a9 .any ops listed=[i,i'])(ho:ops[i]?=some o)(ho':ops[i']?=some o')
 (h:∀K:zw,(∀e',(∀a w,St b N e' a w->Inv w)->aS P b Q N ops Inv n m fuel (listed.setIfInBounds i true) e'->kS b K N e')->lS P b ops (Exit.then K (NoPanic Q)) N [o] e)
 (h':∀K:zw,(∀e',(∀a w,St b N e' a w->Inv w)->aS P b Q N ops Inv n m fuel (listed.setIfInBounds i' true) e'->kS b K N e')->lS P b ops (Exit.then K (NoPanic Q)) N [o'] e):aS P b Q N ops Inv n m (fuel+1) listed e:=λhcs a w hst _ =>
 ⟨by rw [hr];simp,λj hj=>by
  rw [hr] at hj;have key:∀(i:Nat) (o:yk),i∈a9 .any ops listed->ops[i]?=some o->(∀K:zw,(∀e',(∀a w,St b N e' a w->Inv w)->aS P b Q N ops Inv n m fuel (listed.setIfInBounds i true) e'->kS b K N e')->lS P b ops (Exit.then K (NoPanic Q)) N [o] e)->wpOp P ops (NoPanic Q) i (λa' w'=>Inv w'/\wpAnyK P ops (NoPanic Q) Inv n m fuel (listed.setIfInBounds i true) a' w') a w:=λi o hi ho h =>
   wpOp_of_list ho (h (λa' w'=>Inv w'/\wpAnyK P ops (NoPanic Q) Inv n m fuel (listed.setIfInBounds i true) a' w') (λe' hI' ha a' w' hs'=>⟨hI' a' w' hs',ha (hcs.set hi) a' w' hs' (hI' a' w' hs')⟩) a w hst)
  rcases aH.1 hj with rfl|hj
  .exact key _ o (by rw [hr];simp) ho h
  .rw [aD] at hj;subst hj;exact key _ o' (by rw [hr];simp) ho' h'⟩
def a_tail{l:zo}(hB:(sinksB .any l.toArray n listed&&forcedB .any l.toArray (l.drop n).length n listed)=true)(h:lS P b l.toArray (NoPanic Q) N (l.drop n) e):aS P b Q N l.toArray Inv n (l.drop n).length 0 listed e:=λ_ a w hst _=>by simp only [aN] at hB;exact⟨λj hj i hi=>b7.1 (b7.1 hB.1 j hj) i (List.mem_range.2 hi),wpAny_forced (l.drop n) n listed a w (λj _=>by simp [List.getElem?_drop]) hB.2 (h a w hst)⟩
def inv_of{E':SE}{L':ze}{R':zd}{F' M':zv}(hsub:∀x∈L0,x∈L'/\x.g.isSome=true):∀a w,St b N ⟨E',L',R',F',M'⟩ a w->InvL L0 w:=λa w ⟨G,S,_,_,h3⟩ x hx=>by obtain⟨h1,h2⟩:=hsub x hx;obtain⟨g,hg⟩:=Option.isSome_iff_exists.1 h2;have h4:=h3.var x h1;refine⟨g,hg,?_⟩;rw [<-h4.2.2 g hg];exact h4.1
def StW.drew{G:zk}{S:zm}{w:yp}(h:StW b G S L R F M w):StW b G S L R F M w.drew:=h.later (Up.drew w)
def s_any{l:zo}{id:Nat}(n:Nat)(L0:ze)(hm:P.follows .mixedOrders=true)(hn:n<=l.length)(h0:∀a w,St b N e a w->InvL L0 w)(h:aS P b Q N l.toArray (InvL L0) n (l.drop n).length n (bB l.toArray.size false) e):cS P b (.region id l.toArray true) Q N e:=λa w hst=>by
 refine wp_region_noPanic (wp_region_any hm ?_);obtain⟨G,S,h1,h2,h3⟩:=hst;have hd:St b N e a w.drew:=⟨G,S,h1,h2,h3.drew⟩;have h4:=wpAny_of_K n _ a w.drew (h (Closed.none _) a w.drew hd (h0 a _ hd));have e1:(l.drop n).length+n=l.toArray.size:=by simp;omega
 rw [e1] at h4;exact h4
def runO_all{N:Nat}{E:SE}{o:yk}{x:yo}{t e:yn}{j off n sz:Nat}(ho:o.op = .slice t x none none none)(ht:P.underlying t=some (.array n e))(he:(P.info? e).map (·.size)=some sz)(hx:evS E x=some (.a j off)) :
  ∀(G:zk) (a:Act) (w:yp),Fr N (denE G E) a->(execOp a.eval o).run P w = .ok (.value ((SV.s j off n n).den G)) w:=λG a w ha=>by
 have h1:a.eval x = .pointer (some ⟨G j,off,none⟩):=ha.eval (evS_ok hx);have h5:=run_sizeOf he w
 unfold execOp
 simp only [ho];generalize a.eval=ρ at *;simp only [Option.map,h1]
 show _=mQ (mB (.slice (some ⟨G j,off,none⟩) n n)) w
 simp [sX,fX,run_underlying ht,Instr.sliceBounds,h5,aG,cQ]
theorem putL_same:∀{L:ze} {j:Nat} {ps:zb},lookL L j=some ps->putL L j ps=L
 | [],_,_,h=>by cases h
 | x::L,j,ps,h=>by
  unfold lookL at h;unfold putL;split at h
  .injection h with h;subst h;rfl
  .exact congrArg (x :: ·) (putL_same h)
def l_copyV{o:yk}{rest:zo}{d s:yo}{k j n' c:Nat}{A:zt}{z l:zu}(hg:o.guard=none)(hd:o.dst=some k)(hk:aU k N=true)(ho:o.op = .call { callee:=.builtin .copy,args:=#[d,s],argTypes:=#[39,39] })
 (hx:evS E d=some (.s j 0 n' n'))(hy:evS E s=some (.v (.slice A l.length c)))(hl:lookL L j=some [.agg n' (By z).toArray])(hz:z.length=n')(hle:l.length<=n')(hrd:∀G S w,View G S L R F M w->Rd 1 eB A c l w)
 (hn:lS prog b ops Q N rest ⟨(k,.v (.int .i64 (l.length:Int)))::E,putL L j [.agg n' (By (l++z.drop l.length)).toArray],R,F,M⟩):lS prog b ops Q N (o::rest) ⟨E,L,R,F,M⟩:=λa w ⟨G,S,h1,h2,h3⟩=>by
 have hR:=hrd G S w h3.view;have e1:a.eval d = .slice (some ⟨G j,0,none⟩) n' n':=h1.eval (evS_ok hx);have e2:a.eval s = .slice A l.length c:=h1.eval (evS_ok hy)
 by_cases h0:l.length=0
 .obtain rfl:=bE h0;rw [putL_same (by rw [hl];rfl)] at hn;refine wpList_copy_nothing hg d s 39 39 ho 5 underlying39 size_u8 _ _ _ _ _ _ e1 e2 (Nat.zero_min _) ?_;rw [hd];exact hn _ w ⟨G,S,h1.put hk _,h2.cons trivial,h3⟩
 .obtain⟨bb,oo,rfl,_,hcell⟩:=hR.2.2.2.2 (by omega)
  obtain⟨u,hu,rfl,hps⟩:=lookL_mem hl;have hb:=h3.at u hu;rw [hps] at hb;have hok:OkP [Pt.agg n' (By (l++z.drop l.length)).toArray]:=λp hp=>by rw [aD.1 hp];exact⟨by rw [aW,By_len,aA,cU];omega,By_one _⟩
  refine wpList_copy_own hg d s 39 39 ho 5 underlying39 size_u8 (G u.j) 0 n' n' ⟨bb,oo,none⟩ l.length c e1 e2 (By z).toArray u.t hb (By l) (by rw [By_len];exact(Nat.min_eq_left hle).symm) ?_ (by rw [By_len,aW,By_len];omega) (By_one l) ?_
  .intro i v hv;obtain⟨x,hx1,rfl⟩:=By_at hv;have:=hcell i x hx1 0 (.int .u8 (x.toNat:Int)) rfl;rw [cQ];simpa using this
  .have e:(By z).toArray.toList.take 0++(By l++(By z).toArray.toList.drop (0+(By l).length))=By (l++z.drop l.length):=by
    simp [By]
   rw [e,hd,By_len];exact hn _ _ ⟨G,S,h1.put hk _,h2.cons trivial,h3.set (lookL_name hl) hok⟩
def withG(G:zk):ze->ze
  | []=>[]
  | x::L=>{ x with g:=some (G x.j) }::withG G L
theorem withG_names(G:zk):∀L:ze,namesL (withG G L)=namesL L
 | []=>rfl
 | x::L=>congrArg (x.j :: ·) (withG_names G L)
theorem withG_mem{G:zk}:∀{L:ze} {x:LV},x∈withG G L->∃y∈L,x={ y with g:=some (G y.j) }
 | [],_,h=>by cases h
 | y::L,x,h=>by
  rcases aH.1 h with rfl|h
  .exact⟨y,aM,rfl⟩
  .obtain⟨z,hz,e⟩:=withG_mem h;exact⟨z,aK _ hz,e⟩
def s_locs{c:Code}(h:∀G:zk,cS P b c Q N ⟨E,withG G L,R,F,M⟩):cS P b c Q N ⟨E,L,R,F,M⟩:=λa w ⟨G,S,h1,h2,h3⟩=>by
 have hM:∀k,Mine S G (withG G L) k↔Mine S G L k:=λk=>by unfold Mine;rw [withG_names]
 refine h G a w ⟨G,S,h1,h2,⟨λx hx=>?_,by rw [withG_names];exact h3.apart,h3.res,by rw [withG_names];exact h3.sep,h3.fact.less λk _ hk=>hk.imp id (hM k).1,h3.fresh.less λk _ hk=>hk.imp id (hM k).1,h3.chg,λk hk=>h3.mine k ((hM k).1 hk),h3.old⟩⟩;obtain⟨y,hy,rfl⟩:=withG_mem hx;exact⟨(h3.var y hy).1,(h3.var y hy).2.1,λg hg=>bQ hg⟩
def noG:ze->ze
  | []=>[]
  | x::L=>{ x with g:=none }::noG L
theorem noG_names:∀L:ze,namesL (noG L)=namesL L
 | []=>rfl
 | x::L=>congrArg (x.j :: ·) (noG_names L)
theorem noG_mem:∀{L:ze} {x:LV},x∈noG L->∃y∈L,x={ y with g:=none }
 | [],_,h=>by cases h
 | y::L,x,h=>by
  rcases aH.1 h with rfl|h
  .exact⟨y,aM,rfl⟩
  .obtain⟨z,hz,e⟩:=noG_mem h;exact⟨z,aK _ hz,e⟩
def k_noloc{K:zw}(h:kS b K N ⟨E,noG L,R,F,M⟩):kS b K N ⟨E,L,R,F,M⟩:=λa w ⟨G,S,h1,h2,h3⟩=>by
 have hM:∀k,Mine S G (noG L) k↔Mine S G L k:=λk=>by unfold Mine;rw [noG_names]
 refine h a w ⟨G,S,h1,h2,⟨λx hx=>?_,by rw [noG_names];exact h3.apart,h3.res,by rw [noG_names];exact h3.sep,h3.fact.less λk _ hk=>hk.imp id (hM k).1,h3.fresh.less λk _ hk=>hk.imp id (hM k).1,h3.chg,λk hk=>h3.mine k ((hM k).1 hk),h3.old⟩⟩;obtain⟨y,hy,rfl⟩:=noG_mem hx;exact⟨(h3.var y hy).1,(h3.var y hy).2.1,λg hg=>by cases hg⟩
end
theorem flat_cells:∀{vs:zq},(∀v∈vs,v.cells = #[v])->(vs.flatMap λv=>v.cells.toList)=vs
 | [],_=>rfl
 | v::vs,h=>by rw [mL,h v aM,flat_cells λu hu=>h u (aK _ hu)];rfl
section
variable{T:yw}{b:Base}{ops:zp}{Q:zx}{N:Nat}{E:SE}{L:ze}{R:zd}{F M:zv}{o1 o2:yk}{rest:zo}{k1 k2 bs e:Nat}
def l_dig{f:yi}{n m t:Nat}{parts:Array (Nat×yo)}{ats:zf}(hT:OkT prog T)(vs:yu)(ls:zy)(r:zu)(hg1:o1.guard=none)(hg2:o2.guard=none)(hd1:o1.dst=some k1)(hd2:o2.dst=some k2)(hk1:aU k1 N=true)(hk2:aU k2 N=true)
 (ho1:o1.op = .buildSlice t n parts)(ho2:o2.op = .call { callee:=.value (.func f),args:=#[.tmp k1],argTypes:=ats })(hs:slS T t=some (e,1,bs))(hf:Own f)
 (hp:∀G:zk,parts.toList.map (λp=>(p.1,(evS E p.2).map (SV.den G)))=((vs.map (SV.den G)).zipIdx 0).map λx=>(x.2,some x.1))(hn:vs.length=n)(h0:0<n)(h24:n<=16777216)(hr:r.length=m)
 (hc:∀A w,PT w A ls->F w->M w->Calls prog f #[.slice A n n] w λe w'=>e = .returned (.agg (By r).toArray)/\Below w.heap.size w w')
 (hrd:∀G S w,View G S L R F M w->All2 w (vs.map (SV.den G)) ls)
 (hnx:∀A,lS prog b ops Q N rest ⟨(k2,.q (eY m r))::(k1,.v (.slice A n n))::E,L,R,F,M⟩):lS prog b ops Q N (o1::o2::rest) ⟨E,L,R,F,M⟩:=λa w ⟨G,S,h1,h2,h3⟩=>by
 have hA:=hrd G S w h3.view;obtain⟨ht,ie,z,hi,hz,hsz,hbs,hzs,_⟩:=slS_ok hT hs
 have hrun:=run_lit (P:=prog) ht hi hz hsz (vs.map (SV.den G)) n (parts.map λ(i,x)=>(i,a.eval x)) (by rw [jD];exact map_parts h1 _ _ (hp G)) (by rw [aX,hn]) (by omega) (by omega) (λv hv=>by rw [(hA.one v hv).1];rfl) w
 rw [flat_cells λv hv=>(hA.one v hv).1] at hrun;have hal:=(Below.refl w.heap.size w).alloc (aF _) (.cells (vs.map (SV.den G)).toArray e);have hPT:PT (w.alloc (.cells (vs.map (SV.den G)).toArray e)) (some ⟨w.heap.size,0,none⟩) ls:=pt_of (Blk.new w e (vs.map (SV.den G)).toArray) (λj v hj=>by simpa using hj) (All2.later hal hA);have h4:=h3.later hal;have h5:=h1.put hk1 (.slice (some ⟨w.heap.size,0,none⟩) n n)
 refine wpl_go (v:=.slice (some ⟨w.heap.size,0,none⟩) n n) (w':=w.alloc (.cells (vs.map (SV.den G)).toArray e)) (oneS hg1) (by unfold execOp;simp only [ho1,aG,hrun,aC,aI]) ?_
 rw [hd1];have hr2:=call_run (E:=(k1,.v (.slice (some ⟨w.heap.size,0,none⟩) n n))::E) (svs:=[.v (.slice (some ⟨w.heap.size,0,none⟩) n n)]) (w:=w.alloc (.cells (vs.map (SV.den G)).toArray e)) hf ho2 (by simp [evSs,evS,lookS]) h5
 unfold wpList
 rw [if_pos (by simp [aQ,hg2])];refine .inl ?_
 unfold fT
 rw [hr2];simp only [fB,hd2];refine(hc _ _ hPT h4.view.fact h4.view.fresh).mono ?_
 rintro e' w' ⟨rfl,hb⟩
 have h6:OkE ((k1,.v (.slice (some ⟨w.heap.size,0,none⟩) n n))::E):=h2.cons trivial;exact hnx (some ⟨w.heap.size,0,none⟩) _ w' ⟨G,S,h5.put hk2 _,h6.cons (v:=.q (eY m r)) (eY_ok hr).1,h4.later hb⟩
def sb_var{j n:Nat}{l:zu}(hj:lookL L j=some [.agg n (By l).toArray])(hl:l.length=n)(hm:n<=9223372036854775807):∀G S w,View G S L R F M w->SB w ((SV.s j 0 n n).den G) l:=λG S w hv=>by obtain⟨z,hz,rfl,hps⟩:=lookL_mem hj;have hb:=(hv.var z hz).1;rw [hps] at hb;exact SB.all hb hl hm
end
def gOf:ze->Nat->zk->zk->zk
  | [],_,_,G,j=>G j
  | u::us,i,gs,G,j=>if j=u.j then gs i else gOf us (i+1) gs G j
def ptrV:ze->SE->SE
  | [],E=>E
  | u::us,E=>(u.j,.a u.j 0)::ptrV us E
def nvL:ze->List zr->yt
  | u::us,z::zs=>⟨u.j,u.t,z⟩::nvL us zs
  | _,_=>[]
def freeV(E:SE)(L:ze):ze->Bool
  | []=>true
  | u::us=>farL u.j L&&farE u.j E&&(match u.g with|none=>true|some _=>false)&&farL u.j us&&freeV E L us
theorem gOf_far{gs G:zk}{j:Nat}:∀{us:ze} {i:Nat},j∉namesL us->gOf us i gs G j=G j
 | [],_,_=>rfl
 | u::us,i,h=>by unfold gOf;rw [if_neg λe=>h (by rw [e];exact aM)];exact gOf_far λh2=>h (aK _ h2)
theorem gOf_mem{gs G:zk}:∀{us:ze} {i j:Nat} ,j∈namesL us->∃k,i<=k/\k<i+us.length/\gOf us i gs G j=gs k
 | [],_,_,h=>by cases h
 | u::us,i,j,h=>by
  unfold gOf;by_cases e:j=u.j
  .rw [if_pos e];exact⟨i,aF _,by simp,rfl⟩
  .rw [if_neg e]
   rcases aH.1 h with e2|h
   .exact absurd e2 e
   .obtain⟨k,h1,h2,h3⟩:=gOf_mem (i:=i+1) h;exact⟨k,by omega,by simp only [a6];omega,h3⟩
theorem freeV_far{E:SE}{L:ze}:∀{us:ze},freeV E L us=true->∀u∈us,farL u.j L=true/\farE u.j E=true/\u.g=none
 | [],_,u,h=>by cases h
 | v::us,hf,u,h=>by
  simp only [freeV,aN] at hf;obtain⟨⟨⟨⟨h1,h2⟩,h3⟩,h4⟩,h5⟩:=hf;rcases aH.1 h with rfl|h
  .refine⟨h1,h2,?_⟩
   cases hg:u.g with
   | none=>rfl
   | some x=>rw [hg] at h3;cases h3
  .exact freeV_far h5 u h
section
variable{P:ym}{T:yw}{b:Base}{ops:zp}{Q:zx}{N:Nat}{G gs:zk}{S:zm}{E:SE}{L:ze}{R:zd}{F M:zv}{w0 w':yp}
theorem gOf_pair{i0:Nat}:∀{us:ze} {i:Nat},freeV E L us=true->(∀k l,i0<=k->k<i+us.length->i0<=l->l<i+us.length->k≠l->gs k≠gs l)->i0<=i->(namesL us).Pairwise λx y=>gOf us i gs G x≠gOf us i gs G y
 | [],_,_,_,_=>pJ
 | u::us,i,hf,hd,hi=>by
  simp only [freeV,aN] at hf;obtain⟨⟨_,h4⟩,h5⟩:=hf;have hn:=farL_mem h4;have hne:∀j∈namesL us,gOf (u::us) i gs G j=gOf us (i+1) gs G j:=λj hj=>by show(if j=u.j then _ else _)=_;rw [if_neg λe=>hn (by rw [<-e];exact hj)]
  refine qV (λj hj=>?_) ?_
  .rw [hne j hj];show(if u.j=u.j then gs i else _)≠_;rw [if_pos rfl];obtain⟨k,h1,h2,h3⟩:=gOf_mem (gs:=gs) (G:=G) (i:=i+1) hj;rw [h3];exact hd i k (by omega) (by simp only [a6];omega) (by omega) (by simp only [a6];omega) (by omega)
  .refine(gOf_pair (us:=us) (i:=i+1) h5 (λk l a b c d=>hd k l a (by simp only [a6];omega) c (by simp only [a6];omega)) (by omega)).imp_of_mem λ{x y} hx hy h=>?_;rw [hne x hx,hne y hy];exact h
theorem gOf_blk(G:zk):∀{us:ze} {zs:List zr} {i:Nat},freeV E L us=true->us.length=zs.length->blks w' (nvL us zs) (us.map λu=>catP u.ps) i gs->∀u∈us,Blk w' (gOf us i gs G u.j) u.t (catP u.ps)
 | [],_,_,_,_,_,u,h=>by cases h
 | _::_,[],_,_,hl,_,_,_=>by cases hl
 | v::us,z::zs,i,hf,hl,hb,u,h=>by
  simp only [freeV,aN] at hf;obtain⟨⟨_,h4⟩,h5⟩:=hf;have hn:=farL_mem h4;obtain⟨hb1,hb2⟩:=hb;rcases aH.1 h with rfl|h
  .show Blk w' (if u.j=u.j then gs i else _) _ _;rw [if_pos rfl];exact hb1
  .have:=gOf_blk G h5 (by simpa using hl) hb2 u h;show Blk w' (if u.j=v.j then _ else _) _ _;rw [if_neg λe=>hn (by rw [<-e];exact aZ.2 ⟨u,h,rfl⟩)];exact this
def StW.news(h:StW b G S L R F M w0)(hU:Up w0 w')(us:ze)(hf:freeV E L us=true)(hp:∀u∈us,OkP u.ps)(hge:∀j,j<us.length->w0.heap.size<=gs j)(hd:∀i j,i<us.length->j<us.length->i≠j->gs i≠gs j)(hb:∀u∈us,Blk w' (gOf us 0 gs G u.j) u.t (catP u.ps)) :
  StW b (gOf us 0 gs G) S (us++L) R F M w':=by
 have h1:=h.later hU;have hfr:=freeV_far hf
 have hno:∀j∈namesL L,j∉namesL us:=λj hj hj2=>by obtain⟨u,hu,rfl⟩:=aZ.1 hj2;exact farL_mem (hfr u hu).1 hj
 have hG:∀j∈namesL L,gOf us 0 gs G j=G j:=λj hj=>gOf_far (hno j hj);have hlt:∀i∈namesL L,G i<w0.heap.size:=λi hi=>h.lt _ (.inr ⟨i,hi,rfl⟩)
 have hnew:∀j∈namesL us,w0.heap.size<=gOf us 0 gs G j:=λj hj=>by obtain⟨k,h2,h3,h4⟩:=gOf_mem (gs:=gs) (G:=G) (i:=0) hj;rw [h4];exact hge k (by omega)
 have hnames:namesL (us++L)=namesL us++namesL L:=List.map_append
 have hM:∀k,Mine S (gOf us 0 gs G) (us++L) k->w0.heap.size<=k\/Mine S G L k:=λk hk=>by
  rcases hk with hk|⟨i,hi,rfl⟩
  .exact .inr (.inl hk)
  .rw [hnames] at hi
   rcases bK.1 hi with hi|hi
   .exact .inl (hnew i hi)
   .exact .inr (.inr ⟨i,hi,(hG i hi).symm⟩)
 refine⟨λx hx=>?_,?_,h1.res,λi hi=>?_,?_,?_,h1.chg,λk hk hlt2=>?_,h.old⟩
 .rcases bK.1 hx with hx|hx
  .exact⟨hb x hx,hp x hx,λg hg=>by rw [(hfr x hx).2.2] at hg;cases hg⟩
  .rw [hG _ (aZ.2 ⟨x,hx,rfl⟩)];exact h1.var x hx
 .rw [hnames]
  refine List.pairwise_append.2 ⟨gOf_pair (i0:=0) hf (λk l _ a _ c=>hd k l (by omega) (by omega)) (aF _),h.apart.imp_of_mem λ{x y} hx hy e=>?_,λi hi j hj=>?_⟩
  .rw [hG x hx,hG y hy];exact e
  .have:=hnew i hi;have:=hlt j hj;rw [hG j hj];omega
 .rw [hnames] at hi
  rcases bK.1 hi with hi|hi
  .intro hs;have:=h.res.lt _ hs;have:=hnew i hi;omega
  .rw [hG i hi];exact h.sep i hi
 .refine h.fact.past (Chg.of_up hU) λi hi hd=>?_
  rcases hd with hd|hd
  .exact .inl hd
  .rcases hM i hd with h2|hd
   .exact absurd hi (Nat.not_lt.2 h2)
   .exact .inr hd
 .refine h.fresh.past (Chg.of_up hU) λi hi hd=>?_
  rcases hd with hd|hd
  .exact .inl hd
  .rcases hM i hd with h2|hd
   .exact absurd hi (Nat.not_lt.2 h2)
   .exact .inr hd
 .rcases hM k hk with h2|h2
  .have:=h.chg.size;omega
  .exact h.mine k h2 hlt2
theorem den_gOf{us:ze}{i:Nat}{v:SV}(h:∀u∈us,v.farB u.j=true):v.den (gOf us i gs G)=v.den G:=by
 induction us generalizing i with
 | nil=>rfl
 | cons u us ih =>
  have h1:=h u aM;have h2:=ih (i:=i+1) λx hx=>h x (aK _ hx);rw [<-h2]
  cases v with
  | a j off =>
   have h1:(!Nat.beq j u.j)=true:=h1
   have:j≠u.j:=λe=>by rw [e] at h1;simp at h1
   show qJ (some ⟨gOf (u::us) i gs G j,off,none⟩)=_
   unfold gOf
   rw [if_neg this]
   rfl
  | s j off n c =>
   have h1:(!Nat.beq j u.j)=true:=h1
   have:j≠u.j:=λe=>by rw [e] at h1;simp at h1
   show Value.slice (some ⟨gOf (u::us) i gs G j,off,none⟩) n c=_
   unfold gOf
   rw [if_neg this]
   rfl
  | q x=>rfl
  | t vs=>rfl
theorem denE_gOf{us:ze}:∀{E:SE},(∀u∈us,farE u.j E=true)->denE (gOf us 0 gs G) E=denE G E
 | [],_=>rfl
 | (k,v)::r,h=>by
  have h1:∀u∈us,v.farB u.j=true/\farE u.j r=true:=λu hu=>by have:=h u hu;unfold farE at this;rw [List.all_cons,aN] at this;exact this
  rw [denE,denE,den_gOf λu hu=>(h1 u hu).1,denE_gOf λu hu=>(h1 u hu).2]
theorem ptrV_den:∀{us:ze} {zs:List zr} {i:Nat} {E1:List (Nat×yl)} {G0:zk},freeV E L us=true->us.length=zs.length->(∀j∈namesL us,G0 j=gOf us i gs G j)->denE G0 E=E1->denE G0 (ptrV us E)=ptrs (nvL us zs) i gs E1
 | [],[],_,_,_,_,_,_,h=>h
 | u::us,z::zs,i,E1,G0,hf,hl,hg,h=>by
  simp only [freeV,aN] at hf;obtain⟨⟨_,h4⟩,h5⟩:=hf;have hn:=farL_mem h4;have h0:=hg u.j aM;have e0:G0 u.j=gs i:=by rw [h0];unfold gOf;rw [if_pos rfl]
  show(u.j,qJ (some ⟨G0 u.j,0,none⟩))::denE G0 (ptrV us E)=(u.j,qJ (some ⟨gs i,0,none⟩))::ptrs (nvL us zs) (i+1) gs E1;rw [e0,ptrV_den (i:=i+1) h5 (by simpa using hl) (λj hj=>?_) h];rw [hg j (aK _ hj)];show(if j=u.j then _ else _)=_;rw [if_neg λe=>hn (by rw [<-e];exact hj)]
 | [],_::_,_,_,_,_,hl,_,_=>by cases hl
 | _::_,[],_,_,_,_,hl,_,_=>by cases hl
theorem ptrV_ok:∀{us:ze},OkE E->OkE (ptrV us E)
 | [],h=>h
 | _::us,h=>(ptrV_ok (us:=us) h).cons trivial
def nS(P:ym)(ops:zp)(N:Nat)(w0:yp)(Z:Act->Prop)(G:zk)(l:zo)(E:SE):Prop:=OkE E->bF P ops (Up w0) Z l N (denE G E)
variable{Z:Act->Prop}{vs:yt}{T' l rest:zo}{o:yk}{k:Nat}
def n_f(hst:StW b G S L R F M w0)(v:SV)(hv:v.Ok)(h:∀(C0:zv) (Q':Act->Prop),(∀w,C0 w->View G S L R F M w)->bF P ops C0 Q' [] N ((k,v.den G)::denE G E)->bF P ops C0 Q' [o] N (denE G E))(hn:nS P ops N w0 Z G rest ((k,v)::E)):nS P ops N w0 Z G (o::rest) E:=λhE =>
 h (Up w0) (λa'=>wpB P ops (Up w0) Z rest a') (λ_ hw=>(hst.later hw).view) (λa' ha'=>hn (hE.cons hv) a' ha')
def n_op(hst:StW b G S L R F M w0)(v:SV)(hv:v.Ok)(hg:o.guard=none)(hd:o.dst=some k)(hk:aU k N=true)(h:∀(G:zk) (a:Act) (w:yp),Fr N (denE G E) a->(execOp a.eval o).run P w = .ok (.value (v.den G)) w)(hn:nS P ops N w0 Z G rest ((k,v)::E)):nS P ops N w0 Z G (o::rest) E :=
 n_f hst v hv (λ_ _ _ hQ=>f_val _ hg hd hk (λa ha w _=>h G a w ha) hQ) hn
def n_opV(hst:StW b G S L R F M w0)(v:SV)(hv:v.Ok)(hg:o.guard=none)(hd:o.dst=some k)(hk:aU k N=true)(h:∀(G:zk) (S:zm) (a:Act) (w:yp),Fr N (denE G E) a->View G S L R F M w->(execOp a.eval o).run P w = .ok (.value (v.den G)) w)(hn:nS P ops N w0 Z G rest ((k,v)::E)):nS P ops N w0 Z G (o::rest) E :=
 n_f hst v hv (λ_ _ hC hQ=>f_val _ hg hd hk (λa ha w hw=>h G S a w ha (hC w hw)) hQ) hn
def n_st{v:SV}(hT:OkT P T)(hst:StW b G S L R F M w0)(hE:OkE E)(hg:o.guard=none)(hd:o.dst=some k)(hk:aU k N=true)(h:stepS T E L o.op=some v)(hn:nS P ops N w0 Z G rest ((k,v)::E)):nS P ops N w0 Z G (o::rest) E :=
 n_f hst v (stepS_ok hT (N:=N) (o:=o) hE hst.okL h).1 (λ_ _ hC hQ=>f_val _ hg hd hk (λ_ ha w hw=>(stepS_ok hT hE hst.okL h).2 ha λx hx=>((hC w hw).var x hx).1) hQ) hn
def autoN(T:yw)(ops:zp)(N:Nat)(L:ze):zo->SE->zo×SE
  | [],E=>([],E)
  | o::l,E=>match o.guard,o.dst with
    | none,some k=>match aU k N with
      | true=>match stepS T E L o.op with
        | some v=>autoN T ops N L l ((k,v)::E)
        | none=>(o::l,E)
      | false=>(o::l,E)
    | _,_=>(o::l,E)
theorem autoN_ok(hT:OkT P T)(hst:StW b G S L R F M w0):∀{l:zo} {E:SE},OkE E->nS P ops N w0 Z G (autoN T ops N L l E).1 (autoN T ops N L l E).2->nS P ops N w0 Z G l E
 | [],_,_,h=>h
 | o::l,E,hE,h=>by
  unfold autoN at h;split at h
  .rename_i k hg hd
   split at h
   .rename_i hk
    split at h
    .rename_i v hv;exact n_st hT hst hE hg hd hk hv (autoN_ok hT hst (hE.cons (stepS_ok hT (N:=N) (o:=o) hE hst.okL hv).1) h)
    .exact h
   .exact h
  .exact h
def n_auto{l':zo}{E':SE}(hT:OkT P T)(hst:StW b G S L R F M w0)(h:autoN T ops N L l E=(l',E'))(hn:nS P ops N w0 Z G l' E'):nS P ops N w0 Z G l E:=λhE=>autoN_ok hT hst hE (by rw [h];exact hn) hE
def n_new{T2:zo}(hst:StW b G S L R F M w0)(us:ze)(zs:List zr)(xs:List yo)(hvs:nvL us zs=vs)(hl:us.length=zs.length)(hf:freeV E L us=true)(hp:∀u∈us,OkP u.ps)(hfar:far (denE G E) vs)(hap:tsApart vs=true)(hso:stOk vs xs T' T2)(hv:valOk P (denE G E) vs xs (us.map λu=>catP u.ps))
 (h:lS P b ops Q N T2 ⟨ptrV us E,us++L,R,F,M⟩):nS P ops N w0 (newPost P ops Q w0 vs T' N) G [] E:=λhE=>by
 subst hvs
 have hlen:(nvL us zs).length=us.length:=by
  clear hf hp hfar hap hso hv h;induction us generalizing zs with
  | nil=>rfl
  | cons u us ih =>
   cases zs with
   | nil=>cases hl
   | cons z zs=>exact congrArg (· + 1) (ih zs (by simpa using hl))
 refine f_new xs (us.map λu=>catP u.ps) hfar hap hso hv λgs w' hge hd hU hb a ha=>?_;rw [hlen] at hge hd;have hfr:=freeV_far hf;refine h a w' ⟨gOf us 0 gs G,S,?_,ptrV_ok hE,hst.news hU us hf hp hge hd (gOf_blk G hf hl hb)⟩;rw [ptrV_den (L:=L) hf hl (λ_ _=>rfl) (denE_gOf λu hu=>(hfr u hu).2.1)];exact ha
end
section
variable{T:yw}{b:Base}{ops:zp}{Q:zx}{N:Nat}{G:zk}{S:zm}{E:SE}{L:ze}{R:zd}{F M:zv}{w0:yp}{Z:Act->Prop}{rest:zo}{o:yk}{k:Nat}
def n_callS{F':zv}{f:yi}{xs:zg}{ats:zf}{svs:yu}{r:RV}[Pst F']
 (hst:StW b G S L R F M w0)(args:zq)(hg:o.guard=none)(hd:o.dst=some k)(hk:aU k N=true)(hf:Own f)(ho:o.op = .call { callee:=.value (.func f),args:=xs,argTypes:=ats })(hx:evSs E xs.toList=some svs)
 (ha:(∀x∈L,∀g,x.g=some g->G x.j=g)->svs.map (SV.den G)=args)(hs:Spec f args [] F' (one r))(hr:r.sv.Ok)(hF:∀G S w,View G S L R F M w->F' w)
 (hn:nS prog ops N w0 Z G rest ((k,r.sv)::E)):nS prog ops N w0 Z G (o::rest) E:=by
 refine n_f hst r.sv hr (λC0 Q' hC hQ=>?_) hn;rw [RV.sv_den] at hQ;exact f_call args.toArray r.den hg hd hk hf (λw hw=>(hs w (λ_=>False) (λ_=>False) (λ_ h=>h) (λ_ h=>h.elim) (Stb.of_pst (hF _ _ _ (hC w hw)) λ_ _ h=>h.elim id id)).mono λ_ _ ⟨_,_,h1,_,h2,_⟩=>⟨h1,h2.up λ_ _ h=>h⟩) ho (by rw [evSs_ok hx,ha λx hx=>(hst.var x hx).2.2]) hQ
end
section
variable{P:ym}{T:yw}{b:Base}{Q:zx}{N:Nat}{E:SE}{L:ze}{R:zd}{F M:zv}{l:zo}{id:Nat}{y:Code}
def s_new(n:Nat)(vs:yt)(hn:n+vs.length<=l.length)(hap:tsApart vs=true)(hnv:nvOk P N (l.drop n) vs)(hm:P.follows .mixedOrders=true)
 (hB:tailB l.toArray n vs.length (l.drop (n+vs.length)).length=true)
 (hC:newC l.toArray n (marks vs.length n (marks n 0 (bB l.toArray.size false))) vs.length (dV vs.length) (marks n 0 (bB l.toArray.size false))=true)
 (h:∀K:zw,(∀e',cS P b y Q N e'->kS b K N e')->∀G S w0,StW b G S L R F M w0->nS P l.toArray N w0 (newPost P l.toArray (NoPanic (Exit.then K Q)) w0 vs (l.drop (n+vs.length)) N) G (l.take n) E):cS P b (.seq (.region id l.toArray true) y) Q N ⟨E,L,R,F,M⟩ :=
 zM λK hK a w ⟨G,S,h1,h2,h3⟩=>by refine wp_region_noPanic ?_;exact c_new n vs hn hap hnv hm hB hC (λ_ _ _ _ _ h=>h) (h K hK G S w h3 h2) a h1
end
def nopB:SV->Bool
  | .q (.c (.v (.tuple ⟨[]⟩)))=>true
  | _=>false
def skipU(ops:zp)(N:Nat):zo->SE->zo×SE
  | [],E=>([],E)
  | o::l,E=>match o.guard,o.dst with
    | some (j,_),some k=>match (ops[j]?).bind (·.dst),aU k N with
      | some t,true=>match aU t N,lookS E t with
        | true,some v=>match nopB v with
          | true=>skipU ops N l ((k,.v undef)::E)
          | false=>(o::l,E)
        | _,_=>(o::l,E)
      | _,_=>(o::l,E)
    | _,_=>(o::l,E)
def skipUD(ops:zp)(N:Nat):List (Nat×yk)->SE->List (Nat×yk)×SE
  | [],E=>([],E)
  | (i,o)::l,E=>match o.guard,o.dst with
    | some (j,_),some k=>match (ops[j]?).bind (·.dst),aU k N with
      | some t,true=>match aU t N,lookS E t with
        | true,some v=>match nopB v with
          | true=>skipUD ops N l ((k,.v undef)::E)
          | false=>((i,o)::l,E)
        | _,_=>((i,o)::l,E)
      | _,_=>((i,o)::l,E)
    | _,_=>((i,o)::l,E)
def wanted_nop{ops:zp}{N:Nat}{G:zk}{E:SE}{a:Act}{o:yk}{j t:Nat}{q:Bool}{v:SV}(h1:Fr N (denE G E) a)(hgd:o.guard=some (j,q))(hj:(ops[j]?).bind (·.dst)=some t)(hN:aU t N=true)(ht:lookS E t=some v)(hv:nopB v=true):aQ o (yielded ops a.tmps)=false:=by
 have hv:v = .v undef:=by
  unfold nopB at hv;split at hv
  .rfl
  .cases hv
 subst hv;have h4:=h1.get t undef (by rw [look_den,ht];rfl);have htN:t<a.tmps.size:=by rw [h1.size];simpa using hN
 simp only [Act.eval,bT] at h4;have h5:a.tmps[t]?=some undef:=by rw [b8 htN] at h4 ⊢;simpa using h4
 unfold aQ;rw [hgd];simp [yielded,hj,h5,undef]
section
variable{P:ym}{b:Base}{ops:zp}{Q:zx}{N:Nat}{R:zd}{L:ze}{F M:zv}{T':zo}{G:zk}{w0:yp}
theorem skipU_ok:∀{l:zo} {E:SE},lS P b ops Q N (skipU ops N l E).1 ⟨(skipU ops N l E).2,L,R,F,M⟩->lS P b ops Q N l ⟨E,L,R,F,M⟩
 | [],_,h=>h
 | o::l,E,h=>by
  unfold skipU at h;split at h
  .rename_i j q k hg hd
   split at h
   .rename_i t hj hk
    split at h
    .rename_i v hN ht
     split at h
     .rename_i hv;intro a w ⟨G,S,h1,h2,h3⟩;unfold wpList;rw [wanted_nop h1 hg hj hN ht hv,if_neg (by decide),hd];exact skipU_ok h _ w ⟨G,S,h1.put hk undef,h2.cons trivial,h3⟩
     .exact h
    .exact h
   .exact h
  .exact h
theorem skipUD_ok:∀{l:List (Nat×yk)} {E:SE},gS P b ops Q N T' G w0 (skipUD ops N l E).1 (skipUD ops N l E).2->gS P b ops Q N T' G w0 l E
 | [],_,h=>h
 | (i,o)::l,E,h=>by
  unfold skipUD at h;split at h
  .rename_i j q k hg hd
   split at h
   .rename_i t hj hk
    split at h
    .rename_i v hN ht
     split at h
     .rename_i hv;intro hE a Fa ha hF;unfold wpG;rw [wanted_nop ha hg hj hN ht hv,if_neg (by decide)];dsimp only;rw [hd];exact skipUD_ok h (hE.cons (v:=.v undef) trivial) _ _ (ha.put hk undef) (hF.up rfl)
     .exact h
    .exact h
   .exact h
  .exact h
def l_skips{l l':zo}{E E':SE}(h:skipU ops N l E=(l',E'))(hn:lS P b ops Q N l' ⟨E',L,R,F,M⟩):lS P b ops Q N l ⟨E,L,R,F,M⟩:=skipU_ok (by rw [h];exact hn)
def g_skips{l l':List (Nat×yk)}{E E':SE}(h:skipUD ops N l E=(l',E'))(hn:gS P b ops Q N T' G w0 l' E'):gS P b ops Q N T' G w0 l E:=skipUD_ok (by rw [h];exact hn)
end
def hS(P:ym)(ops:zp)(Q:zx)(N:Nat)(T':zo)(G:zk)(w0:yp)(l:List (Nat×yk))(E:SE)(Fa:Told):Prop:=OkE E->gF P Bel ops (Up w0) (endG P ops Q (Up w0) T') l N (denE G E) Fa
section
variable{P:ym}{T:yw}{b:Base}{ops:zp}{Q:zx}{N:Nat}{G:zk}{S:zm}{E:SE}{L:ze}{R:zd}{F M:zv}{w0:yp}{T':zo}{Fa:Told}{i k:Nat}{o:yk}{rest:List (Nat×yk)}{l:zo}{id:Nat}{y:Code}
def s_regH(n:Nat)(hn:n<=l.length)(hm:P.follows .mixedOrders=true)(hB:tailH l.toArray n (l.drop n).length=true)
 (h:∀K:zw,(∀e',cS P b y Q N e'->kS b K N e')->∀G S w0,StW b G S L R F M w0->hS P l.toArray (Exit.then K Q) N (l.drop n) G w0 (idx 0 (l.take n)) E []):cS P b (.seq (.region id l.toArray true) y) Q N ⟨E,L,R,F,M⟩ :=
 s_regD n hn hm hB λK hK G S w0 hst=>h K hK G S w0 hst
def h_f(hst:StW b G S L R F M w0)(v:SV)(hv:v.Ok)(hf:farP i Fa=true)(h:∀(C0:zv) (Q':Act->Prop),(∀w,C0 w->View G S L R F M w/\Uses o Fa w)->bF P ops C0 Q' [] N ((k,v.den G)::denE G E)->bF P ops C0 Q' [o] N (denE G E))(hn:hS P ops Q N T' G w0 rest ((k,v)::E) Fa):hS P ops Q N T' G w0 ((i,o)::rest) E Fa:=λhE =>
 g_op hf (h _ _ (λ_ hw=>⟨(hst.later hw.1).view,hw.2⟩) (g_go (o:=o) (hn (hE.cons hv))))
def h_op(hst:StW b G S L R F M w0)(v:SV)(hv:v.Ok)(hf:farP i Fa=true)(hg:o.guard=none)(hd:o.dst=some k)(hk:aU k N=true)(h:∀(G:zk) (a:Act) (w:yp),Fr N (denE G E) a->(execOp a.eval o).run P w = .ok (.value (v.den G)) w)(hn:hS P ops Q N T' G w0 rest ((k,v)::E) Fa):hS P ops Q N T' G w0 ((i,o)::rest) E Fa :=
 h_f hst v hv hf (λ_ _ _ hQ=>f_val _ hg hd hk (λ_ ha w _=>h G _ w ha) hQ) hn
def h_opV(hst:StW b G S L R F M w0)(v:SV)(hv:v.Ok)(hf:farP i Fa=true)(hg:o.guard=none)(hd:o.dst=some k)(hk:aU k N=true)(h:∀(G:zk) (S:zm) (a:Act) (w:yp),Fr N (denE G E) a->View G S L R F M w->(execOp a.eval o).run P w = .ok (.value (v.den G)) w)(hn:hS P ops Q N T' G w0 rest ((k,v)::E) Fa):hS P ops Q N T' G w0 ((i,o)::rest) E Fa :=
 h_f hst v hv hf (λ_ _ hC hQ=>f_val _ hg hd hk (λ_ ha w hw=>h G S _ w ha (hC w hw).1) hQ) hn
def h_st{v:SV}(hT:OkT P T)(hst:StW b G S L R F M w0)(hE:OkE E)(hf:farP i Fa=true)(hg:o.guard=none)(hd:o.dst=some k)(hk:aU k N=true)(h:stepS T E L o.op=some v)(hn:hS P ops Q N T' G w0 rest ((k,v)::E) Fa):hS P ops Q N T' G w0 ((i,o)::rest) E Fa :=
 h_f hst v (stepS_ok hT (N:=N) (o:=o) hE hst.okL h).1 hf (λ_ _ hC hQ=>f_val _ hg hd hk (λ_ ha w hw=>(stepS_ok hT hE hst.okL h).2 ha λx hx=>((hC w hw).1.var x hx).1) hQ) hn
def autoH(T:yw)(ops:zp)(N:Nat)(L:ze)(Fa:Told):List (Nat×yk)->SE->List (Nat×yk)×SE
  | [],E=>([],E)
  | (i,o)::l,E=>match wantS ops N E o,farP i Fa,o.dst with
    | some false,true,some k=>match aU k N with
      | true=>autoH T ops N L Fa l ((k,.v undef)::E)
      | false=>((i,o)::l,E)
    | some true,true,some k=>match aU k N with
      | true=>match stepS T E L o.op with
        | some v=>autoH T ops N L Fa l ((k,v)::E)
        | none=>((i,bareO o)::l,E)
      | false=>((i,o)::l,E)
    | some true,true,none=>((i,bareO o)::l,E)
    | _,_,_=>((i,o)::l,E)
def h_bare(hw:wantS ops N E o=some true)(h:hS P ops Q N T' G w0 ((i,bareO o)::rest) E Fa):hS P ops Q N T' G w0 ((i,o)::rest) E Fa:=λhE a F ha hF=>by have hwt:=wantS_ok ha hw;have h1:=h hE a F ha hF;obtain⟨dst,op,ty,pos,af,gd⟩:=o;unfold wpG at h1 ⊢;rw [if_pos hwt];rw [if_pos (by rfl)] at h1;exact h1
def h_undef(hw:wantS ops N E o=some false)(hf:farP i Fa=true)(hd:o.dst=some k)(hk:aU k N=true)(h:hS P ops Q N T' G w0 rest ((k,.v undef)::E) Fa):hS P ops Q N T' G w0 ((i,o)::rest) E Fa:=λhE a F ha hF=>by have hwt:=wantS_ok ha hw;unfold wpG;rw [hwt,if_neg (by decide)];dsimp only;rw [hd];exact h (hE.cons (v:=.v undef) trivial) _ _ (ha.put hk undef) (hF.up hf)
theorem autoH_ok(hT:OkT P T)(hst:StW b G S L R F M w0):∀{l:List (Nat×yk)} {E:SE},OkE E->hS P ops Q N T' G w0 (autoH T ops N L Fa l E).1 (autoH T ops N L Fa l E).2 Fa->hS P ops Q N T' G w0 l E Fa
 | [],_,_,h=>h
 | (i,o)::l,E,hE,h=>by
  unfold autoH at h;split at h
  .rename_i k hw hf hd
   split at h
   .rename_i hk;exact h_undef hw hf hd hk (autoH_ok hT hst (hE.cons (v:=.v undef) trivial) h)
   .exact h
  .rename_i k hw hf hd
   split at h
   .rename_i hk
    split at h
    .rename_i v hv;have h2:=autoH_ok hT hst (hE.cons (stepS_ok hT (N:=N) (o:=bareO o) hE hst.okL hv).1) h;exact h_bare hw (h_st hT hst hE hf rfl hd hk hv h2)
    .exact h_bare hw h
   .exact h
  .rename_i hw hf hd;exact h_bare hw h
  .exact h
def h_auto{l l':List (Nat×yk)}{E':SE}(hT:OkT P T)(hst:StW b G S L R F M w0)(h:autoH T ops N L Fa l E=(l',E'))(hn:hS P ops Q N T' G w0 l' E' Fa):hS P ops Q N T' G w0 l E Fa:=λhE=>autoH_ok hT hst hE (by rw [h];exact hn) hE
def h_num{l:List (Nat×yk)}(k:Nat){K:yj}{m:Int}(n:Int)(h:lookS E k=some (.v (.int K m)))(he:m=n)(hn:hS P ops Q N T' G w0 l ((k,.v (.int K n))::E) Fa):hS P ops Q N T' G w0 l E Fa:=λhE=>by subst he;intro a F ha hF;exact hn (hE.cons trivial) a F (ha.more (ha.get k _ (by rw [look_den,h];rfl))) hF
def h_is{l:List (Nat×yk)}(k:Nat){t:Bool}(q:Bool)(h:lookS E k=some (.b t))(he:t=q)(hn:hS P ops Q N T' G w0 l ((k,.v (.bool q))::E) Fa):hS P ops Q N T' G w0 l E Fa:=λhE=>by subst he;intro a F ha hF;exact hn (hE.cons trivial) a F (ha.more (ha.get k _ (by rw [look_den,h];rfl))) hF
def h_end(hst:StW b G S L R F M w0)(h:lS P b ops Q N T' ⟨E,L,R,F,M⟩):hS P ops Q N T' G w0 [] E Fa:=λhE=>g_end λw hw _=>λa ha=>h a w ⟨G,S,ha,hE,hst.later hw⟩
end
section
variable{T:yw}{b:Base}{ops:zp}{Q:zx}{N:Nat}{G:zk}{S:zm}{E:SE}{L:ze}{R:zd}{F M:zv}{w0:yp}{T':zo}{Fa:Told}{i k e bs:Nat}{o:yk}{rest:List (Nat×yk)}
def h_litF{α:Type}{sz:Nat}(fe:α->SQ){t n:Nat}{parts:Array (Nat×yo)}(hT:OkT prog T)(l:List α)(hok:OkF sz fe l)(hg:o.guard=none)(hd:o.dst=some k)(hk:aU k N=true)(hf:farP i Fa=true)(ho:o.op = .buildSlice t n parts)(hs:slS T t=some (e,sz,bs))
 (hp:∀G:zk,parts.toList.map (λp=>(p.1,(evS E p.2).map (SV.den G)))=((l.map λx=>(fe x).den).zipIdx 0).map λx=>(x.2,some x.1))(hn:l.length=n)(h0:0<n*sz)(h24:n*sz<=16777216)
 (hc:∀g,hS prog ops Q N T' G w0 rest ((k,.v (.slice (some ⟨g,0,none⟩) n n))::E) ((i,λw=>Rd sz fe (some ⟨g,0,none⟩) n l w)::Fa)):hS prog ops Q N T' G w0 ((i,o)::rest) E Fa:=λhE=>by
 refine g_mem (λv w=>∃g,v = .slice (some ⟨g,0,none⟩) n n/\Rd sz fe (some ⟨g,0,none⟩) n l w) hg hd hk hf (by rw [ho];rfl) (λv w w' ⟨g,h1,h2⟩ hb=>⟨g,h1,h2.later hb⟩) (λa ha w _ _=>?_) λv w _ hv=>?_
 .obtain⟨ht,ie,z,hi,hz,hsz,_⟩:=slS_ok hT hs
  have hrun:=run_lit (P:=prog) ht hi hz hsz (l.map λx=>(fe x).den) n (parts.map λ(i,x)=>(i,a.eval x)) (by rw [jD];exact map_parts ha _ _ (hp G)) (by rw [aX,hn]) h0 h24 (λv hv=>by
   obtain⟨x,hx,rfl⟩:=aZ.1 hv;have:=(hok x hx).2
   rwa [SQ.cl,bG] at this) w
  have e1:((l.map λx=>(fe x).den).flatMap λv=>v.cells.toList)=flatF fe l:=by rw [flatF,List.flatMap_map];rfl
  rw [e1] at hrun;have h1:(execOp a.eval o).run prog w = .ok (.value (.slice (some ⟨w.heap.size,0,none⟩) n n)) (w.alloc (.cells (flatF fe l).toArray e)):=by unfold execOp;simp only [ho,aG,hrun,aC,aI]
  rw [h1];refine⟨(Below.refl w.heap.size w).alloc (aF _) _,w.heap.size,rfl,?_⟩;subst hn;have hm:l.length<=l.length*sz:=uP _ (Nat.pos_of_ne_zero λe=>by rw [e] at h0;omega);exact OwnS.rd (OwnS.new (lo:=0) w (aL _) hok (by omega))
 .obtain⟨g,rfl,h2⟩:=hv
  intro a F ha hF;refine hc g (hE.cons trivial) a F ha λx hx w hw=>?_;rcases aH.1 hx with rfl|hx
  .obtain⟨g',e,h3⟩:=hF _ aM w hw;cases e;exact h3
  .exact hF x (aK _ hx) w hw
def h_lit{t n:Nat}{parts:Array (Nat×yo)}(hT:OkT prog T)(l:zu)(hg:o.guard=none)(hd:o.dst=some k)(hk:aU k N=true)(hf:farP i Fa=true)(ho:o.op = .buildSlice t n parts)(hs:slS T t=some (e,1,bs))
 (hp:∀G:zk,parts.toList.map (λp=>(p.1,(evS E p.2).map (SV.den G)))=((l.map λx=>(eB x).den).zipIdx 0).map λx=>(x.2,some x.1))(hn:l.length=n)(h0:0<n)(h24:n<=16777216)
 (hc:∀g,hS prog ops Q N T' G w0 rest ((k,.v (.slice (some ⟨g,0,none⟩) n n))::E) ((i,λw=>Rd 1 eB (some ⟨g,0,none⟩) n l w)::Fa)):hS prog ops Q N T' G w0 ((i,o)::rest) E Fa :=
 h_litF eB hT l (okF_B l) hg hd hk hf ho hs hp hn (by omega) (by omega) hc
def h_parts{n:Nat}{parts:Array (Nat×yo)}(vs:zq)(ls:zy)(hst:StW b G S L R F M w0)(hg:o.guard=none)(hd:o.dst=some k)(hk:aU k N=true)(hf:farP i Fa=true)(ho:o.op = .buildSlice 37 n parts)
 (hv:parts.toList.map (λp=>(p.1,(evS E p.2).map (SV.den G)))=(vs.zipIdx 0).map λx=>(x.2,some x.1))(hn:vs.length=n)(h0:0<n)(h24:n<=16777216)(h:∀w,View G S L R F M w->Uses o Fa w->All2 w vs ls)
 (hc:∀g,hS prog ops Q N T' G w0 rest ((k,.v (.slice (some ⟨g,0,none⟩) n n))::E) ((i,λw=>PT w (some ⟨g,0,none⟩) ls)::Fa)):hS prog ops Q N T' G w0 ((i,o)::rest) E Fa:=λhE=>by
 have hv2:parts.toList.map (λp=>(p.1,ev (denE G E) p.2))=(vs.zipIdx 0).map λx=>(x.2,some x.1):=by
  have key:∀(l:List (Nat×yo)) (m:List (yl×Nat)),l.map (λp=>(p.1,(evS E p.2).map (SV.den G)))=m.map (λx=>(x.2,some x.1))->l.map (λp=>(p.1,ev (denE G E) p.2))=m.map λx=>(x.2,some x.1):=by
   intro l;induction l with
   | nil=>intro m h;cases m with
    | nil=>rfl
    | cons=>cases h
   | cons p l ih=>intro m h;cases m with
    | nil=>cases h
    | cons u m =>
     simp only [bA,fO,cK] at h ⊢;refine⟨⟨h.1.1,?_⟩,ih m h.2⟩
     cases hx:evS E p.2 with
     | none=>rw [hx] at h;cases h.1.2
     | some v =>
      rw [hx] at h;rw [evS_ok hx];exact h.1.2
  exact key _ _ hv
 refine g_slices vs ls 0 hg hd hk hf ho hv2 hn h0 h24 (λ_ _=>aL _) (λw hw hu=>h w (hst.later hw).view hu) λg w _ _=>?_
 intro a F ha hF
 refine hc g (hE.cons trivial) a F ha λx hx w hw=>?_
 rcases aH.1 hx with rfl|hx
 .exact(hF _ aM w hw).pt
 .exact hF x (aK _ hx) w hw
def h_call{f:yi}{xs:zg}{ats:zf}{svs:yu}{r:RV}(hst:StW b G S L R F M w0)(args:zq)(hf:farP i Fa=true)(hg:o.guard=none)(hd:o.dst=some k)(hk:aU k N=true)(how:Own f)(ho:o.op = .call { callee:=.value (.func f),args:=xs,argTypes:=ats })(hx:evSs E xs.toList=some svs)
 (ha:(∀x∈L,∀g,x.g=some g->G x.j=g)->svs.map (SV.den G)=args)(hr:r.sv.Ok)(hs:∀w,View G S L R F M w->Uses o Fa w->Calls prog f args.toArray w λe w'=>e = .returned r.den/\Below w.heap.size w w')
 (hn:hS prog ops Q N T' G w0 rest ((k,r.sv)::E) Fa):hS prog ops Q N T' G w0 ((i,o)::rest) E Fa:=by
 refine h_f hst r.sv hr hf (λC0 Q' hC hQ=>?_) hn;rw [RV.sv_den] at hQ;exact f_call args.toArray r.den hg hd hk how (λw hw=>hs w (hC w hw).1 (hC w hw).2) ho (by rw [evSs_ok hx,ha λx hx=>(hst.var x hx).2.2]) hQ
def h_callE{α:Type}{post:Post α}{F':zv}[Pst F'][hP:∀x,Pst (post.p x)]{f:yi}{xs:zg}{ats:zf}{svs:yu}(hst:StW b G S L R F M w0)(args:zq)(hf:farP i Fa=true)(hg:o.guard=none)(hd:o.dst=some k)(hk:aU k N=true)(how:Own f)(ho:o.op = .call { callee:=.value (.func f),args:=xs,argTypes:=ats })(hx:evSs E xs.toList=some svs)
 (ha:(∀x∈L,∀g,x.g=some g->G x.j=g)->svs.map (SV.den G)=args)(hs:Spec f args [] F' post)(hF:∀w,View G S L R F M w->Uses o Fa w->F' w)
 (hn:∀x,(post.ret x).sv.Ok->hS prog ops Q N T' G w0 rest ((k,(post.ret x).sv)::E) ((i,λw=>∃y,(post.ret x).den=(post.ret y).den/\post.p y w)::Fa)):hS prog ops Q N T' G w0 ((i,o)::rest) E Fa:=λhE=>by
 refine g_call args.toArray (λv w=>∃x,v=(post.ret x).den/\(post.ret x).sv.Ok/\post.p x w) hg hd hk hf (λv w w' ⟨x,h1,h2,h3⟩ hb=>⟨x,h1,h2,(hP x).later _ _ h3 hb⟩) how (λw hw hu=>?_) ho (by rw [evSs_ok hx,ha λx hx=>(hst.var x hx).2.2]) λv w _ hv=>?_
 .refine(hs w (λ_=>False) (λ_=>False) (λ_ h=>h) (λ_ h=>h.elim) (Stb.of_pst (hF w (hst.later hw).view hu) λ_ _ h=>h.elim id id)).mono ?_;rintro e w' ⟨x,S',h1,h2,h3,h4,h5,h6,h7⟩;exact⟨_,h1,⟨x,rfl,h2,h6.now⟩,h3.up λ_ _ h=>h⟩
 .obtain⟨x,rfl,hok,_⟩:=hv
  intro a F ha hF;refine hn x hok (hE.cons hok) a F (by rw [denE,RV.sv_den];exact ha) λy hy w hw=>?_;rcases aH.1 hy with rfl|hy
  .obtain⟨z,e,_,h3⟩:=hF _ aM w hw;exact⟨z,e,h3⟩
  .exact hF y (aK _ hy) w hw
def h_callS{F':zv}{f:yi}{xs:zg}{ats:zf}{svs:yu}{r:RV}[Pst F'](hst:StW b G S L R F M w0)(args:zq)(hf:farP i Fa=true)(hg:o.guard=none)(hd:o.dst=some k)(hk:aU k N=true)(how:Own f)(ho:o.op = .call { callee:=.value (.func f),args:=xs,argTypes:=ats })(hx:evSs E xs.toList=some svs)
 (ha:(∀x∈L,∀g,x.g=some g->G x.j=g)->svs.map (SV.den G)=args)(hr:r.sv.Ok)(hs:Spec f args [] F' (one r))(hF:∀G S w,View G S L R F M w->F' w)
 (hn:hS prog ops Q N T' G w0 rest ((k,r.sv)::E) Fa):hS prog ops Q N T' G w0 ((i,o)::rest) E Fa :=
 h_call hst args hf hg hd hk how ho hx ha hr (λw hv _=>(hs w (λ_=>False) (λ_=>False) (λ_ h=>h) (λ_ h=>h.elim) (Stb.of_pst (hF _ _ _ hv) λ_ _ h=>h.elim id id)).mono λ_ _ ⟨_,_,h1,_,h2,_⟩=>⟨h1,h2.up λ_ _ h=>h⟩) hn
end
section
variable{P:ym}{Q:zx}
def tupEnd(P:ym)(Q:zx)(w:yp)(t t2:Tmp)(ty:yn)(x y:yo)(n:Nat)(a':Act):Prop :=
  ∃(cells:zr) (v2:yl),(∀v,(a'.put (some t) v).eval (.tmp t)=v)/\(∀v,(a'.put (some t) v).eval x = .agg cells)/\(∀v,(a'.put (some t) v).eval y=v2)/\n=cells.size/\(P.info? ty).map (·.size)=some cells.size/\(∀v∈cells.toList,v.oneCell'=true) /\
    ∀g w',w.heap.size<=g->Up w w'->Blk w' g ty cells->Q .normal ((a'.put (some t) (.pointer (some ⟨g,0,none⟩))).put (some t2) v2) w'
def reg_tup{id:Nat}{a:Act}{w:yp}{l:zo}{oa os ot:yk}(n:Nat)(t t2:Tmp)(ty:yn)(x y:yo)(zs:zr)(hl:l=l.take n++[oa,os,ot])(hn:(l.take n).length=n)
 (hop:os.op = .store ty (.tmp t) x)(hot:ot.op = .assign y)(hsg:os.guard=none)(htg:ot.guard=none)(hsd:os.dst=none)(htd:ot.dst=some t2)(hag:oa.guard=none)(had:oa.dst=some t)(hm:P.follows .mixedOrders=true)
 (hs:iA l.toArray=true)(hh:headC .any l.toArray n l 0=true)(hch:chainB .any l 0 none=true)
 (hr0:a9 .any l.toArray (marks n 0 (bB l.toArray.size false))=[n])
 (hr1:a9 .any l.toArray ((marks n 0 (bB l.toArray.size false)).setIfInBounds n true)=[n+1])
 (hr2:a9 .any l.toArray (((marks n 0 (bB l.toArray.size false)).setIfInBounds n true).setIfInBounds (n+1) true)=[n+2])
 (hr3:a9 .any l.toArray ((((marks n 0 (bB l.toArray.size false)).setIfInBounds n true).setIfInBounds (n+1) true).setIfInBounds (n+2) true)=[])
 (hQ:∀c a d v w,Q (.panic c) (a.put d v) w->Q (.panic c) a w)
 (hrun:∀(a:Act) w,(execOp a.eval oa).run P w = .ok (.value (.pointer (some ⟨w.heap.size,0,none⟩))) (w.alloc (.cells zs ty)))
 (h:wpB P l.toArray (Up w) (tupEnd P Q w t t2 ty x y zs.size) (l.take n) a):(Code.region id l.toArray true).wp P Q a w:=by
 have hB:headB .any l.toArray n 0 (bB l.toArray.size false)=true:=headB_of (by simpa using hch) n l 0 _ Inv.start (by simp) hh;generalize l.take n=L at *;subst hl;subst hn;refine wp_region_any hm ?_
 have hoa:(L++[oa,os,ot]).toArray[L.length]?=some oa:=by simp
 have hos:(L++[oa,os,ot]).toArray[L.length+1]?=some os:=by simp
 have hoT:(L++[oa,os,ot]).toArray[L.length+2]?=some ot:=by simp
 have hz:(L++[oa,os,ot]).toArray.size=3+L.length:=by simp;omega
 have hG:wpAnyU P .any (L++[oa,os,ot]).toArray (Up w) Q (3+L.length) 0 (3+L.length) w.drew (bB (L++[oa,os,ot]).toArray.size false) a:=by
  refine wpAnyU_head (λ_ _ h k=>h.step k) hs hQ 3 w.drew (Up.drew w) L 0 _ a (Closed.none _) (by omega) (λj hj=>by simp [cW hj]) hB ?_;refine wpB_mono (λa' h'=>⟨by rw [hr0];exact qU _ _,λi hi=>?_⟩) L a h;rw [hr0,aD] at hi;subst hi;obtain⟨cells,v2,h1,h2,h2y,hsz,hi,ho,hk⟩:=h';refine wpAnyU_new (base:=w.heap.size) hoa hag hrun (λ_ _ h k=>h.step k) (λ_ h=>h.size) (Up.drew w) λw1 hw1 hC1 hp=>⟨by rw [hr1];exact qU _ _,λi hi=>?_⟩;have hb1:Blk (w1.alloc (.cells zs ty)) w1.heap.size ty zs:=Blk.new w1 _ _;rw [hr1,aD] at hi;subst hi;rw [had];generalize w1.heap.size=g at *;intro w2 hw2;have hb2:=hb1.later hw2;have hC2:Up w w2:=(hC1.alloc _).step hw2;unfold wpOp;simp only [hos];rw [if_pos (by simp [aQ,hsg])];refine .inl ?_;have hst:=run_store_row (P:=P) w2 ty g cells zs ty hb2 (by rw [hi]) hsz ho;unfold fT execOp;simp only [hop,h1,h2,aG,hst,aC,aI,fB];rw [hsd];have hC3:Up w (w2.setRow g cells):=up_row hC2 hp _;have hb3:Blk (w2.setRow g cells) g ty cells:=hb2.row _;refine⟨hC3,by rw [hr2];exact qU _ _,λi hi=>?_⟩;rw [hr2,aD] at hi;subst hi;intro w4 hw4;have hb4:=hb3.later hw4;have hC4:Up w w4:=hC3.step hw4;unfold wpOp;simp only [hoT];rw [if_pos (by simp [aQ,htg])];refine .inl ?_;unfold fT execOp;simp only [hot,aI,fB];refine⟨hC4,?_⟩;refine⟨λj hj=>?_,λw5 hw5=>⟨hr3,?_⟩⟩
  .rw [hr3] at hj;cases hj
  rw [htd];have e:(Act.put (Act.put a' (some t) (.pointer (some ⟨g,0,none⟩))) none undef).eval y=v2:=h2y _;rw [e];exact hk g w5 hp (hC4.step hw5) (hb4.later hw5)
 have h2:=wpAny_of_U (3+L.length) _ a w.drew hG;rw [aY,<-hz] at h2;exact h2
end
section
variable{P:ym}{Q:zx}{N:Nat}{E:List (Nat×yl)}{w:yp}
def c_tup{id:Nat}{l:zo}{oa os ot:yk}(n:Nat)(t t2:Tmp)(ty:yn)(x y:yo)(zs:zr)(hl:l=l.take n++[oa,os,ot])(hn:(l.take n).length=n)
 (hop:os.op = .store ty (.tmp t) x)(hot:ot.op = .assign y)(hsg:os.guard=none)(htg:ot.guard=none)(hsd:os.dst=none)(htd:ot.dst=some t2)(hag:oa.guard=none)(had:oa.dst=some t)(hm:P.follows .mixedOrders=true)
 (hs:iA l.toArray=true)(hh:headC .any l.toArray n l 0=true)(hch:chainB .any l 0 none=true)
 (hr0:a9 .any l.toArray (marks n 0 (bB l.toArray.size false))=[n])
 (hr1:a9 .any l.toArray ((marks n 0 (bB l.toArray.size false)).setIfInBounds n true)=[n+1])
 (hr2:a9 .any l.toArray (((marks n 0 (bB l.toArray.size false)).setIfInBounds n true).setIfInBounds (n+1) true)=[n+2])
 (hr3:a9 .any l.toArray ((((marks n 0 (bB l.toArray.size false)).setIfInBounds n true).setIfInBounds (n+1) true).setIfInBounds (n+2) true)=[])
 (hQ:∀c a d v w,Q (.panic c) (a.put d v) w->Q (.panic c) a w)(hoa:oa.op = .alloc ty)(hz:(P.info? ty).bind (λi=>i.zero.map (·.cells))=some zs)
 (h:bF P l.toArray (Up w) (tupEnd P Q w t t2 ty x y zs.size) (l.take n) N E):cF P (.region id l.toArray true) Q N E w:=λa ha =>
 reg_tup n t t2 ty x y zs hl hn hop hot hsg htg hsd htd hag had hm hs hh hch hr0 hr1 hr2 hr3 hQ (exec_alloc hoa hz) (h a ha)
def f_tupEnd{ops:zp}{t t2:Tmp}{ty:yn}{x y:yo}{n:Nat}(cells:zr)(v2:yl)(ht:aU t N=true)(ht2:aU t2 N=true)(hx:∀v,ev ((t,v)::E) x=some (.agg cells))(hy:∀v,ev ((t,v)::E) y=some v2)(hn:n=cells.size)
 (hi:(P.info? ty).map (·.size)=some cells.size)(h1:∀v∈cells.toList,v.oneCell'=true)(h:∀g w',w.heap.size<=g->Up w w'->Blk w' g ty cells->kF (Q .normal) N ((t2,v2)::(t,.pointer (some ⟨g,0,none⟩))::E) w') :
  bF P ops (Up w) (tupEnd P Q w t t2 ty x y n) [] N E:=λa ha=>wpB_nil ⟨cells,v2,λv=>(ha.put ht v).get t v (by rw [look_cons,if_pos rfl]),λv=>(ha.put ht v).eval (hx v),λv=>(ha.put ht v).eval (hy v),hn,hi,h1,
   λg w' hg hU hb=>h g w' hg hU hb _ ((ha.put ht _).put ht2 _)⟩
end
def run_andB{P:ym}{t:yn}{K:yj}{m n:Int}{w:yp}:(binOp .and t (.int K m) (.int K n)).run P w = .ok (.int K (bits .and K m n)) w:=by cases K<;>go_simp
def run_orB{P:ym}{t:yn}{K:yj}{m n:Int}{w:yp}:(binOp .or t (.int K m) (.int K n)).run P w = .ok (.int K (bits .or K m n)) w:=by cases K<;>go_simp
def run_xorB{P:ym}{t:yn}{K:yj}{m n:Int}{w:yp}:(binOp .xor t (.int K m) (.int K n)).run P w = .ok (.int K (bits .xor K m n)) w:=by cases K<;>go_simp
def Arr(t:yn)(n:Nat):Prop:=∃e,prog.underlying t=some (.array n e)/\(prog.info? e).map (·.size)=some 1
def arr32:Arr 47 32:=⟨_,underlying47,by kernel_rfl⟩
def arr64:Arr 67 64:=⟨_,underlying67,by kernel_rfl⟩
def lenA(t:yn):zh:=match bW t 47 with
  | true=>some 32
  | false=>match bW t 67 with
    | true=>some 64
    | false=>none
def lenA_ok{t:yn}{n:Nat}(h:lenA t=some n):Arr t n:=by
 unfold lenA at h;split at h
 .rename_i e;cases h;exact(aO e:t=_)▸arr32
 .split at h
  .rename_i e;cases h;exact(aO e:t=_)▸arr64
  .cases h
def bndS(E:SE)(x:Option yo)(n:Nat):zh:=match x with
  | none=>some n
  | some y=>match evS E y with
    | some (.q (.c (.v (.int _ (.ofNat k)))))=>some k
    | _=>none
def run_bound{P:ym}{K:yj}{i y:Nat}{code:BoundsCode}(h:i<=y)(w:yp):(Instr.sliceBound (.int K (i:Int)) y code).run P w = .ok i w:=by
 have h1:(0:Int)<=i/\(i:Int)<=y:=by omega
 simp only [Instr.sliceBound,asIntOf,aG,aI,aC,h1,and_self,if_true,Int.toNat_natCast]
def bndS_ok{E:SE}{x:Option yo}{n m:Nat}(h:bndS E x n=some m):x=none/\m=n\/∃y K,x=some y/\evS E y=some (.v (.int K (m:Int))):=by
 unfold bndS at h;split at h
 .cases h;exact .inl ⟨rfl,rfl⟩
 .split at h
  .rename_i y _ K k hy;cases h;exact .inr ⟨y,K,rfl,hy⟩
  .cases h
def run_cutA{P:ym}{t e:yn}{g off n l h:Nat}{lo hi:Option yl}(ht:P.underlying t=some (.array n e))(he:(P.info? e).map (·.size)=some 1)(hl:lo=none/\l=0\/∃K,lo=some (.int K (l:Int)))(hh:hi=none/\h=n\/∃K,hi=some (.int K (h:Int)))(h1:l<=h)(h2:h<=n)(h3:l<n)(w:yp) :
  (sX t (.pointer (some ⟨g,off,none⟩)) lo hi none).run P w = .ok (.slice (some ⟨g,off+l,none⟩) (h-l) (n-l)) w:=by
 have h5:=run_sizeOf he w
 have h6:¬n=l:=by omega
 have hu:=run_underlying (P:=P) ht (w:=w);have hb:=λc=>run_bound (P:=P) (K:=.i64) (i:=h) (y:=n) (code:=c) h2 w
 rcases hl with⟨rfl,rfl⟩|⟨K,rfl⟩<;>rcases hh with⟨rfl,rfl⟩|⟨K2,rfl⟩ <;>
  simp [sX,fX,hu,Instr.sliceBounds,h5,run_bound h2,run_bound h1,aG,cQ,h6]
def moreS(E:SE):Op->Option SV
  | .binOp op _ x y _=>match evS E x,evS E y with
    | some (.q (.c (.v (.int K m)))),some (.q (.c (.v (.int K' n))))=>match op,ikB K K',n with
      | .and,true,_=>some (.v (.int K (bits .and K m n)))
      | .or,true,_=>some (.v (.int K (bits .or K m n)))
      | .xor,true,_=>some (.v (.int K (bits .xor K m n)))
      | .shl,_,.ofNat c=>some (.v (.int K (K.wrap (m*2^min c K.bits))))
      | .shr,_,.ofNat c=>some (.v (.int K (m.fdiv (2^min c K.bits))))
      | _,_,_=>none
    | _,_=>none
  | .unOp .xor _ x=>match evS E x with
    | some (.q (.c (.v (.int K n))))=>some (.v (.int K (bits .xor K (if K.signed then -1 else K.max) n)))
    | _=>none
  | .slice t x lo hi none=>match evS E x,lenA t with
    | some (.a j off),some n=>match bndS E lo 0,bndS E hi n with
      | some l,some h=>match tH l h,tH h n,aU l n with
        | true,true,true=>some (.s j (off+l) (h-l) (n-l))
        | _,_,_=>none
      | _,_=>none
    | _,_=>none
  | .sliceToArrayPointer t x=>match evS E x,lenA t with
    | some (.s j off n _),some m=>match tH m n with
      | true=>some (.a j off)
      | false=>none
    | _,_=>none
  | _=>none
def moreS_ok{E:SE}{N:Nat}{o:yk}{v:SV}(h:moreS E o.op=some v):v.Ok/\∀(G:zk) (a:Act) (w:yp),Fr N (denE G E) a->(execOp a.eval o).run prog w = .ok (.value (v.den G)) w:=by
 obtain⟨dst,op,ty,pos,af,gd⟩:=o;dsimp only at h;unfold moreS at h;split at h
 .rename_i op t x y _
  split at h
  .rename_i K m K' n hx hy
   have go:∀u:yl,(∀w,(binOp op t (.int K m) (.int K' n)).run prog w = .ok u w)->op ≠ .eql->op ≠ .neq->∀(G:zk) (a:Act) (w:yp),Fr N (denE G E) a->(execOp a.eval (⟨dst,.binOp op t x y ‹_›,ty,pos,af,gd⟩:yk)).run prog w = .ok (.value ((SV.v u).den G)) w:=λu hu h1 h2 G a w ha=>by have e1:=ha.eval (evS_ok (G:=G) hx);have e2:=ha.eval (evS_ok (G:=G) hy);unfold execOp;simp only [e1,e2,SV.den,SQ.den,SC.den];cases op<;>first|(exact absurd rfl h1)|(exact absurd rfl h2)|simp [eqGuard,hu]
   split at h
   .rename_i h1;cases h;obtain rfl:=ikB_ok h1;exact⟨trivial,go _ (λw=>run_andB) (by simp) (by simp)⟩
   .rename_i h1;cases h;obtain rfl:=ikB_ok h1;exact⟨trivial,go _ (λw=>run_orB) (by simp) (by simp)⟩
   .rename_i h1;cases h;obtain rfl:=ikB_ok h1;exact⟨trivial,go _ (λw=>run_xorB) (by simp) (by simp)⟩
   .cases h;exact⟨trivial,go _ (λw=>by simp only [binOp,Op.shift];rw [if_neg (by simp)];rfl) (by simp) (by simp)⟩
   .cases h;exact⟨trivial,go _ (λw=>by simp only [binOp,Op.shift];rw [if_neg (by simp)];rfl) (by simp) (by simp)⟩
   .cases h
  .cases h
 .rename_i t x
  split at h
  .rename_i K n hx;cases h;refine⟨trivial,λG a w ha=>?_⟩;have e1:=ha.eval (evS_ok (G:=G) hx);unfold execOp;simp only [e1,SV.den,SQ.den,SC.den];cases K<;>go_simp
  .cases h
 .rename_i t x lo hi
  split at h
  .rename_i j off n hx hn
   split at h
   .rename_i l m hl hm
    split at h
    .rename_i c1 c2 c3
     cases h;refine⟨trivial,λG a w ha=>?_⟩;obtain⟨e,ht,he⟩:=lenA_ok hn;have e1:a.eval x = .pointer (some ⟨G j,off,none⟩):=ha.eval (evS_ok hx);have go:∀{y:Option yo} {q d:Nat},bndS E y d=some q->y.map a.eval=none/\q=d\/∃K,y.map a.eval=some (.int K (q:Int)):=λh=>by
      rcases bndS_ok h with⟨rfl,h9⟩|⟨u,K,rfl,h9⟩
      .exact .inl ⟨rfl,h9⟩
      .exact .inr ⟨K,congrArg some (ha.eval (evS_ok h9))⟩
     have hr:=run_cutA (P:=prog) (g:=G j) (off:=off) ht he (go hl) (go hm) (aE c1) (aE c2) (aE c3) w;unfold execOp;simp only [e1,Option.map_none,hr,aG,aI,aC];rfl
    .cases h
   .cases h
  .cases h
 .rename_i t x
  split at h
  .rename_i j off n c m hx hm
   split at h
   .rename_i c1;cases h;refine⟨trivial,λG a w ha=>?_⟩;obtain⟨e,ht,he⟩:=lenA_ok hm;have e1:a.eval x = .slice (some ⟨G j,off,none⟩) n c:=ha.eval (evS_ok hx);have hu:=run_underlying (P:=prog) ht (w:=w);unfold execOp;simp only [e1,Instr.arrayAt,aG,hu,aC];rw [if_neg (Nat.not_lt.2 (aE c1))];rfl
   .cases h
  .cases h
 .cases h
def autoXL(ops:zp)(N:Nat):Nat->zo->SE->ze->zo×SE×ze
  | 0,l,E,L=>autoS TY ops N l E L
  | f+1,l,E,L=>match autoS TY ops N l E L with
    | (o::l',E',L')=>match o.guard,o.dst,moreS E' o.op with
      | none,some k,some v=>match aU k N with
        | true=>autoXL ops N f l' ((k,v)::E') L'
        | false=>(o::l',E',L')
      | _,_,_=>(o::l',E',L')
    | ([],E',L')=>([],E',L')
def autoXN(ops:zp)(N:Nat)(L:ze):Nat->zo->SE->zo×SE
  | 0,l,E=>autoN TY ops N L l E
  | f+1,l,E=>match autoN TY ops N L l E with
    | (o::l',E')=>match o.guard,o.dst,moreS E' o.op with
      | none,some k,some v=>match aU k N with
        | true=>autoXN ops N L f l' ((k,v)::E')
        | false=>(o::l',E')
      | _,_,_=>(o::l',E')
    | ([],E')=>([],E')
section
variable{b:Base}{ops:zp}{Q:zx}{N:Nat}{G:zk}{S:zm}{R:zd}{F M:zv}{w0:yp}{Z:Act->Prop}
theorem autoXL_ok:∀{f:Nat} {l:zo} {E:SE} {L:ze},lS prog b ops Q N (autoXL ops N f l E L).1 ⟨(autoXL ops N f l E L).2.1,(autoXL ops N f l E L).2.2,R,F,M⟩->lS prog b ops Q N l ⟨E,L,R,F,M⟩
 | 0,_,_,_,h=>autoS_ok zY h
 | f+1,l,E,L,h=>by
  unfold autoXL at h;refine autoS_ok zY ?_;split at h
  .rename_i o l' E' L' e
   rw [e];split at h
   .rename_i k v hg hd hv
    split at h
    .rename_i hk;exact l_op v (moreS_ok (N:=N) hv).1 hg hd hk (moreS_ok hv).2 (autoXL_ok h)
    .exact h
   .exact h
  .rename_i E' L' e;rw [e];exact h
theorem autoXN_ok{L:ze}(hst:StW b G S L R F M w0):∀{f:Nat} {l:zo} {E:SE},OkE E->nS prog ops N w0 Z G (autoXN ops N L f l E).1 (autoXN ops N L f l E).2->nS prog ops N w0 Z G l E
 | 0,_,_,hE,h=>autoN_ok zY hst hE h
 | f+1,l,E,hE,h=>by
  unfold autoXN at h;refine n_auto zY hst rfl ?_;split at h
  .rename_i o l' E' e
   rw [e];split at h
   .rename_i k v hg hd hv
    split at h
    .rename_i hk;exact n_op hst v (moreS_ok (N:=N) hv).1 hg hd hk (moreS_ok hv).2 λhE'=>autoXN_ok hst hE' h hE'
    .exact h
   .exact h
  .rename_i E' e;rw [e];exact h
def l_auto2{l l':zo}{E E':SE}{L L':ze}(h:autoXL ops N l.length l E L=(l',E',L'))(hn:lS prog b ops Q N l' ⟨E',L',R,F,M⟩):lS prog b ops Q N l ⟨E,L,R,F,M⟩:=autoXL_ok (by rw [h];exact hn)
def n_auto2{L:ze}(hst:StW b G S L R F M w0){l l':zo}{E E':SE}(h:autoXN ops N L l.length l E=(l',E'))(hn:nS prog ops N w0 Z G l' E'):nS prog ops N w0 Z G l E:=λhE=>autoXN_ok hst hE (by rw [h];exact hn) hE
end
def callB(N:Nat)(E:SE)(o:yk):Option (Nat×yi×yu):=match o.guard,o.dst,o.op with
  | none,some k,.call { callee:=.value (.func f),args:=xs,argTypes:=_ }=>match aU k N with
    | true=>match evSs E xs.toList with
      | some vs=>some (k,f,vs)
      | none=>none
    | false=>none
  | _,_,_=>none
def callB_ok{N:Nat}{E:SE}{o:yk}{k:Nat}{f:yi}{vs:yu}(h:callB N E o=some (k,f,vs)):o.guard=none/\o.dst=some k/\aU k N=true/\∃xs ats,o.op = .call { callee:=.value (.func f),args:=xs,argTypes:=ats }/\evSs E xs.toList=some vs:=by
 unfold callB at h;split at h
 .rename_i k' f' xs ats hg hd ho
  split at h
  .rename_i hk
   split at h
   .rename_i us hu;injection h with h;injection h with h1 h;injection h with h2 h3;subst h1 h2 h3;exact⟨hg,hd,hk,xs,ats,ho,hu⟩
   .cases h
  .cases h
 .cases h
def nextN(ops:zp)(N:Nat)(L:ze)(l:zo)(E:SE):Option (zo×SE×Nat×yi×yu):=match autoXN ops N L l.length l E with
  | (o::l',E')=>match callB N E' o with
    | some (k,f,vs)=>some (l',E',k,f,vs)
    | none=>none
  | _=>none
def nextL(ops:zp)(N:Nat)(l:zo)(E:SE)(L:ze):Option (zo×SE×ze×Nat×yi×yu):=match autoXL ops N l.length l E L with
  | (o::l',E',L')=>match callB N E' o with
    | some (k,f,vs)=>some (l',E',L',k,f,vs)
    | none=>none
  | _=>none
structure Ct{α:Type}(F:zv)(f:yi)(qs:yq)(post:Post α):Prop where
  own:Own f
  spec:Spec f (qs.map SQ.den) [] F post
section
variable{b:Base}{ops:zp}{Q:zx}{N:Nat}{G:zk}{S:zm}{E E':SE}{L L':ze}{R:zd}{F M:zv}{w0:yp}{Z:Act->Prop}{l l':zo}{k:Nat}{α:Type}{post:Post α}{f:yi}{qs:yq}
def den_q(qs:yq)(G:zk):(qs.map SV.q).map (SV.den G)=qs.map SQ.den:=by rw [List.map_map];rfl
def n_X[Pst F](hst:StW b G S L R F M w0)(c:Ct F f qs post)(h:nextN ops N L l E=some (l',E',k,f,qs.map SV.q))(hn:∀x,nS prog ops N w0 Z G l' ((k,(post.ret x).sv)::E')):nS prog ops N w0 Z G l E:=by
 unfold nextN at h;split at h
 .rename_i o l2 E2 h2
  split at h
  .rename_i k2 f2 v2 h3
   simp only [a8,cK] at h;obtain⟨rfl,rfl,rfl,rfl,rfl⟩:=h;obtain⟨hg,hd,hk,xs,ats,ho,hx⟩:=callB_ok h3;refine n_auto2 hst h2 λhE=>?_;refine f_callV (qs.map SQ.den).toArray (λv=>∃x,(post.ret x).sv.Ok/\v=(post.ret x).den) hg hd hk c.own (λw hw=>(c.spec w (λ_=>False) (λ_=>False) (λ_ h=>h) (λ_ h=>h.elim) (Stb.of_pst (hst.later hw).view.fact λ_ _ h=>h.elim id id)).mono ?_) ho (by rw [evSs_ok hx,den_q]) ?_
   .rintro e w2 ⟨x,_,h1,h2,h3,_⟩;exact⟨_,h1,⟨x,h2,rfl⟩,h3.up λ_ _ h=>h⟩
   .rintro _ ⟨x,hx,rfl⟩;have h:=hn x (hE.cons hx);rw [show denE G ((k2,(post.ret x).sv)::E2)=(k2,(post.ret x).den)::denE G E2 by rw [denE,RV.sv_den]] at h;exact h
  .cases h
 .cases h
def l_X(c:Ct F f qs post)(ho:∀x,post.own x=[])(h:nextL ops N l E L=some (l',E',L',k,f,qs.map SV.q))(hn:∀x,lS prog b ops Q N l' ⟨(k,(post.ret x).sv)::E',L',R,F,M⟩):lS prog b ops Q N l ⟨E,L,R,F,M⟩:=by
 unfold nextL at h;split at h
 .rename_i o l2 E2 L2 h2
  split at h
  .rename_i k2 f2 v2 h3;simp only [a8,cK] at h;obtain⟨rfl,rfl,rfl,rfl,rfl,rfl⟩:=h;obtain⟨hg,hd,hk,xs,ats,ho',hx⟩:=callB_ok h3;refine l_auto2 h2 (l_callA (own:=[]) (qs.map SQ.den) hg hd hk c.own ho' hx (λG _=>den_q qs G) c.spec (λw h _=>h) λx=>?_);rw [ho x];exact λa w ⟨G,S,h1,h2,h3⟩=>hn x a w ⟨G,S,h1,h2,{ h3 with fact:=h3.fact.imp λ_ h=>h.2,fresh:=h3.fresh.imp λ_ h=>h.2 }⟩
  .cases h
 .cases h
end
def zT(t:yn):zb:=match findT TY t with
  | some r=>r.zero
  | none=>[]
def nvs(us:List (Nat×yn)):yt:=us.map λu=>⟨u.1,u.2,catP (zT u.2)⟩
def nvB(N:Nat):zo->List (Nat×yn)->Bool
  | _,[]=>true
  | [],_::_=>false
  | o::l,u::us=>match o.guard,o.dst,o.op with
    | none,some k,.alloc t=>bW k u.1&&aU k N&&bW t u.2&&(findT TY t).isSome&&nvB N l us
    | _,_,_=>false
theorem zT_ok{t:yn}(h:(findT TY t).isSome=true):∃r,findT TY t=some r/\r.ok prog/\r.t=t/\zT t=r.zero:=by
 unfold zT;cases hr:findT TY t with
 | none=>rw [hr] at h;cases h
 | some r=>exact⟨r,rfl,(findT_ok zY hr).1,(findT_ok zY hr).2,rfl⟩
theorem nvB_ok{N:Nat}:∀{l:zo} {us:List (Nat×yn)},nvB N l us=true->nvOk prog N l (nvs us)
 | _,[],_=>by unfold nvs;simp [nvOk]
 | [],_::_,h=>by cases h
 | o::l,u::us,h=>by
  unfold nvB at h;split at h
  .rename_i k t hg hd ho;simp only [aN] at h;obtain⟨⟨⟨⟨h1,h2⟩,h3⟩,h4⟩,h5⟩:=h;obtain rfl:=aO h1;obtain rfl:=aO h3;obtain⟨r,hr,hok,ht,hz⟩:=zT_ok h4;obtain⟨it,d,h6,h7,h8,h9,_⟩:=hok.info;refine⟨⟨hg,hd,h2,ho,?_⟩,nvB_ok h5⟩;show(prog.info? u.2).bind _=some (catP (zT u.2));rw [hz,<-ht,h6,Option.bind_some,h9]
  .cases h
def newRB(N n:Nat)(l:zo)(us:List (Nat×yn)):Bool:=tH (n+us.length) l.length&&tsApart (nvs us)&&nvB N (l.drop n) us&&tailB l.toArray n us.length (l.drop (n+us.length)).length&&newC l.toArray n (marks us.length n (marks n 0 (bB l.toArray.size false))) us.length (dV us.length) (marks n 0 (bB l.toArray.size false))
def stX:List (Nat×yn)->zo->Option (List yo×zo)
  | [],T=>some ([],T)
  | u::us,o::T=>match o.guard,o.dst,o.op with
    | none,none,.store t (.tmp k) y=>match bW t u.2,bW k u.1,stX us T with
      | true,true,some (xs,T2)=>some (y::xs,T2)
      | _,_,_=>none
    | _,_,_=>none
  | _,[]=>none
theorem stX_ok:∀{us:List (Nat×yn)} {T T2:zo} {xs:List yo},stX us T=some (xs,T2)->stOk (nvs us) xs T T2
 | [],_,_,_,h=>by cases h;rfl
 | _::_,[],_,_,h=>by cases h
 | u::us,o::T,T2,xs,h=>by
  unfold stX at h;split at h
  .rename_i t k y hg hd ho
   split at h
   .rename_i ys T3 h1 h2 h3;cases h;obtain rfl:=aO h1;obtain rfl:=aO h2;exact⟨⟨hg,hd,ho⟩,stX_ok h3⟩
   .cases h
  .cases h
def mkV(E:SE):List (Nat×yn)->List yo->Option ze
  | [],[]=>some []
  | u::us,x::xs=>match evS E x,mkV E us xs with
    | some (.q (.p ps)),some vs=>match bW (sizeP ps) (sizeP (zT u.2)),(findT TY u.2).isSome,lookS E u.1 with
      | true,true,none=>some (⟨u.1,none,u.2,ps⟩::vs)
      | _,_,_=>none
    | _,_=>none
  | _,_=>none
theorem mkV_ok{E:SE}(hE:OkE E)(G:zk):∀{us:List (Nat×yn)} {xs:List yo} {vs:ze},mkV E us xs=some vs->nvL vs (us.map λu=>catP (zT u.2))=nvs us/\vs.length=us.length/\(∀v∈vs,OkP v.ps)/\far (denE G E) (nvs us)/\valOk prog (denE G E) (nvs us) xs (vs.map λv=>catP v.ps)
 | [],[],_,h=>by cases h;exact⟨rfl,rfl,(λ_ h=>by cases h),trivial,trivial⟩
 | [],_::_,_,h=>by cases h
 | _::_,[],_,h=>by cases h
 | u::us,x::xs,vs,h=>by
  unfold mkV at h;split at h
  .rename_i ps ws h1 h2
   split at h
   .rename_i h3 h4 h5
    cases h;obtain⟨e1,e2,e3,e4,e5⟩:=mkV_ok hE G h2;obtain⟨r,hr,hok,ht,hz⟩:=zT_ok h4;obtain⟨it,d,h6,h7,h8,h9,_⟩:=hok.info;have hp:OkP ps:=hE.ev h1;have hs:sizeP ps=sizeP r.zero:=hz▸aO h3;refine⟨congrArg (_ :: ·) e1,congrArg (· + 1) e2,λv hv=>?_,⟨by rw [look_den,h5];rfl,e4⟩,⟨⟨evS_ok h1,?_,?_,λv hv=>hp.one v hv⟩,e5⟩⟩
    .rcases aH.1 hv with rfl|hv
     .exact hp
     .exact e3 v hv
    .show(catP (zT u.2)).size=(catP ps).size;rw [hz,hok.2.size,hp.size,hs]
    .show(prog.info? u.2).map (·.size)=some (catP ps).size;rw [<-ht,h6,hp.size,hs,<-h8];rfl
   .cases h
  .cases h
def endN(ops:zp)(N:Nat)(us:List (Nat×yn))(L:ze)(T' l:zo)(E:SE):Option (SE×ze):=match autoXN ops N L l.length l E with
  | ([],E1)=>match stX us T' with
    | some (xs,T2)=>match mkV E1 us xs with
      | some vs=>match freeV E1 L vs with
        | true=>match autoXL ops N T2.length T2 (ptrV vs E1) (vs++L) with
          | ([],E2,L2)=>some (E2,L2)
          | _=>none
        | false=>none
      | none=>none
    | none=>none
  | _=>none
section
variable{b:Base}{Q:zx}{N:Nat}{G:zk}{S:zm}{E E' E2:SE}{L L' L2:ze}{R:zd}{F M:zv}{w0:yp}{T' l:zo}{id:Nat}{y:Code}{ops:zp}{K:zw}
def s_N(n:Nat)(us:List (Nat×yn))(hB:newRB N n l us=true)
 (h:∀K:zw,(∀e',cS prog b y Q N e'->kS b K N e')->∀G S w0,StW b G S L R F M w0->nS prog l.toArray N w0 (newPost prog l.toArray (NoPanic (Exit.then K Q)) w0 (nvs us) (l.drop (n+us.length)) N) G (l.take n) E):cS prog b (.seq (.region id l.toArray true) y) Q N ⟨E,L,R,F,M⟩:=by
 unfold newRB at hB
 simp only [aN] at hB;obtain⟨⟨⟨⟨h1,h2⟩,h3⟩,h4⟩,h5⟩:=hB
 have hl:(nvs us).length=us.length:=by simp [nvs]
 rw [<-hl] at h1 h4 h5 h;exact s_new n (nvs us) (aE h1) h2 (nvB_ok h3) rfl h4 h5 h
def n_N{us:List (Nat×yn)}(hst:StW b G S L R F M w0)(hap:tsApart (nvs us)=true)(hK:∀e',cS prog b y Q N e'->kS b K N e')(h:endN ops N us L T' l E=some (E2,L2))(hn:cS prog b y Q N ⟨E2,L2,R,F,M⟩):nS prog ops N w0 (newPost prog ops (NoPanic (Exit.then K Q)) w0 (nvs us) T' N) G l E:=by
 unfold endN at h;split at h
 .rename_i E1 h1
  split at h
  .rename_i xs T2 h2
   split at h
   .rename_i vs h3
    split at h
    .rename_i h4
     split at h
     .rename_i E3 L3 h5;cases h;refine n_auto2 hst h1 λhE=>?_;obtain⟨e1,e2,e3,e4,e5⟩:=mkV_ok hE G h3;exact n_new hst vs _ xs e1 (by rw [e2,aX]) h4 e3 e4 hap (stX_ok h2) e5 (l_auto2 h5 (zJ (hK _ hn))) hE
     .cases h
    .cases h
   .cases h
  .cases h
 .cases h
def l_E{l:zo}{ops:zp}(h:autoXL ops N l.length l E L=([],E2,L2))(hn:kS b (Q .normal) N ⟨E2,L2,R,F,M⟩):lS prog b ops Q N l ⟨E,L,R,F,M⟩:=l_auto2 h (zJ hn)
def l_N(hK:∀e',cS prog b y Q N e'->kS b K N e')(h:autoXL ops N l.length l E L=([],E2,L2))(hn:cS prog b y Q N ⟨E2,L2,R,F,M⟩):lS prog b ops (Exit.then K Q) N l ⟨E,L,R,F,M⟩:=l_auto2 h (zJ (hK _ hn))
end
section
variable{P:ym}{b:Base}{ops:zp}{Q:zx}{N:Nat}{E:SE}{L:ze}{R:zd}{F M:zv}{o:yk}{rest:zo}{k:Nat}
theorem parts_denC{G:zk}(l:List (Nat×yo))(m:List (Nat×SC))(h:l.map (λp=>(p.1,evS E p.2))=m.map λx=>(x.1,some (.q (.c x.2)))):l.map (λp=>(p.1,ev (denE G E) p.2))=(m.map λx=>(x.1,x.2.den)).map λx=>(x.1,some x.2):=by
 induction l generalizing m with
 | nil=>cases m<;>simp_all
 | cons p l ih =>
  cases m with
  | nil=>simp at h
  | cons x m =>
   simp only [bA,fO,cK] at h ⊢;exact⟨⟨h.1.1,evS_ok h.1.2⟩,ih m h.2⟩
def l_buildC{t:yn}{parts:Array (Nat×yo)}(n:Nat)(l:zu)(hg:o.guard=none)(hd:o.dst=some k)(hk:aU k N=true)(ho:o.op = .build t parts)(hv:parts.toList.map (λp=>(p.1,evS E p.2))=(l.zipIdx.map λx=>(x.2,SC.v (.int .u8 (x.1.toNat:Int)))).map λx=>(x.1,some (.q (.c x.2))))
 (hb:P.built t ((l.zipIdx.map λx=>(x.2,SC.v (.int .u8 (x.1.toNat:Int)))).map λx=>(x.1,x.2.den))=some (By l).toArray)(hl:l.length=n)(hn:lS P b ops Q N rest ⟨(k,.q (eY n l))::E,L,R,F,M⟩):lS P b ops Q N (o::rest) ⟨E,L,R,F,M⟩ :=
 l_f (.q (eY n l)) (eY_ok hl).1 (λG S w C0 Q' _ _ hQ=>f_build _ _ hg hd hk ho (parts_denC _ _ hv) hb hQ) (by rw [ho];rfl) hn
end
structure RwL where
  k1:Nat
  k2:Nat
  j:Nat
  off:Nat
  i:Nat
  t:yn
  ps:zb
  K:yj:=.u8
  m:Int:=0
def ixS(N:Nat)(E:SE)(L:ze)(o:yk):Option RwL:=match o.guard,o.dst,o.op with
  | none,some k,.indexAddr t x y=>match evS E x,evS E y,aU k N with
    | some (.a j off),some (.q (.c (.v (.int _ (.ofNat i))))),true=>match lookL L j with
      | some ps=>some { k1:=k,k2:=0,j:=j,off:=off,i:=i,t:=t,ps:=ps }
      | none=>none
    | _,_,_=>none
  | _,_,_=>none
def ixS_ok{N:Nat}{E:SE}{L:ze}{o:yk}{u:RwL}(h:ixS N E L o=some u):o.guard=none/\o.dst=some u.k1/\aU u.k1 N=true/\lookL L u.j=some u.ps/\∃x y K,o.op = .indexAddr u.t x y/\evS E x=some (.a u.j u.off)/\evS E y=some (.v (.int K (u.i:Int))):=by
 unfold ixS at h;split at h
 .rename_i k t x y hg hd ho
  split at h
  .rename_i j off K i hx hy hk
   split at h
   .rename_i ps hl;cases h;exact⟨hg,hd,hk,hl,x,y,K,ho,hx,hy⟩
   .cases h
  .cases h
 .cases h
def ldS(N:Nat)(E:SE)(L:ze)(o1 o2:yk):Option RwL:=match ixS N E L o1,o2.guard,o2.dst,o2.op with
  | some u,none,some k,.load e (.tmp z)=>match bW z u.k1,aU k N,findT TY e with
    | true,true,some r=>match r.kind with
      | 0=>some { u with k2:=k }
      | _=>none
    | _,_,_=>none
  | _,_,_,_=>none
def ldS_ok{N:Nat}{E:SE}{L:ze}{o1 o2:yk}{u:RwL}(h:ldS N E L o1 o2=some u):∃u0:RwL,ixS N E L o1=some u0/\u={ u0 with k2:=u.k2 }/\o2.guard=none/\o2.dst=some u.k2/\aU u.k2 N=true/\∃e d,o2.op = .load e (.tmp u0.k1)/\prog.underlying e=some d/\d.isRow=false:=by
 unfold ldS at h;split at h
 .rename_i u0 k e z h0 hg hd ho
  split at h
  .rename_i r hz hk hr
   split at h
   .rename_i h9;cases h;obtain rfl:=aO hz;obtain⟨h1,h2⟩:=findT_ok zY hr;obtain⟨it,d,_,h4,_,_,h7,_⟩:=h1.info;exact⟨u0,h0,rfl,hg,hd,hk,e,d,ho,h2▸h4,kind_not (h7.trans h9)⟩
   .cases h
  .cases h
 .cases h
def wrS(N:Nat)(E:SE)(L:ze)(o1 o2:yk):Option RwL:=match ixS N E L o1,o2.guard,o2.dst,o2.op with
  | some u,none,none,.store e (.tmp z) y=>match bW z u.k1,evS E y,findT TY e with
    | true,some (.q (.c (.v (.int K m)))),some r=>match bW (sizeP r.zero) 1,lookS E u.k1 with
      | true,none=>some { u with K:=K,m:=m }
      | _,_=>none
    | _,_,_=>none
  | _,_,_,_=>none
def wrS_ok{N:Nat}{E:SE}{L:ze}{o1 o2:yk}{u:RwL}(h:wrS N E L o1 o2=some u):∃u0:RwL,ixS N E L o1=some u0/\u={ u0 with K:=u.K,m:=u.m }/\o2.guard=none/\o2.dst=none/\lookS E u0.k1=none/\∃e y,o2.op = .store e (.tmp u0.k1) y/\evS E y=some (.v (.int u.K u.m))/\(prog.info? e).map (·.size)=some 1:=by
 unfold wrS at h;split at h
 .rename_i u0 e z y h0 hg hd ho
  split at h
  .rename_i K m r hz hy hr
   split at h
   .rename_i h9 hl;cases h;obtain rfl:=aO hz;obtain⟨h1,h2⟩:=findT_ok zY hr;obtain⟨it,d,h3,_,h5,_⟩:=h1.info;exact⟨u0,h0,rfl,hg,hd,hl,e,y,ho,hy,by rw [<-h2,h3,bS,h5,aO h9]⟩
   .cases h
  .cases h
 .cases h
def lookS_cons{E:SE}{k j:Nat}{v:SV}(h:bW k j=false):lookS ((k,v)::E) j=lookS E j:=by rw [lookS,h]
theorem evS_new{E:SE}{k:Nat}{v u:SV}{x:yo}(hk:lookS E k=none)(h:evS E x=some u):evS ((k,v)::E) x=some u:=by
 cases x with
 | tmp j =>
  have h:lookS E j=some u:=h
  cases hb:bW k j with
  | false=>exact(lookS_cons hb).trans h
  | true =>
   rw [<-aO hb,hk] at h
   cases h
 | _=>exact h
section
variable{b:Base}{ops:zp}{Q:zx}{N n:Nat}{G:zk}{S:zm}{E:SE}{L:ze}{R:zd}{F M:zv}{w0:yp}{Z:Act->Prop}{rest:zo}{o1 o2:yk}{u:RwL}
def l_cell(h:ldS N E L o1 o2=some u)(ha:Arr u.t n)(hi:u.i<n)(v:yl)(hv:(catP u.ps)[u.off+u.i]?=some v)(hn:lS prog b ops Q N rest ⟨(u.k2,.v v)::(u.k1,.a u.j (u.off+u.i))::E,L,R,F,M⟩):lS prog b ops Q N (o1::o2::rest) ⟨E,L,R,F,M⟩:=by obtain⟨u0,h0,hu0,hg,hd,hk,e,d,ho,hu,hr⟩:=ldS_ok h;rw [hu0] at ha hi hv hn;dsimp only at ha hi hv hn;obtain⟨hg1,hd1,hk1,hl,x,y,K,ho1,hx,hy⟩:=ixS_ok h0;obtain⟨te,ht,he⟩:=ha;refine l_op (.a u0.j (u0.off+1*u0.i)) trivial hg1 hd1 hk1 (runO_ixA u0.i ho1 ht he hx hy hi) ?_;rw [fH];exact l_opV (.v v) trivial hg hd hk (runO_ldA v ho (by show lookS ((u0.k1,_)::E) u0.k1=_;unfold lookS;rw [pN]) hl hv hu hr) hn
def n_cell(hst:StW b G S L R F M w0)(h:ldS N E L o1 o2=some u)(ha:Arr u.t n)(hi:u.i<n)(v:yl)(hv:(catP u.ps)[u.off+u.i]?=some v)(hn:nS prog ops N w0 Z G rest ((u.k2,.v v)::(u.k1,.a u.j (u.off+u.i))::E)):nS prog ops N w0 Z G (o1::o2::rest) E:=by obtain⟨u0,h0,hu0,hg,hd,hk,e,d,ho,hu,hr⟩:=ldS_ok h;rw [hu0] at ha hi hv hn;dsimp only at ha hi hv hn;obtain⟨hg1,hd1,hk1,hl,x,y,K,ho1,hx,hy⟩:=ixS_ok h0;obtain⟨te,ht,he⟩:=ha;refine n_op hst (.a u0.j (u0.off+1*u0.i)) trivial hg1 hd1 hk1 (runO_ixA u0.i ho1 ht he hx hy hi) ?_;rw [fH];exact n_opV hst (.v v) trivial hg hd hk (runO_ldA v ho (by show lookS ((u0.k1,_)::E) u0.k1=_;unfold lookS;rw [pN]) hl hv hu hr) hn
def l_put(h:wrS N E L o1 o2=some u)(ha:Arr u.t n)(hi:u.i<n)(ps':zb)(hp:OkP ps')(hlt:u.off+u.i<(catP u.ps).size)(hs:(catP ps').toList=(catP u.ps).toList.set (u.off+u.i) (.int u.K u.m))(hn:lS prog b ops Q N rest ⟨(u.k1,.a u.j (u.off+u.i))::E,putL L u.j ps',R,F,M⟩):lS prog b ops Q N (o1::o2::rest) ⟨E,L,R,F,M⟩:=by obtain⟨u0,h0,hu,hg,hd,hl,e,y',ho,hy',he1⟩:=wrS_ok h;rw [hu] at ha hi hlt hs hn;dsimp only at ha hi hlt hs hn;obtain⟨hg1,hd1,hk1,hlk,x,y,K,ho1,hx,hy⟩:=ixS_ok h0;obtain⟨te,ht,he⟩:=ha;refine l_op (.a u0.j (u0.off+1*u0.i)) trivial hg1 hd1 hk1 (runO_ixA u0.i ho1 ht he hx hy hi) ?_;rw [fH];exact l_stA ps' hg hd ho (by show lookS ((u0.k1,_)::E) u0.k1=_;unfold lookS;rw [pN]) (evS_new hl hy') hlk he1 rfl rfl hlt hp hs hn
def n_ix(hst:StW b G S L R F M w0)(h:ixS N E L o1=some u)(ha:Arr u.t n)(hi:u.i<n)(hn:nS prog ops N w0 Z G rest ((u.k1,.a u.j (u.off+u.i))::E)):nS prog ops N w0 Z G (o1::rest) E:=by obtain⟨hg1,hd1,hk1,hl,x,y,K,ho1,hx,hy⟩:=ixS_ok h;obtain⟨te,ht,he⟩:=ha;refine n_op hst (.a u.j (u.off+1*u.i)) trivial hg1 hd1 hk1 (runO_ixA u.i ho1 ht he hx hy hi) ?_;rw [fH];exact hn
def stC(E:SE)(L:ze)(o:yk):Option RwL:=match o.guard,o.dst,o.op with
  | none,none,.store e x y=>match evS E x,evS E y,findT TY e with
    | some (.a j off),some (.q (.c (.v (.int K m)))),some r=>match bW (sizeP r.zero) 1,lookL L j with
      | true,some ps=>some { k1:=0,k2:=0,j:=j,off:=off,i:=0,t:=e,ps:=ps,K:=K,m:=m }
      | _,_=>none
    | _,_,_=>none
  | _,_,_=>none
def l_st1(h:stC E L o1=some u)(ps':zb)(hp:OkP ps')(hlt:u.off<(catP u.ps).size)(hs:(catP ps').toList=(catP u.ps).toList.set u.off (.int u.K u.m))(hn:lS prog b ops Q N rest ⟨E,putL L u.j ps',R,F,M⟩):lS prog b ops Q N (o1::rest) ⟨E,L,R,F,M⟩:=by
 unfold stC at h;split at h
 .rename_i e x y hg hd ho
  split at h
  .rename_i j off K m r hx hy hr
   split at h
   .rename_i ps h9 hl;cases h;obtain⟨h1,h2⟩:=findT_ok zY hr;obtain⟨it,d,h3,_,h5,_⟩:=h1.info;exact l_stA ps' hg hd ho hx hy hl (by rw [<-h2,h3,bS,h5,aO h9]) rfl rfl hlt hp hs hn
   .cases h
  .cases h
 .cases h
def n_eq{l:zo}(k:Nat){v:SV}(v':SV)(h:lookS E k=some v)(he:v=v')(hn:nS prog ops N w0 Z G l ((k,v')::E)):nS prog ops N w0 Z G l E:=λhE=>by subst he;exact λa ha=>hn (hE.cons (hE.get h)) a (ha.more (ha.get k _ (by rw [look_den,h];rfl)))
def n_num{l:zo}(k:Nat){K:yj}{m:Int}(n:Int)(h:lookS E k=some (.v (.int K m)))(he:m=n)(hn:nS prog ops N w0 Z G l ((k,.v (.int K n))::E)):nS prog ops N w0 Z G l E:=n_eq k _ h (by rw [he]) hn
def s_drawnN{l:zo}{id:Nat}(n:Nat)(hB:newRB N n l []=true)(h:∀G S w0,StW b G S L R F M w0->nS prog l.toArray N w0 (newPost prog l.toArray (NoPanic Q) w0 (nvs []) (l.drop n) N) G (l.take n) E):cS prog b (.region id l.toArray true) Q N ⟨E,L,R,F,M⟩:=by unfold newRB at hB;simp only [aN] at hB;obtain⟨⟨⟨⟨h1,_⟩,h3⟩,h4⟩,h5⟩:=hB;exact λa w ⟨G,S,g1,g2,g3⟩=>wp_region_noPanic (c_new n (nvs []) (aE h1) rfl (nvB_ok h3) rfl h4 h5 (λ_ _ _ _ _ h=>h) (h G S w g3 g2) a g1)
def n_L(hst:StW b G S L R F M w0){T':zo}{l:zo}{E2:SE}(h:autoXN ops N L l.length l E=([],E2))(hn:lS prog b ops Q N T' ⟨E2,L,R,F,M⟩):nS prog ops N w0 (newPost prog ops Q w0 (nvs []) T' N) G l E :=
 n_auto2 hst h (n_new hst [] [] [] rfl rfl rfl (λ_ h=>by cases h) trivial rfl rfl trivial hn)
end
def tupRB(N n:Nat)(t:Tmp)(t2:Tmp)(ty:yn)(l:zo):Option (yo×yo):=match l.drop n with
  | [oa,os,ot]=>match oa.guard,oa.dst,oa.op,os.guard,os.dst,os.op with
    | none,some k,.alloc ty1,none,none,.store ty2 (.tmp k2) x=>match ot.guard,ot.dst,ot.op with
      | none,some k3,.assign y=>match bW k t&&bW ty1 ty&&bW ty2 ty&&bW k2 t&&bW k3 t2&&tH n l.length&&aU t N&&aU t2 N&&(findT TY ty).isSome&&iA l.toArray&&headC .any l.toArray n l 0&&chainB .any l 0 none&&decide (a9 .any l.toArray (marks n 0 (bB l.toArray.size false))=[n])&&decide (a9 .any l.toArray ((marks n 0 (bB l.toArray.size false)).setIfInBounds n true)=[n+1])&&decide (a9 .any l.toArray (((marks n 0 (bB l.toArray.size false)).setIfInBounds n true).setIfInBounds (n+1) true)=[n+2])&&decide (a9 .any l.toArray ((((marks n 0 (bB l.toArray.size false)).setIfInBounds n true).setIfInBounds (n+1) true).setIfInBounds (n+2) true)=[]) with
        | true=>some (x,y)
        | false=>none
      | _,_,_=>none
    | _,_,_,_,_,_=>none
  | _=>none
section
variable{b:Base}{Q:zx}{N:Nat}{G:zk}{S:zm}{E E':SE}{L:ze}{R:zd}{F M:zv}{w0:yp}{l:zo}{id:Nat}{y:Code}{ops:zp}{K:zw}{t t2:Tmp}{ty:yn}{x z:yo}{ps:zb}{q:SQ}
def s_T(n:Nat)(t t2:Tmp)(ty:yn)(hB:tupRB N n t t2 ty l=some (x,z))
 (h:∀K:zw,(∀e',cS prog b y Q N e'->kS b K N e')->∀G S w0,StW b G S L R F M w0->nS prog l.toArray N w0 (tupEnd prog (NoPanic (Exit.then K Q)) w0 t t2 ty x z (catP (zT ty)).size) G (l.take n) E):cS prog b (.seq (.region id l.toArray true) y) Q N ⟨E,L,R,F,M⟩:=by
 unfold tupRB at hB
 split at hB
 .rename_i oa os ot hl
  split at hB
  .rename_i k ty1 ty2 k2 x1 h1 h2 h3 h4 h5 h6
   split at hB
   .rename_i k3 y1 h7 h8 h9
    split at hB
    .rename_i hc
     simp only [a8,cK] at hB;obtain⟨rfl,rfl⟩:=hB;simp only [aN,decide_eq_true_eq] at hc;obtain⟨⟨⟨⟨⟨⟨⟨⟨⟨⟨⟨⟨⟨⟨⟨e1,e2⟩,e3⟩,e4⟩,e5⟩,e6⟩,_⟩,_⟩,e9⟩,e10⟩,e11⟩,e12⟩,e13⟩,e14⟩,e15⟩,e16⟩:=hc;obtain rfl:=aO e1;obtain rfl:=aO e2;obtain rfl:=aO e3;obtain rfl:=aO e4;obtain rfl:=aO e5;have hll:l=l.take n++[oa,os,ot]:=by rw [<-hl,b6]
     obtain⟨r,hr,hok,ht,hz⟩:=zT_ok e9;obtain⟨it,d,i6,_,_,i9,_⟩:=hok.info;refine zM λK hK a w ⟨G,S,g1,g2,g3⟩=>wp_region_noPanic ?_;exact c_tup n _ _ _ _ _ (catP (zT ty2)) hll (by rw [aV];have:=aE e6;omega) h6 h9 h4 h7 h5 h8 h1 h2 rfl e10 e11 e12 e13 e14 e15 e16 (λ_ _ _ _ _ h=>h) h3 (by rw [hz,<-ht,i6,Option.bind_some,i9]) (h K hK G S w g3 g2) a g1
    .cases hB
   .cases hB
  .cases hB
 .cases hB
def endT(ops:zp)(N:Nat)(t t2:Tmp)(ty:yn)(x z:yo)(L:ze)(l:zo)(E:SE):Option (SE×zb×SQ):=match autoXN ops N L l.length l E with
  | ([],E1)=>match evS E1 x,evS E1 z with
    | some (.q (.p ps)),some (.q q)=>match bW (sizeP ps) (sizeP (zT ty))&&(findT TY ty).isSome&&farL t L&&farE t E1&&aU t N&&aU t2 N,lookS E1 t with
      | true,none=>some (E1,ps,q)
      | _,_=>none
    | _,_=>none
  | _=>none
def n_T(hst:StW b G S L R F M w0)(hK:∀e',cS prog b y Q N e'->kS b K N e')(h:endT ops N t t2 ty x z L l E=some (E',ps,q))(hn:cS prog b y Q N ⟨(t2,.q q)::(t,.a t 0)::E',⟨t,none,ty,ps⟩::L,R,F,M⟩):nS prog ops N w0 (tupEnd prog (NoPanic (Exit.then K Q)) w0 t t2 ty x z (catP (zT ty)).size) G l E:=by
 unfold endT at h;split at h
 .rename_i E1 h1
  split at h
  .rename_i ps1 q1 h2 h3
   split at h
   .rename_i hc hl
    cases h;simp only [aN] at hc;obtain⟨⟨⟨⟨⟨c1,c2⟩,c3⟩,c4⟩,c5⟩,c6⟩:=hc;refine n_auto2 hst h1 λhE=>?_;obtain⟨r,hr,hok,ht,hz⟩:=zT_ok c2;obtain⟨it,d,i6,_,i8,_⟩:=hok.info;have hp:OkP ps:=hE.ev h2;have hs:sizeP ps=sizeP r.zero:=hz▸aO c1;have hev:∀{u:yo} {s:SV},evS E' u=some s->∀v,ev ((t,v)::denE G E') u=some (s.den G):=λ{u s} hu v=>by
     cases u with
     | tmp j =>
      have hu:lookS E' j=some s:=hu
      show look ((t,v)::denE G E') j=_
      by_cases e:t=j
      .rw [<-e,hl] at hu;cases hu
      .rw [look_cons,if_neg e,look_den,hu];rfl
     | _=>exact evS_ok (E:=E') hu
    refine f_tupEnd (catP ps) (q.den) c5 c6 (λv=>hev h2 v) (λv=>hev h3 v) (by rw [hz,hok.2.size,hp.size,hs]) (by rw [<-ht,i6,hp.size,hs,<-i8];rfl) (λv hv=>hp.one v hv) λg w' hg hU hb a ha=>?_;have hst2:=hst.news (E:=E') (gs:=λ_=>g) hU [⟨t,none,ty,ps⟩] (by simp [freeV,c3,c4,farL]) (λu hu=>by rw [aD.1 hu];exact hp) (λ_ _=>hg) (λi j hi hj hne=>absurd (show i=j by simp at hi hj;omega) hne) λu hu=>by rw [aD.1 hu];show Blk w' (if t=t then g else G t) ty (catP ps);rw [if_pos rfl];exact hb
    refine hK _ hn a w' ⟨_,S,?_,(OkE.cons hE (v:=.a t 0) trivial).cons (hE.ev h3),hst2⟩;have e1:denE (gOf [⟨t,none,ty,ps⟩] 0 (λ_=>g) G) E'=denE G E':=denE_far (j:=t) (g:=g) c4;show Fr N ((t2,q.den)::(t,.pointer (some ⟨if t=t then g else G t,0,none⟩))::denE (gOf [⟨t,none,ty,ps⟩] 0 (λ_=>g) G) E') a;rw [if_pos rfl,e1];exact ha
   .cases h
  .cases h
 .cases h
end
def Ct.imp{α:Type}{F F':zv}{f:yi}{qs:yq}{post:Post α}(c:Ct F f qs post)(h:∀w,F' w->F w):Ct F' f qs post:=⟨c.own,c.spec.imp h⟩
section
variable{P:ym}{N:Nat}{E:SE}{o:yk}{x:yo}{t:yn}{d:TypeDesc}{L:ze}{R:zd}{F M:zv}
def run_ldM{a0:Addr}{v:yl}(ho:o.op = .load t x)(hx:evS E x=some (.v (.pointer (some a0))))(hu:P.underlying t=some d)(hr:d.isRow=false)(hc:∀G S w,View G S L R F M w->w.cell? a0=some v):∀(G:zk) (S:zm) (a:Act) (w:yp),Fr N (denE G E) a->View G S L R F M w->(execOp a.eval o).run P w = .ok (.value ((SV.v v).den G)) w:=λG S a w ha hw=>by have h1:=ha.eval (evS_ok (G:=G) hx);have h2:=run_load_cell (P:=P) (t:=t) hu hr (hc G S w hw);unfold execOp;simp only [ho,h1,SV.den,SQ.den,SC.den,h2,aG,aI,aC]
def run_ldR{g off:Nat}{q:SQ}{cs:zr}(ho:o.op = .load t x)(hx:evS E x=some (.v (.pointer (some ⟨g,off,none⟩))))(hu:P.underlying t=some d)(hr:d.isRow=true)(hi:(P.info? t).map (·.size)=some cs.size)(hq:q.den = .agg cs)(hc:∀G S w,View G S L R F M w->w.rangeAt g off cs.toList):∀(G:zk) (S:zm) (a:Act) (w:yp),Fr N (denE G E) a->View G S L R F M w->(execOp a.eval o).run P w = .ok (.value ((SV.q q).den G)) w:=λG S a w ha hw=>by have h1:=ha.eval (evS_ok (G:=G) hx);have h2:=run_load_row (P:=P) (t:=t) hu hr hi (hc G S w hw);rw [show(SV.q q).den G = .agg cs from hq];unfold execOp;simp only [ho,h1,SV.den,SQ.den,SC.den,h2,aG,aI,aC]
end
def nextH(ops:zp)(N:Nat)(L:ze)(Fa:Told)(l:List (Nat×yk))(E:SE):Option (List (Nat×yk)×SE×Nat×Nat×yi×yu):=match autoH TY ops N L Fa l E with
  | ((i,o)::l',E')=>match callB N E' o,farP i Fa with
    | some (k,f,vs),true=>some (l',E',i,k,f,vs)
    | _,_=>none
  | _=>none
def h_X{α:Type}{post:Post α}{F F' M:zv}[Pst F'][hP:∀x,Pst (post.p x)]{b:Base}{G:zk}{S:zm}{L:ze}{R:zd}{w0:yp}{ops:zp}{Q:zx}{N:Nat}{T':zo}{Fa:Told}{l l':List (Nat×yk)}{E E':SE}{i k:Nat}{f:yi}{qs:yq}(hst:StW b G S L R F M w0)(c:Ct F' f qs post)(h:nextH ops N L Fa l E=some (l',E',i,k,f,qs.map SV.q))
 (hF:∀w o,View G S L R F M w->Uses o Fa w->F' w)
 (hn:∀x,hS prog ops Q N T' G w0 l' ((k,(post.ret x).sv)::E') ((i,λw=>∃y,(post.ret x).den=(post.ret y).den/\post.p y w)::Fa)):hS prog ops Q N T' G w0 l E Fa:=by
 unfold nextH at h
 split at h
 .rename_i i2 o l2 E2 h2
  split at h
  .rename_i k2 f2 v2 h3 hf;simp only [a8,cK] at h;obtain⟨rfl,rfl,rfl,rfl,rfl,rfl⟩:=h;obtain⟨hg,hd,hk,xs,ats,ho,hx⟩:=callB_ok h3;exact h_auto zY hst h2 (h_callE hst (qs.map SQ.den) hf hg hd hk c.own ho hx (λ_=>den_q qs G) c.spec (λw hw hu=>hF w _ hw hu) λx _=>hn x)
  .cases h
 .cases h
instance{α:Type}{f:α->RV}{x:α}:Pst (({ ret:=f }:Post α).p x):=⟨λ_ _ _ _=>trivial⟩
section
variable{α:Type}{fe:α->SQ}{b:Base}{ops:zp}{Q:zx}{N:Nat}{E:SE}{L:ze}{R:zd}{F M:zv}{rest:zo}{o:yk}
theorem l_stF{t:yn}{x z:yo}{j n k i:Nat}{l:List α}{ps:zb}(y:α)(ho:(o.guard,o.dst,o.op)=(none,none,.store t x z))(hx:evS E x=some (.a j (k*i)))(hz:evS E z=some (.q (fe y)))(hl:lookL L j=some (.agg n (flatF fe l).toArray::ps))(ht:(findT TY t).map (λr=>sizeP r.zero)=some k)(hok:OkF k fe l)(hy:OkP (fe y).parts1/\(fe y).cl.length=k)(hi:i<l.length)
 (hn:lS prog b ops Q N rest ⟨E,putL L j (.agg n (flatF fe (l.set i y)).toArray::ps),R,F,M⟩):lS prog b ops Q N (o::rest) ⟨E,L,R,F,M⟩:=λa w ⟨G,S,f1,f2,f3⟩=>by
 simp only [cK] at ho;obtain⟨hg,hd,ho⟩:=ho;obtain⟨u,hu,rfl,hps⟩:=lookL_mem hl;have e1:=f1.eval (evS_ok hx);have e2:=f1.eval (evS_ok hz);obtain⟨x0,hx0⟩:∃x0,l[i]?=some x0:=⟨_,aJ hi⟩;obtain⟨A,Z,h1,h2,h3⟩:=flatF_split hok hx0;have hOkP:=(f3.var u hu).2.1;rw [hps] at hOkP;have hc0:(fe x0).cl.length=k:=(hok x0 (aR hx0)).2
 have hlen:(flatF fe (l.set i y)).length=(flatF fe l).length:=by rw [h1,h3];simp [hy.2,hc0]
 have hcs:(fe y).den.cells.size=k:=by have:=hy.2;simpa [SQ.cl] using this
 have hcat:(catP (.agg n (flatF fe l).toArray::ps)).toList=A++((fe x0).cl++(Z++(catP ps).toList)):=by rw [catP_cons,dE,Pt.cells,h1];simp
 have hcat2:(catP (.agg n (flatF fe (l.set i y)).toArray::ps)).toList=A++((fe y).cl++(Z++(catP ps).toList)):=by rw [catP_cons,dE,Pt.cells,h3];simp
 cases hr:findT TY t with
 | none=>rw [hr] at ht;cases ht
 | some r =>
  rw [hr] at ht;obtain⟨g1,g2⟩:=findT_ok zY hr;obtain⟨it,d,g3,_,g5,_⟩:=g1.info
  have ht:sizeP r.zero=k:=by injection ht
  have hblk:=f3.at u hu;rw [hps] at hblk;have hst:=run_store_part (P:=prog) (t:=t) (v:=(fe y).den) (off:=k*i) hblk (by rw [<-g2,g3,hcs,bS,g5,ht]) (by rw [hcs,<-bG,hcat,aA,aA,hc0,h2];omega) (SQ.cl_one hy.1)
  have e3:((catP (.agg n (flatF fe l).toArray::ps)).toList.take (k*i)++(fe y).den.cells.toList++(catP (.agg n (flatF fe l).toArray::ps)).toList.drop (k*i+(fe y).den.cells.size)).toArray=catP (.agg n (flatF fe (l.set i y)).toArray::ps):=by
   apply Array.ext';rw [hcat2,hcat,hcs,<-h2];have e4:A++((fe x0).cl++(Z++(catP ps).toList))=(A++(fe x0).cl)++(Z++(catP ps).toList):=by rw [aT]
   have e5:(A++((fe x0).cl++(Z++(catP ps).toList))).drop (A.length+k)=Z++(catP ps).toList:=by rw [e4];exact List.drop_left' (by rw [aA,hc0])
   rw [qG,e5,aT];rfl
  rw [e3] at hst
  refine wpl_skip (w':=w.setRow (G u.j) (catP (.agg n (flatF fe (l.set i y)).toArray::ps))) (oneS hg) (by unfold execOp;simp only [ho,e1,e2,SV.den,hst,aG,aI,aC]) ?_
  rw [hd];refine hn _ _ ⟨G,S,f1,f2,f3.set (lookL_name hl) λq hq=>?_⟩
  rcases aH.1 hq with rfl|hq
  .have h6:=hOkP (.agg n (flatF fe l).toArray) aM;refine⟨?_,λv hv=>flatF_one (hok.set hy) v hv⟩;have h7:(flatF fe l).toArray.size=n:=h6.1;rw [aW] at h7 ⊢;rw [hlen,h7]
  .exact hOkP q (aK _ hq)
end
def no_ok:∀u∈([]:yq),u.Ok:=λ_ h=>by cases h
section
variable{b:Base}{Q:Exit → Act → yp → Prop}{ops:zp}{N:Nat}{E E':SE}{L L':ze}{R:zd}{F M:yp → Prop}{id:Nat}{l l':zo}{y:Code}
def zA(h:autoS TY l.toArray N l E L=([], E', L'))(hn:cS prog b y Q N ⟨E', L', R, F, M⟩):cS prog b (.seq (.region id l.toArray false) y) Q N ⟨E, L, R, F, M⟩ := s_auto zY h hn
def zB{l0:zo}(h:autoS TY ops N l0 E L=(l', E', L'))(hn:lS prog b ops Q N l' ⟨E', L', R, F, M⟩):lS prog b ops Q N l0 ⟨E, L, R, F, M⟩ := l_autoS zY h hn
def zC(h:autoS TY l.toArray N l E L=(l', E', L'))(hn:∀K:Act → yp → Prop, (∀e', cS prog b y Q N e' → kS b K N e') → lS prog b l.toArray (Exit.then K Q) N l' ⟨E', L', R, F, M⟩):cS prog b (.seq (.region id l.toArray false) y) Q N ⟨E, L, R, F, M⟩ := s_regA zY h hn
def zD(h:autoS TY l.toArray N l E L=([], E', L'))(hn:kS b (Q .normal) N ⟨E', L', R, F, M⟩):cS prog b (.region id l.toArray false) Q N ⟨E, L, R, F, M⟩ := s_autoE zY h hn
def zU{α:Sort _}{β:α → Sort _}(a:α)(_:β a):True := trivial
def zE{E:SE}:∀{l:SE}, l.map (fun p => lookS E p.1)=l.map (fun p => some p.2) → SubS l E
  | [], _ => trivial
  | _::_, h => ⟨(List.cons.inj h).1, zE (List.cons.inj h).2⟩
def zF:ze → Bool
  | [] => true
  | x::r => farL x.j r&&zF r
def zL{L:ze}:∀{l:ze}, l.map (fun x => findL L x.j)=l.map some → zF l=true → SubL l L
  | [], _, _ => trivial
  | _::_, h, hf => ⟨(List.cons.inj h).1, (Bool.and_eq_true_iff.1 hf).1, zL (List.cons.inj h).2 (Bool.and_eq_true_iff.1 hf).2⟩
end
section
variable{b:Base}{Q:Exit → Act → yp → Prop}{ops:zp}{N:Nat}{G:Nat → Nat}{S:Nat → Prop}{E E':SE}{L:ze}{R:zd}{F M:yp → Prop}{w0:yp}{T':zo}{Fa:Told}
def zV{l l':List (Nat×yk)}(hst:StW b G S L R F M w0)(h:autoH TY ops N L Fa l E=(l', E'))(hn:hS prog ops Q N T' G w0 l' E' Fa):hS prog ops Q N T' G w0 l E Fa := h_auto zY hst h hn
end
section
variable{b:Base}{fn:Func}{N:Nat}{E:SE}{L:ze}{R:zd}{F M:yp → Prop}{α:Type}{post:Post α}{rs:List ResultVar}{qs:yq}
def zG(x:α)(h:(fn.results, Nat.ble rs.length 3, resS TY E L rs, post.ret x, post.own x)=(rs.toArray, true, some qs, retOf qs, R))(hp:∀w, F w → M w → post.p x w)(hn:∀w, M w → post.n x w):kS b (bodyPost prog fn (endS b post) .ret) N ⟨E, L, R, F, M⟩ := by simp only [Prod.mk.injEq] at h;obtain⟨h1, h2, h3, h4, h5⟩ := h;exact zR zY x h1 (Nat.le_of_ble_eq_true h2) h3 h4 h5 hp hn
end
section
variable{b:Base}{Q:Exit → Act → yp → Prop}{ops:zp}{N fuel i k:Nat}{E:SE}{L L0:ze}{R R' own:zd}{F M F' Inv:yp → Prop}{o:yk}{rest:zo}{p:Nat → Bool}{Fin:zn → Act → yp → Prop}{listed:zn}{v:SV}
variable{α:Type}{post:Post α}{f:yi}{xs:zg}{ats:zf}{svs:yu}
def z6(args:zq)(hf:Own f)(h:(o.guard, o.dst, Nat.blt k N, o.op, evSs E xs.toList, fun G:Nat → Nat => svs.map (SV.den G))=(none, some k, true, .call { callee := .value (.func f), args := xs, argTypes := ats }, some svs, fun _ => args))(hs:Spec f args [] F' post)(hF:∀w, F w → M w → F' w)(hn:∀x, lS prog b ops Q N rest ⟨(k, (post.ret x).sv)::E, L, post.own x++R, fun w => post.p x w ∧ F w, fun w => post.n x w ∧ M w⟩):lS prog b ops Q N (o::rest) ⟨E, L, R, F, M⟩ := by simp only [Prod.mk.injEq] at h;obtain⟨h1, h2, h3, h4, h5, h6⟩ := h;exact l_call0 args h1 h2 h3 hf h4 h5 (fun G _ => congrFun h6 G) hs hF hn
def zI(args:zq)(hf:Own f)(h:(o.guard, o.dst, Nat.blt k N, o.op, evSs E xs.toList, fun G:Nat → Nat => svs.map (SV.den G))=(none, some k, true, .call { callee := .value (.func f), args := xs, argTypes := ats }, some svs, fun _ => args))(hs:Spec f args own F' post)(hF:∀w, F w → M w → F' w)(hn:∀x, lS prog b ops Q N rest ⟨(k, (post.ret x).sv)::E, L, post.own x++R', fun w => post.p x w ∧ F w, fun w => post.n x w ∧ M w⟩):lS prog b ops Q N (o::rest) ⟨E, L, own++R', F, M⟩ := by simp only [Prod.mk.injEq] at h;obtain⟨h1, h2, h3, h4, h5, h6⟩ := h;exact l_callA args h1 h2 h3 hf h4 h5 (fun G _ => congrFun h6 G) hs hF hn
end
section
variable{b:Base}{Q:Exit → Act → yp → Prop}{ops:zp}{N fuel i k:Nat}{E:SE}{L L0:ze}{R R' own:zd}{F M F' Inv:yp → Prop}{o:yk}{rest:zo}{p:Nat → Bool}{Fin:zn → Act → yp → Prop}{listed:zn}{v:SV}
variable{t ty:yn}{x:yo}{g off:Nat}{ps:zb}{q:SQ}
def zZ(h:(o.guard, o.dst, Nat.blt k N, o.op, evS E x, loadS TY ps t off)=(none, some k, true, .load t x, some (.v (.pointer (some ⟨g, off, none⟩))), some q))(h0:∀G S w, View G S L R F M w → ObjF g ty ps w)
   (hn:lS prog b ops Q N rest ⟨(k, .q q)::E, L, R, F, M⟩):lS prog b ops Q N (o::rest) ⟨E, L, R, F, M⟩ := by
  simp only [Prod.mk.injEq] at h;obtain⟨h1, h2, h3, h4, h5, h6⟩ := h;exact l_ldO zY h1 h2 h3 h4 h5 h6 h0 hn
end
end Go.Proofs.Q
namespace Nums
def cP(p:Nat):Prop:=1<p/\∀m,m∣p->m=1\/m=p
def cP.pos{p:Nat}(h:cP p):0<p:=by have:=h.1;omega
def cP.coprime{p a:Nat}(h:cP p)(ha:¬p∣a):Nat.Coprime p a:=by
 have hd:lM p a∣p:=Nat.gcd_dvd_left p a;rcases h.2 _ hd with h1|h1
 .exact h1
 .exact absurd (h1▸Nat.gcd_dvd_right p a) ha
def cP.dvd_mul{p a b:Nat}(h:cP p)(hd:p∣a*b):p∣a\/p∣b:=by
 by_cases ha:p∣a
 .exact .inl ha
 .exact .inr ((h.coprime ha).dvd_of_dvd_mul_left hd)
theorem lW:∀(n:Nat),1<n->∃r,cP r/\r∣n:=by
 intro n;induction n using Nat.strongRecOn with
 | ind n ih =>
  intro hn
  by_cases hp:∃m,m∣n/\m≠1/\m≠n
  .obtain⟨m,hm,h1,h2⟩:=hp;have hle:=jE (by omega) hm;have hpos:=Nat.pos_of_dvd_of_pos hm (by omega);obtain⟨r,hr,hrm⟩:=ih m (by omega) (by omega);exact⟨r,hr,mR hrm hm⟩
  .refine⟨n,⟨hn,λm hm=>?_⟩,Nat.dvd_refl n⟩
   by_cases h1:m=1
   .exact .inl h1
   .by_cases h2:m=n
    .exact .inr h2
    .exact absurd ⟨m,hm,h1,h2⟩ hp
def pC{n:Nat}(hn:1<n)(hp:¬cP n):∃r,cP r/\r∣n/\r*r<=n:=by
 have:∃m,m∣n/\m≠1/\m≠n:=by
  by_cases h:∃m,m∣n/\m≠1/\m≠n
  .exact h
  .refine absurd ⟨hn,λm hm=>?_⟩ hp
   by_cases h1:m=1
   .exact .inl h1
   .by_cases h2:m=n
    .exact .inr h2
    .exact absurd ⟨m,hm,h1,h2⟩ h
 obtain⟨m,⟨k,hk⟩,h1,h2⟩:=this;have hm0:0<m:=by
  rcases kM m with h|h
  .subst h;simp at hk;omega
  .exact h
 have hk0:0<k:=by
  rcases kM k with h|h
  .subst h;simp at hk;omega
  .exact h
 have hk1:k≠1:=λh=>by subst h;simp at hk;omega
 rcases Nat.le_total m k with hle|hle
 .obtain⟨r,hr,hrm⟩:=lW m (by omega);have hrle:=jE hm0 hrm;exact⟨r,hr,mR hrm ⟨k,hk⟩,by rw [hk];exact iS hrle (bM hrle hle)⟩
 .obtain⟨r,hr,hrk⟩:=lW k (by omega);have hrle:=jE hk0 hrk;exact⟨r,hr,mR hrk ⟨m,by rw [hk,cX]⟩,by rw [hk];exact iS (bM hrle hle) hrle⟩
def prod(l:zj):Nat:=l.foldr (· * ·) 1
def prod_cons(a:Nat)(l:zj):prod (a::l)=a*prod l:=rfl
theorem uH{l1 l2:zj}(h:l1.Perm l2):prod l1=prod l2:=by
 induction h with
 | nil=>rfl
 | cons x _ ih=>rw [prod_cons,prod_cons,ih]
 | swap x y l=>rw [prod_cons,prod_cons,prod_cons,prod_cons,<-eQ,<-eQ,cX x y]
 | trans _ _ ih1 ih2=>rw [ih1,ih2]
theorem tT:∀{l1 l2:zj},l1.Nodup->(∀x∈l1,x∈l2)->l2.length<=l1.length->l1.Perm l2
 | [],l2,_,_,hl=>by have:l2=[]:=bE (by simpa using hl);subst this;exact List.Perm.refl _
 | x::l1,l2,hn,hs,hl=>by have hx:x∈l2:=hs x (by simp);have hp:=List.perm_cons_erase hx;obtain⟨hx1,hn1⟩:=fV.1 hn;have h1:l1.Perm (l2.erase x):=tT hn1 (λy hy=>(List.mem_erase_of_ne (λ(e:y=x)=>hx1 (e▸hy))).2 (hs y (by simp [hy]))) (by rw [List.length_erase_of_mem hx];simp at hl;omega);exact(List.Perm.cons x h1).trans hp.symm
theorem oE(a r:Nat):∀(l:zj),prod (l.map λi=>a*i%r)%r=a^l.length*prod l%r
 | []=>by simp [prod]
 | i::l=>by rw [bA,prod_cons,prod_cons,a6,kR,oE a r l,Nat.mod_mod,<-kR,cB];congr 1;rw [eQ,eQ];rw [Nat.mul_left_comm i,<-eQ a (a^l.length),cX a (a^l.length),eQ]
theorem oO{r:Nat}(hr:cP r):∀(l:zj),(∀x∈l,¬r∣x)->¬r∣prod l
 | [],_,h=>by have:=jE (by simp [prod]) h;simp [prod] at this;have:=hr.1;omega
 | x::l,hl,h=>by
  rw [prod_cons] at h;rcases hr.dvd_mul h with h1|h1
  .exact hl x (by simp) h1
  .exact oO hr l (λy hy=>hl y (by simp [hy])) h1
def pZ{r a b c:Nat}(hr:cP r)(hc:¬r∣c)(h:a*c%r=b*c%r):a%r=b%r:=by
 have key:∀{x y:Nat},y<=x->x*c%r=y*c%r->x%r=y%r:=λ{x y} hle h=>by
  have h1:r∣x*c-y*c:=j4 (rQ h);rw [<-Nat.sub_mul] at h1;rcases hr.dvd_mul h1 with⟨t,ht⟩|h2
  .have:x=y+r*t:=by omega
   rw [this,Nat.add_mul_mod_self_left]
  .exact absurd h2 hc
 rcases Nat.le_total b a with hle|hle
 .exact key hle h
 .exact(key hle h.symm).symm
theorem q9{f:zk}:∀{l:zj},l.Nodup->(∀x∈l,∀y∈l,f x=f y->x=y)->(l.map f).Nodup
 | [],_,_=>by simp
 | a::l,hn,hi=>by obtain⟨h1,h2⟩:=fV.1 hn;rw [bA,fV];refine⟨λh=>?_,q9 h2 (λx hx y hy=>hi x (by simp [hx]) y (by simp [hy]))⟩;obtain⟨b,hb,e⟩:=aZ.1 h;have:=hi b (by simp [hb]) a (by simp) e;subst this;exact h1 hb
def tA{r a:Nat}(hr:cP r)(ha:¬r∣a):a^(r-1)%r=1:=by
 have hr1:=hr.1;have hnd:∀i∈mJ 1 (r-1),¬r∣i:=λi hi hd=>by have hi':=jK.1 hi;have:=jE (by omega) hd;omega
 have hperm:((mJ 1 (r-1)).map λi=>a*i%r).Perm (mJ 1 (r-1)):=by
  refine tT ?_ ?_ (by simp)
  .refine q9 List.nodup_range' λx hx y hy h=>?_
   have hx':=jK.1 hx;have hy':=jK.1 hy;rw [cX a x,cX a y] at h;have:=pZ hr ha h
   rwa [a7 (by omega),a7 (by omega)] at this
  .intro x hx
   obtain⟨i,hi,rfl⟩:=aZ.1 hx;have hlt:a*i%r<r:=cI _ hr.pos;have hne:a*i%r≠0:=λh0=>by
    rcases hr.dvd_mul (j4 h0) with h1|h1
    .exact ha h1
    .exact hnd i hi h1
   exact jK.2 ⟨by omega,by omega⟩
 have h1:=oE a r (mJ 1 (r-1));rw [uH hperm,List.length_range'] at h1;have h2:1*prod (mJ 1 (r-1))%r=a^(r-1)*prod (mJ 1 (r-1))%r:=by rw [fH];exact h1
 have h3:=pZ hr (oO hr _ hnd) h2;rw [<-h3,a7 hr1]
def pm(n a:Nat):Nat->zk
  | 0,_=>1%n
  | k+1,e=>if e%2=1 then pm n a k (e/2)*pm n a k (e/2)%n*a%n else pm n a k (e/2)*pm n a k (e/2)%n
theorem vP(n a:Nat):∀(k e:Nat),e<2^k->pm n a k e=a^e%n
 | 0,e,h=>by
  have:e=0:=by simpa using h
  subst this;simp [pm]
 | k+1,e,h=>by
  have h1:e/2<2^k:=by rw [cB] at h;omega
  have ih:=vP n a k (e/2) h1;unfold pm;rw [ih];have e2:a^(e/2)%n*(a^(e/2)%n)%n=a^(2*(e/2))%n:=by rw [<-kR,<-kC];congr 2;omega
  rw [e2];split
  .rw [Nat.mod_mul_mod,<-cB];congr 2;omega
  .congr 2;omega
theorem wY{r a:Nat}(hr:1<r):∀(m n:Nat),a^m%r=1->a^n%r=1->a^lM m n%r=1:=by
 intro m n;induction m,n using Nat.gcd.induction with
 | H0 n=>intro _ h;simpa using h
 | H1 m n hm ih =>
  intro h1 h2
  rw [Nat.gcd_rec];refine ih ?_ h1
  have e:a^n=(a^m)^(n/m)*a^(n%m):=by rw [<-nP,<-kC,Nat.div_add_mod]
  have h3:(a^m)^(n/m)%r=1:=by rw [Nat.pow_mod,h1,Nat.one_pow,a7 hr]
  rw [e,kR,h3,fH,Nat.mod_mod] at h2;exact h2
def sH{n q a m r:Nat}(hq:cP q)(hn:n-1=q*m)(hn1:1<n)(h1:a^(n-1)%n=1)(g1:lM (a^m%n+n-1) n=1)(hr:cP r)(hrn:r∣n):q∣r-1:=by
 have hr1:=hr.1;have hmod:∀x,x%n%r=x%r:=λx=>Nat.mod_mod_of_dvd x hrn;have h1r:a^(n-1)%r=1:=by rw [<-hmod,h1,a7 hr1]
 have hra:¬r∣a:=λhd=>by
  have h0:a^(n-1)%r=0:=by refine uW (mR hd ?_);exact⟨a^(n-2),by rw [<-Nat.pow_succ'];congr 1;omega⟩
  omega
 by_cases hqr:q∣r-1
 .exact hqr
 .have hf:=tA hr hra
  have hg:=wY hr1 (n-1) (r-1) h1r hf;have hcop:Nat.Coprime (lM (n-1) (r-1)) q:=by have:=hq.coprime (a:=lM (n-1) (r-1)) (λhd=>hqr (mR hd (Nat.gcd_dvd_right _ _)));exact this.symm
  have hdm:lM (n-1) (r-1)∣m:=by have:lM (n-1) (r-1)∣q*m:=hn▸Nat.gcd_dvd_left (n-1) (r-1);exact hcop.dvd_of_dvd_mul_left this
  obtain⟨t,ht⟩:=hdm;have hm:a^m%r=1:=by rw [ht,nP,Nat.pow_mod,hg,Nat.one_pow,a7 hr1]
  exfalso;have hlt:a^m%n<n:=cI _ (by omega);have hd:r∣a^m%n+n-1:=by
   have e1:a^m%n%r=1:=by rw [hmod];exact hm
   have e2:1<=a^m%n:=by
    rcases kM (a^m%n) with h0|h0
    .rw [h0] at e1;simp at e1
    .exact h0
   have e3:r∣a^m%n-1:=j4 (by have:=rQ (m:=a^m%n) (n:=1) (k:=r) (by rw [e1,a7 hr1]);exact this);have e4:a^m%n+n-1=(a^m%n-1)+n:=by omega
   rw [e4];exact Nat.dvd_add e3 hrn
  have:=Nat.dvd_gcd hd hrn;rw [g1] at this;have:=jE (by omega) this;omega
def sG{n q1 q2 m1 m2 a:Nat}(hq1:cP q1)(hq2:cP q2)(hne:q1≠q2)(hn1:1<n)(hm1:n-1=q1*m1)(hm2:n-1=q2*m2)(hsz:n<(q1*q2+1)*(q1*q2+1))
 (h1:a^(n-1)%n=1)(g1:lM (a^m1%n+n-1) n=1)(g2:lM (a^m2%n+n-1) n=1):cP n:=by
 by_cases hp:cP n
 .exact hp
 .exfalso
  obtain⟨r,hr,hrn,hrr⟩:=pC hn1 hp;have d1:=sH hq1 hm1 hn1 h1 g1 hr hrn;have d2:=sH hq2 hm2 hn1 h1 g2 hr hrn;have hcop:Nat.Coprime q1 q2:=hq1.coprime (λhd=>by
   rcases hq2.2 _ hd with h|h
   .have:=hq1.1;omega
   .exact hne h)
  have hd:q1*q2∣r-1:=hcop.mul_dvd_of_dvd_of_dvd d1 d2;have hr1:=hr.1;have hle:=jE (by omega) hd;have h2:q1*q2+1<=r:=by omega
  have:=iS h2 h2;omega
def xN(n q1 q2 a k:Nat):Bool :=
  decide (1<n)&&decide (n-1=q1*((n-1)/q1))&&decide (n-1=q2*((n-1)/q2))&&decide (n<(q1*q2+1)*(q1*q2+1))&&decide (q1≠q2)&&decide (n<2^k) &&
  (pm n a k (n-1)==1)&&(lM (pm n a k ((n-1)/q1)+n-1) n==1)&&(lM (pm n a k ((n-1)/q2)+n-1) n==1)
def iH{n q1 q2 a k:Nat}(hq1:cP q1)(hq2:cP q2)(h:xN n q1 q2 a k=true):cP n:=by simp only [xN,aN,decide_eq_true_eq,beq_iff_eq] at h;obtain⟨⟨⟨⟨⟨⟨⟨⟨h1,h2⟩,h3⟩,h4⟩,h5⟩,h6⟩,h7⟩,h8⟩,h9⟩:=h;have hd1:(n-1)/q1<=n-1:=gM _ _;have hd2:(n-1)/q2<=n-1:=gM _ _;rw [vP n a k _ (by omega)] at h7 h8 h9;exact sG hq1 hq2 h5 h1 h2 h3 h4 h7 h8 h9
def tK(n:Nat):Nat->Bool
  | 0=>true
  | k+1=>tK n k&&(decide (k<2)||decide (n%k≠0))
theorem qZ{n:Nat}:∀{k m:Nat},tK n k=true->2<=m->m<k->¬m∣n
 | k+1,m,h,h2,hm,hd=>by
  simp only [tK,aN,Bool.or_eq_true,decide_eq_true_eq] at h;by_cases e:m=k
  .subst e
   rcases h.2 with h3|h3
   .omega
   .exact h3 (uW hd)
  .exact qZ h.1 h2 (by omega) hd
def eF{n k:Nat}(hn:1<n)(hk:n<k*k)(h:tK n k=true):cP n:=by
 by_cases hp:cP n
 .exact hp
 .exfalso
  obtain⟨r,hr,hrn,hrr⟩:=pC hn hp;have hr1:=hr.1;have:r<k:=by
   rcases Nat.lt_or_ge r k with h1|h1
   .exact h1
   .have:=iS h1 h1;omega
  exact qZ h (by omega) this hrn
def uJ:cP 127:=eF (k:=12) (by decide) (by decide) (by decide +kernel)
def qN:cP 8574133:=eF (k:=2929) (by decide) (by decide +kernel) (by decide +kernel)
def sE:cP 75707:=eF (k:=276) (by decide) (by decide +kernel) (by decide +kernel)
def sF:cP 65147:=eF (k:=256) (by decide) (by decide +kernel) (by decide +kernel)
def qO:cP 1923133:=eF (k:=1387) (by decide) (by decide +kernel) (by decide +kernel)
def wW:cP 1919519569386763:=iH (q1:=8574133) (q2:=127) (a:=2) (k:=51) qN uJ (by decide +kernel)
def wV:cP 75445702479781427272750846543864801:=iH (q1:=1919519569386763) (q2:=75707) (a:=7) (k:=116) wW sE (by decide +kernel)
def wU:cP 74058212732561358302231226437062788676166966415465897661863160754340907:=iH (q1:=75445702479781427272750846543864801) (q2:=1923133) (a:=2) (k:=236) wV qO (by decide +kernel)
def p:Nat:=57896044618658097711785492504343953926634992332820282019728792003956564819949
def dU:cP p:=iH (q1:=74058212732561358302231226437062788676166966415465897661863160754340907) (q2:=65147) (a:=2) (k:=255) wU sF (by decide +kernel)
end Nums
namespace Nums
section
variable{n:Nat}[NeZero n]
omit [NeZero n] in
def val_mul(a b:Fin n):(a*b).val=a.val*b.val%n:=rfl
def val_zero:((0:Fin n)).val=0:=by simp
def val_one(hn:cP n):((1:Fin n)).val=1:=by show 1%n=1;exact a7 hn.1
def mV(hn:cP n):(0:Fin n)≠1:=by intro h;have:=congrArg Fin.val h;rw [val_one hn,val_zero] at this;omega
def zero_or(hn:cP n){a b:Fin n}(h:a*b=0):a=0\/b=0:=by
 have h1:a.val*b.val%n=0:=by rw [<-val_mul,h];exact val_zero
 have z:∀c:Fin n,n∣c.val->c=0:=λc hc=>by apply kI;rw [val_zero];exact tY hc c.isLt
 rcases hn.dvd_mul (j4 h1) with h2|h2
 .exact .inl (z a h2)
 .exact .inr (z b h2)
def dI(hn:cP n){a b:Fin n}(ha:a≠0)(hb:b≠0):a*b≠0:=λh=>by
 rcases zero_or hn h with h|h
 .exact ha h
 .exact hb h
def fK(a:Fin n):Nat->Fin n
  | 0=>1
  | k+1=>fK a k*a
def kP(a:Fin n):fK a 0=1:=rfl
def fE(a:Fin n)(k:Nat):fK a (k+1)=fK a k*a:=rfl
theorem mZ(a:Fin n)(j k:Nat):fK a (j+k)=fK a j*fK a k:=by
 induction k with
 | zero=>rw [cD,kP];grind
 | succ k ih=>rw [Nat.add_succ,fE,fE,ih];grind
def oK(a:Fin n):fK a 1=a:=by rw [fE,kP];grind
theorem yL(k:Nat):fK (1:Fin n) k=1:=by
 induction k with
 | zero=>rfl
 | succ k ih=>rw [fE,ih];grind
theorem wD(a:Fin n)(j k:Nat):fK a (j*k)=fK (fK a j) k:=by
 induction k with
 | zero=>rfl
 | succ k ih=>rw [uU,mZ,fE,ih]
theorem vX(a b:Fin n)(k:Nat):fK (a*b) k=fK a k*fK b k:=by
 induction k with
 | zero=>rw [kP,kP,kP];grind
 | succ k ih=>rw [fE,fE,fE,ih];grind
theorem wC(hn:cP n)(a:Fin n)(k:Nat):(fK a k).val=a.val^k%n:=by
 induction k with
 | zero=>rw [kP,val_one hn,Nat.pow_zero,a7 hn.1]
 | succ k ih=>rw [fE,val_mul,ih,cB,Nat.mod_mul_mod]
def pF(hn:cP n){a:Fin n}(ha:a≠0):fK a (n-1)=1:=by apply kI;rw [wC hn,val_one hn];apply tA hn;intro hd;apply ha;apply kI;rw [val_zero];exact tY hd a.isLt
def gV(a:Fin n):Fin n:=fK a (n-2)
def iW(hn:cP n){a:Fin n}(ha:a≠0):a*gV a=1:=by
 have h:=pF hn ha;have h2:n-1=(n-2)+1:=by have:=hn.1;omega
 rw [h2,fE] at h;unfold gV;rw [<-h];grind
def cancel(hn:cP n){a b c:Fin n}(hc:c≠0)(h:a*c=b*c):a=b:=by
 have h1:=iW hn hc;have:a*c*gV c=b*c*gV c:=by rw [h]
 grind
def rN(hn:cP n){a b:Fin n}(h:a*b=1):gV a=b:=by
 have ha:a≠0:=by rintro rfl;exact mV hn (by rw [<-h];grind)
 apply cancel hn ha;have:=iW hn ha;grind
def tO(hn:cP n){a b:Fin n}(h:a*a=b*b):a=b\/a = -b:=by
 have:(a-b)*(a+b)=0:=by grind
 rcases zero_or hn this with h|h
 .left;grind
 .right;grind
end
end Nums
namespace Nums
def Ed.closed{n:Nat}[NeZero n](x1 y1 x2 y2 d:Fin n)(h1:y1*y1-x1*x1=1+d*x1*x1*y1*y1)(h2:y2*y2-x2*x2=1+d*x2*x2*y2*y2) :
  (y1*y2+x1*x2)*(y1*y2+x1*x2)*(1+d*x1*x2*y1*y2)*(1+d*x1*x2*y1*y2)-(x1*y2+y1*x2)*(x1*y2+y1*x2)*(1-d*x1*x2*y1*y2)*(1-d*x1*x2*y1*y2)
   = (1+d*x1*x2*y1*y2)*(1+d*x1*x2*y1*y2)*(1-d*x1*x2*y1*y2)*(1-d*x1*x2*y1*y2)+d*(y1*y2+x1*x2)*(y1*y2+x1*x2)*(x1*y2+y1*x2)*(x1*y2+y1*x2):=by grind
def Ed.xJ{n:Nat}[NeZero n](x1 y1 x2 y2 x3 y3 d:Fin n)(h1:y1*y1-x1*x1=1+d*x1*x1*y1*y1)(h2:y2*y2-x2*x2=1+d*x2*x2*y2*y2)(h3:y3*y3-x3*x3=1+d*x3*x3*y3*y3) :
 ((x1*y2+y1*x2)*(1-d*x1*x2*y1*y2)*y3+(y1*y2+x1*x2)*(1+d*x1*x2*y1*y2)*x3)*((1+d*x2*x3*y2*y3)*(1-d*x2*x3*y2*y3)+d*x1*y1*(x2*y3+y2*x3)*(y2*y3+x2*x3))
 = (x1*(y2*y3+x2*x3)*(1+d*x2*x3*y2*y3)+y1*(x2*y3+y2*x3)*(1-d*x2*x3*y2*y3))*((1+d*x1*x2*y1*y2)*(1-d*x1*x2*y1*y2)+d*(x1*y2+y1*x2)*(y1*y2+x1*x2)*x3*y3):=by grind
def Ed.xI{n:Nat}[NeZero n](x1 y1 x2 y2 x3 y3 d:Fin n)(h1:y1*y1-x1*x1=1+d*x1*x1*y1*y1)(h2:y2*y2-x2*x2=1+d*x2*x2*y2*y2)(h3:y3*y3-x3*x3=1+d*x3*x3*y3*y3) :
 ((y1*y2+x1*x2)*(1+d*x1*x2*y1*y2)*y3+(x1*y2+y1*x2)*(1-d*x1*x2*y1*y2)*x3)*((1+d*x2*x3*y2*y3)*(1-d*x2*x3*y2*y3)-d*x1*y1*(x2*y3+y2*x3)*(y2*y3+x2*x3))
 = (y1*(y2*y3+x2*x3)*(1+d*x2*x3*y2*y3)+x1*(x2*y3+y2*x3)*(1-d*x2*x3*y2*y3))*((1+d*x1*x2*y1*y2)*(1-d*x1*x2*y1*y2)-d*(x1*y2+y1*x2)*(y1*y2+x1*x2)*x3*y3):=by grind
def Ed.key{n:Nat}[NeZero n]{X1 Y1 X2 Y2 D e s:Fin n}(h1:X1*X1+Y1*Y1=1+D*X1*X1*Y1*Y1)(h2:X2*X2+Y2*Y2=1+D*X2*X2*Y2*Y2)(h:D*X1*X2*Y1*Y2=e)(he:e*e=1)(hs:s*s=1) :
  (X1+s*e*Y1)*(X1+s*e*Y1)=D*((X1*Y1*(X2+s*Y2))*(X1*Y1*(X2+s*Y2))):=by
 have l:(X1+s*e*Y1)*(X1+s*e*Y1)=X1*X1+(s*s)*(e*e)*(Y1*Y1)+2*s*e*X1*Y1:=by grind only
 have r:D*((X1*Y1*(X2+s*Y2))*(X1*Y1*(X2+s*Y2)))=D*X1*X1*Y1*Y1*(X2*X2+(s*s)*(Y2*Y2))+2*s*(D*X1*X2*Y1*Y2)*X1*Y1:=by grind only
 rw [l,r,hs,he,h]
 have e1:(1:Fin n)*1*(Y1*Y1)=Y1*Y1:=by grind only
 have e2:(1:Fin n)*(Y2*Y2)=Y2*Y2:=by grind only
 have e3:D*X1*X1*Y1*Y1*(1+D*X2*X2*Y2*Y2)=D*X1*X1*Y1*Y1+(D*X1*X2*Y1*Y2)*(D*X1*X2*Y1*Y2):=by grind only
 rw [e1,e2,h1,h2,e3,h,he]
 grind only
section
variable{n:Nat}[NeZero n]
structure Ed.Pt(n:Nat) where
  x:Fin n
  y:Fin n
structure Ed.Good(n:Nat)[NeZero n](d:Fin n):Prop where
  pr:cP n
  two:(2:Fin n)≠0
  i:∃i:Fin n,i*i = -1
  d:∀t:Fin n,t*t≠d
namespace Ed
variable{d:Fin n}
def On(d:Fin n)(P:Pt n):Prop:=P.y*P.y-P.x*P.x=1+d*P.x*P.x*P.y*P.y
def complete(g:Good n d){x1 y1 x2 y2 e:Fin n}(h1:y1*y1-x1*x1=1+d*x1*x1*y1*y1)(h2:y2*y2-x2*x2=1+d*x2*x2*y2*y2)(he:e*e=1) :
  d*x1*x2*y1*y2≠e:=by
 intro h
 obtain⟨i,hi⟩:=g.i
 have e0:e≠0:=by rintro rfl;exact mV g.pr (by grind only)
 have hx1:x1≠0:=by rintro rfl;exact e0 (by grind only)
 have hy1:y1≠0:=by rintro rfl;exact e0 (by grind only)
 have hx2:x2≠0:=by rintro rfl;exact e0 (by grind only)
 have hi0:i≠0:=by rintro rfl;exact mV g.pr (by grind only)
 have g1:(i*x1)*(i*x1)+y1*y1=1+(-d)*(i*x1)*(i*x1)*y1*y1:=by
  have a:(i*x1)*(i*x1)+y1*y1=(i*i)*(x1*x1)+y1*y1:=by grind only
  have b:1+(-d)*(i*x1)*(i*x1)*y1*y1=1+(-d)*(i*i)*(x1*x1)*y1*y1:=by grind only
  rw [a,b,hi];grind only
 have g2:(i*x2)*(i*x2)+y2*y2=1+(-d)*(i*x2)*(i*x2)*y2*y2:=by
  have a:(i*x2)*(i*x2)+y2*y2=(i*i)*(x2*x2)+y2*y2:=by grind only
  have b:1+(-d)*(i*x2)*(i*x2)*y2*y2=1+(-d)*(i*i)*(x2*x2)*y2*y2:=by grind only
  rw [a,b,hi];grind only
 have g3:(-d)*(i*x1)*(i*x2)*y1*y2=e:=by
  have a:(-d)*(i*x1)*(i*x2)*y1*y2=(-d)*(i*i)*x1*x2*y1*y2:=by grind only
  rw [a,hi,<-h];grind only
 have key:∀s:Fin n,s*s=1->i*x2+s*y2=0:=by
  intro s hs;by_cases hz:i*x2+s*y2=0
  .exact hz
  exfalso;have hw:i*x1*y1*(i*x2+s*y2)≠0:=dI g.pr (dI g.pr (dI g.pr hi0 hx1) hy1) hz;have hm:=iW g.pr hw;have hk:=Ed.key g1 g2 g3 he hs;generalize i*x1*y1*(i*x2+s*y2)=w at hm hk;generalize i*x1+s*e*y1=v at hk;refine g.d (i*(v*gV w)) ?_;have a:i*(v*gV w)*(i*(v*gV w))=(i*i)*(v*v)*(gV w)*(gV w):=by grind only
  have b:(-1)*((-d)*(w*w))*gV w*gV w=d*(w*gV w)*(w*gV w):=by grind only
  rw [a,hi,hk,b,hm];grind only
 have k1:=key 1 (by grind only);have k2:=key (-1) (by grind only)
 have:(2:Fin n)*(i*x2)=0:=by grind only
 rcases zero_or g.pr this with h3|h3
 .exact g.two h3
 .exact dI g.pr hi0 hx2 h3
end Ed
end
end Nums
