import Derived.Test.YtedhfbgocgnilaaGreatDoorMa
import Derived.Laws.MakeOwn
import Derived.Maps.AppendAt
import Derived.Great.BuildSlice
import Derived.Lib.SlBytesConst
import Derived.Laws.IdiomStrings
import Derived.Laws.BytesArg
import Derived.Lib.LazyBuf
import Derived.Deep.RegionHeld3
import Derived.Laws.CopyOwn
open List.cons renaming injEq->BM
open Go.Addr renaming add_mid->lf
open Prod.mk renaming injEq->nS
open Option renaming map_some->kF
open Option.some renaming injEq->iv,inj->jm
open Bool renaming and_eq_true->dJ
open Go.Sem renaming run_bind->bI,run_pure->bM
open Go renaming FuncId->yi,IntKind->yj,Oper->yk,Value->yl,Program->ym,TypeId->yn,Operand->yo,World->yp
set_option linter.defProp false
open Go.Proofs.Tryz
set_option maxRecDepth 100000
open Array renaming replicate->bD,size_range->rE,size_map->sR,getD_eq_getD_getElem?->wv,length_toList->kD,getElem?_eq_getElem->xt,toList_append->wC,toArray_toList->BG,toList_map->Fp,ext'->Mz
open False renaming elim->tP
open Go.Builtin renaming append_->rD
open Go.Exit renaming inBlock->fB
open Go.Instr renaming sureAddr->gG,indexAt->pW,sliceAt->tN
open Go.Next renaming value->oO
open Go.Oper renaming upon->fE,wp->fW
open Go.Region renaming wanted->aU,ready->bC,binds->dE,noSelect->iK,noSelect_spec->Ac,free_spec->Fo
open Go.Result renaming ok->pE,andThen_ok->bS
open Go.Value renaming pointer->rC
open List renaming replicate->aB,range->dV,flatMap_cons->nB,set_eq_take_append_cons_drop->qQ,cons_ne_nil->rM,mem_or_eq_of_mem_set->tH,append_nil->fj,eq_nil_of_length_eq_zero->lB,length_append->aV,mem_singleton->bU,getElem?_eq_getElem->da,mem_cons->bT,getElem?_eq_some_iff->eY,mem_cons_of_mem->dS,mem_of_getElem?->eg,mem_cons_self->eh,length_take->du,append_assoc->ei,mem_map->dv,length_cons->fL,map_cons->eZ,mem_append->iA,getElem?_append_right->rz,take_append_drop->oN,length_drop->k7,all_eq_true->pS,nil_append->lD,getElem?_append_left->uk,getElem?_take->uq,map_toArray->yK,map_nil->xV,pairwise_iff_getElem->Pk,getElem_of_mem->Ly,length_map->dL,size_toArray->fx,take_of_length_le->kE,length_set->jO,not_mem_nil->xG,getElem_mem->AD,take_left->LV
open List.Pairwise renaming nil->qE,cons->rN
open Nat renaming blt->aW,beq->b9,ble->uF,le_mul_of_pos_right->vK,zero_add->dI,le_refl->aQ,le_of_ble_eq_true->cL,zero_le->bl,eq_of_beq_eq_true->gq,lt_of_lt_of_le->nP,add_zero->jP,add_sub_cancel_left->xD,lt_irrefl->ze,le_trans->fo,mod_lt->ke,min_eq_left->pq,mul_comm->oV,one_mul->qI,le_of_eq->vF,add_mul->zj,beq_refl->IH
open UInt8 renaming ofNat->bX,toNat_ofNat'->Aj
namespace Go.Proofs.Q
open Go.RowKit Go.IntWalk
def cN(P:ym)(b:bO)(c:Code)(Q:bK)(N:Nat)(e:Env):Prop:=∀a w,iz b N e a w->c.wp P Q a w
def cl(b:bO)(K:fg)(N:Nat)(e:Env):Prop:=∀a w,iz b N e a w->K a w
def wh:aG->aG->Prop
  | [],_=>True
  | p::r,E=>dG E p.1=some p.2/\wh r E
def BL:aH->Nat->Option mn
  | [],_=>none
  | x::r,j=>match b9 x.j j with
    | true=>some x
    | false=>BL r j
def xm:aH->aH->Prop
  | [],_=>True
  | x::r,L=>BL L x.j=some x/\tq x.j r=true/\xm r L
theorem wh.ok:∀{E' E:aG},wh E' E->jK E->jK E'
 | [],_,_,_=>λ_ hx=>by cases hx
 | (j,u)::r,E,hs,h=>λx hx=>by
  rcases bT.1 hx with rfl|hx
  .exact h.get hs.1
  .exact wh.ok hs.2 h x hx
theorem Sr:∀{L:aH} {j:Nat} {x:mn},BL L j=some x->x∈L/\x.j=j
 | [],_,_,h=>by cases h
 | y::r,j,x,h=>by
  unfold BL at h;split at h
  .rename_i e;injection h with h;subst h;exact⟨eh,gq e⟩
  .exact⟨dS _ (Sr h).1,(Sr h).2⟩
theorem xm.mem:∀{L' L:aH},xm L' L->∀x∈L',x∈L
 | [],_,_,_,h=>by cases h
 | y::r,L,h,x,hx=>by
  rcases bT.1 hx with rfl|hx
  .exact(Sr h.1).1
  .exact xm.mem h.2.2 x hx
def xm.names{L' L:aH}(h:xm L' L):∀j∈gM L',j∈gM L:=λj hj=>by obtain⟨x,hx,rfl⟩:=dv.1 hj;exact dv.2 ⟨x,h.mem x hx,rfl⟩
theorem xm.nodup:∀{L' L:aH},xm L' L->(gM L').Nodup
 | [],_,_=>List.nodup_nil
 | _::_,_,h=>List.nodup_cons.2 ⟨Ev h.2.1,xm.nodup h.2.2⟩
def axD{G:aK}{l m:aC}(h:m.Pairwise λi j=>G i≠G j)(hl:∀j∈l,j∈m)(hd:l.Nodup):l.Pairwise λi j=>G i≠G j:=by
 refine List.Pairwise.imp_of_mem (λ{x y} hx hy pw=>?_) hd;obtain⟨p,hp,e1⟩:=Ly (hl x hx);obtain⟨q,hq,e2⟩:=Ly (hl y hy);rw [<-e1,<-e2];rcases Nat.lt_trichotomy p q with h1|h1|h1
 .exact Pk.1 h p q hp hq h1
 .subst h1;exact absurd (e1.symm.trans e2) pw
 .exact(Pk.1 h q p hq hp h1).symm
theorem JF{G:aK}:∀{E' E:aG},wh E' E->Sub (bG G E') (bG G E)
 | [],_,_=>trivial
 | (k,v)::r,E,h=>⟨by rw [ou,h.1];rfl,JF h.2⟩
structure gj(e e':Env):Prop where
  E:wh e'.E e.E
  L:xm e'.L e.L
  R:e.R.Perm e'.R
  F:∀w,e.F w->e.M w->e'.F w
  M:∀w,e.M w->e'.M w
section
variable{b:bO}{N:Nat}{e e':Env}{a:Act}{w:yp}
def bj.less{G:aK}{S:cn}{L L':aH}{R:bF}{F M:aE}(h:bj b G S L R F M w)(hL:xm L' L):bj b G S L' R F M w:=by have hM:∀k,gP S G L' k->gP S G L k:=λk hk=>hk.imp id λ⟨j,hj,e⟩=>⟨j,hL.names j hj,e⟩;exact⟨λx hx=>h.var x (hL.mem x hx),axD h.apart hL.names hL.nodup,h.res,λj hj=>h.sep j (hL.names j hj),h.fact.less λk _ hk=>hk.imp id (hM k),h.fresh.less λk _ hk=>hk.imp id (hM k),h.chg,λk hk=>h.mine k (hM k hk),h.eS⟩
def iz.I0(h:iz b N e a w)(hw:gj e e'):iz b N e' a w:=by obtain⟨G,S,h1,h2,h3⟩:=h;refine⟨G,S,h1.sub (JF hw.E),hw.E.ok h2,?_⟩;have h4:=(h3.less hw.L).imp hw.F hw.M;exact { h4 with res:=h4.res.perm hw.R }
end
section
variable{P:ym}{b:bO}{Q:bK}{N:Nat}{e e':Env}
def ft{K:fg}(hw:gj e e')(h:cl b K N e'):cl b K N e:=λa w hs=>h a w (hs.I0 hw)
def cI{c:Code}(hw:gj e e')(h:cN P b c Q N e'):cN P b c Q N e:=λa w hs=>h a w (hs.I0 hw)
def ao{x y:Code}(h:∀K:fg,(∀e',cN P b y Q N e'->cl b K N e')->cN P b x (Exit.then K Q) N e):cN P b (.seq x y) Q N e:=λa w hs =>
 wp_seq_k λK hK=>h K (λ_ h' a' w' hs'=>hK _ _ (h' a' w' hs')) a w hs
def ef{id:Nat}{l:aN}(h:a9 P b l.toArray Q N l e):cN P b (.region id l.toArray false) Q N e:=λa w hs=>wp_region_lit (h a w hs)
def ck{id:Nat}{l:aN}{y:Code}(h:∀K:fg,(∀e',cN P b y Q N e'->cl b K N e')->a9 P b l.toArray (Exit.then K Q) N l e):cN P b (.seq (.region id l.toArray false) y) Q N e:=ao λK hK=>ef (h K hK)
def ah{ops:aZ}(h:cl b (Q .normal) N e):a9 P b ops Q N [] e:=λa w hs=>D9 (h a w hs)
def pD{c:yo}{x y:Code}{E:aG}{L:aH}{R:bF}{F M:aE}(t:Bool)(hc:aP E c=some (.b t))(h1:t=true->cN P b x Q N ⟨E,L,R,F,M⟩)(h2:t=false->cN P b y Q N ⟨E,L,R,F,M⟩):cN P b (.cond c x y) Q N ⟨E,L,R,F,M⟩:=λa w hs=>by have hs':=hs;obtain⟨G,S,h3⟩:=hs;exact wp_cond_split (h3.fr.eval (bH hc)) (λht=>h1 ht a w hs') (λht=>h2 ht a w hs')
def bn{c:yo}{x y:Code}{E:aG}{L:aH}{R:bF}{F M:aE}(p:Prop)[Decidable p](hc:aP E c=some (.b (decide p)))(h1:p->cN P b x Q N ⟨E,L,R,F,M⟩)(h2:¬p->cN P b y Q N ⟨E,L,R,F,M⟩):cN P b (.cond c x y) Q N ⟨E,L,R,F,M⟩ :=
 pD (decide p) hc (λh=>h1 (of_decide_eq_true h)) (λh=>h2 (of_decide_eq_false h))
def ir{c:yo}{x y:Code}{E:aG}{L:aH}{R:bF}{F M:aE}(hc:aP E c=some (.v (.bool true)))(h1:cN P b x Q N ⟨E,L,R,F,M⟩):cN P b (.cond c x y) Q N ⟨E,L,R,F,M⟩:=λa w hs=>by have hs':=hs;obtain⟨G,S,h3⟩:=hs;exact wp_cond_true (h3.fr.eval (bH hc)) (h1 a w hs')
def dY{c:yo}{x y:Code}{E:aG}{L:aH}{R:bF}{F M:aE}(hc:aP E c=some (.v (.bool false)))(h1:cN P b y Q N ⟨E,L,R,F,M⟩):cN P b (.cond c x y) Q N ⟨E,L,R,F,M⟩:=λa w hs=>by have hs':=hs;obtain⟨G,S,h3⟩:=hs;exact wp_cond_false (h3.fr.eval (bH hc)) (h1 a w hs')
def a8{id:Nat}{c:Code}(h:cN P b c (fB id Q) N e):cN P b (.block id c) Q N e:=λa w hs=>wp_block (h a w hs)
def aR(h:cl b (Q .normal) N e):cN P b .skip Q N e:=λa w hs=>wp_skip (h a w hs)
def cG{id:Nat}(h:cl b (Q (.exit id)) N e):cN P b (.exit id) Q N e:=λa w hs=>wp_exit (h a w hs)
def aJ(h:cl b (Q .ret) N e):cN P b .ret Q N e:=λa w hs=>wp_ret (h a w hs)
def cF{id:Nat}(h:cl b (Q .normal) N e):cl b (fB id Q (.exit id)) N e:=λa w hs=>by simp only [fB,if_true];exact h a w hs
def a6{id:Nat}{K:fg}(h:cl b (Q (.exit id)) N e):cl b (Exit.then K Q (.exit id)) N e:=h
def Ul{id id':Nat}(b8:(id==id')=false)(h:cl b (Q (.exit id)) N e):cl b (fB id' Q (.exit id)) N e:=λa w hs=>by simp only [fB];rw [if_neg (by simpa using b8)];exact h a w hs
theorem cY{σ:Type}{c:Code}(m:σ->Nat)(F:σ->Env)(I:σ->Prop)
 (round:∀s,I s->cN P b c (Exit.then (λa' w'=>∃s',I s'/\iz b N (F s') a' w'/\m s'<m s) Q) N (F s))(s0:σ)(h0:I s0):cN P b (.loop c) Q N (F s0):=λa w hs=>by
 obtain⟨G,S,h1,h2,h3⟩:=hs;refine am4 (σ:=σ×aK×cn) (m:=λx=>m x.1) (F:=λx=>bG x.2.1 (F x.1).E) (R:=λx w=>I x.1/\jK (F x.1).E/\bj b x.2.1 x.2.2 (F x.1).L (F x.1).R (F x.1).F (F x.1).M w) ?_ (s0,G,S) ⟨h0,h2,h3⟩ a h1
 rintro⟨s,G,S⟩ w ⟨hI,hE,hW⟩ a ha
 refine wp_mono (round s hI a w ⟨G,S,ha,hE,hW⟩) λx a' w' hx=>?_
 cases x with
 | normal =>
  obtain⟨s',hI',⟨G',S',h4,h5,h6⟩,hm⟩:=hx;exact⟨(s',G',S'),⟨hI',h5,h6⟩,h4,hm⟩
 | exit _=>exact hx
 | goto _=>exact hx
 | ret=>exact hx
 | panic _=>exact hx
 | outgrown=>exact hx
def cH{σ:Type}{m:σ->Nat}{F:σ->Env}{I:σ->Prop}{s:σ}(s':σ)(hI:I s')(hm:m s'<m s)(hw:gj e (F s')):cl b (λa' w'=>∃s',I s'/\iz b N (F s') a' w'/\m s'<m s) N e:=λ_ _ hs=>⟨s',hI,hs.I0 hw,hm⟩
end
inductive cM where
  | q (x:aL)
  | t (vs:oG)
def cM.eJ:cM->aq
  | .q x=>.q x
  | .t vs=>.t vs
def cM.den:cM->yl
  | .q x=>x.den
  | .t vs=>.tuple (vs.map aL.den).toArray
def cM.ql(r:cM)(G:aK):r.eJ.den G=r.den:=by cases r<;>rfl
abbrev cM.v(x:yl):cM:=.q (.c (.v x))
structure fm(α:Type) where
  ret:α->cM
  own:α->bF:=λ_=>[]
  p:α->aE:=λ_ _=>True
  n:α->aE:=λ_ _=>True
def Spec(f:yi)(args:cU)(own:bF)(F:aE){α:Type}(post:fm α):Prop :=
  ∀(w:yp) (S X:cn),gD own w S->(∀k,X k->k<w.heap.size/\¬S k)->iu (λk=>X k\/S k) F w ->
    Calls prog f args.toArray w λe w'=>∃x S',e = .returned (post.ret x).den/\(post.ret x).eJ.aI/\dO S w w'/\gD (post.own x) w' S'/\(∀k,S' k->k<w.heap.size->S k) /\
      iu (λk=>X k\/S' k) (post.p x) w'/\iu (λk=>k<w.heap.size\/S' k) (post.n x) w'
abbrev one(r:cM):fm Unit:={ ret:=λ_=>r }
def Spec.pure{f:yi}{args:cU}{F:aE}{r:cM}(hr:r.eJ.aI)(h:∀w,F w->Calls prog f args.toArray w λe w'=>e = .returned r.den/\Below w.heap.size w w'):Spec f args [] F (one r):=λw _ _ _ _ hF =>
 (h w hF.now).mono λ_ _ ⟨h1,h2⟩=>⟨(),λ_=>False,h1,hr,dO.wW h2,λ_ h=>h,λ_ h=>h.elim,λ_ _=>trivial,λ_ _=>trivial⟩
def Spec.imp{f:yi}{args:cU}{own:bF}{F F':aE}{α:Type}{post:fm α}(h:Spec f args own F post)(hF:∀w,F' w->F w):Spec f args own F' post:=λw S X bm hX hf=>h w S X bm hX (hf.imp hF)
def Eg:Nat->oG->aG
  | _,[]=>[]
  | j,v::vs=>(j,.q v)::Eg (j+1) vs
theorem RJ(G:aK):∀(vs:oG) (j:Nat),bG G (Eg j vs)=Js j (vs.map aL.den)
 | [],_=>rfl
 | v::vs,j=>by rw [Eg,bG,RJ G vs (j+1)];rfl
theorem RK:∀{vs:oG} {j:Nat},(∀v∈vs,v.aI)->jK (Eg j vs)
 | [],_,_=>λ_ h=>by cases h
 | v::vs,j,h=>jK.cons (RK λu hu=>h u (by simp [hu])) (h v (by simp))
def tk{α:Type}(b:bO)(post:fm α)(e:Ending)(w':yp):Prop:=∃x S',e = .returned (post.ret x).den/\(post.ret x).eJ.aI/\dO b.D b.B w'/\gD (post.own x) w' S'/\(∀k,S' k->k<b.B.heap.size->b.D k) /\
  iu (λk=>b.X k\/S' k) (post.p x) w'/\iu (λk=>k<b.B.heap.size\/S' k) (post.n x) w'
def ae4:aL->Bool
 | .c (.v _)=>true
 | .c (.b _)=>true
 | _=>false
theorem ay7{vs:List aL}(h:vs.all ae4=true):∀v∈vs,v.aI:=λv ab=>by
 have h2:=List.all_eq_true.1 h v ab;unfold ae4 at h2;split at h2
 .exact trivial
 .exact trivial
 .cases h2
def bA{f:yi}{fn:Func}{c:Code}{own:bF}{F:aE}{α:Type}{post:fm α}(vs:oG)(N:Nat)(hf:prog.funcs[f]?=some fn)(hb:fn.body=some c)
 (h:∀b:bO,cN prog b c (bodyPost prog fn (tk b post)) N ⟨Eg 0 vs,[],own,F,λ_=>True⟩)(hn:vs.length+(fn.ntmps-vs.length)=N:=by rfl)(ab:∀v∈vs,v.aI:=by exact ay7 rfl):Spec f (vs.map aL.den) own F post:=λw S X bm hX hF=>by
 refine R0 N hf hb (by simpa using hn) λa ha=>?_;refine h ⟨X,w,S⟩ a w ⟨λ_=>0,S,by rw [RJ];exact ha,RK ab,λx hx=>(by cases hx),qE,bm,λx hx=>(by cases hx),?_,λ_ _=>trivial,dO.refl _ _,λk hk _=>?_,hX⟩
 .exact hF.less λk _ hk=>hk.imp id λhk=>hk.elim id λ⟨j,hj,_⟩=>by cases hj
 .exact hk.elim id λ⟨j,hj,_⟩=>by cases hj
def yf(T:eG)(E:aG)(L:aH):List ResultVar->Option oG
  | []=>some []
  | .tmp t::r=>match dG E t,yf T E L r with
    | some (.q q),some qs=>some (q::qs)
    | _,_=>none
  | .cell t ty::r=>match dG E t,yf T E L r with
    | some (.a j off),some qs=>match mJ L j with
      | some ai=>match tE T ai ty off with
        | some q=>some (q::qs)
        | none=>none
      | none=>none
    | _,_=>none
def CD:oG->cM
  | [q]=>.q q
  | qs=>.t qs
def Ny(tmps:ct):ResultVar->Sem yl
  | .tmp t=>pure (tmps.getD t undef)
  | .cell p t=>do loadVar t (<-asAddr (tmps.getD p undef))
theorem GP{P:ym}{T:eG}(hT:fh P T){E:aG}{L:aH}(hE:jK E)(hL:MV L){N:Nat}{G:aK}{a:Act}{w:yp}(ha:Fr N (bG G E) a)(hl:Gt G L w){r:ResultVar}{rs:List ResultVar}{qs:oG}(h:yf T E L (r::rs)=some qs) :
  ∃q qs',qs=q::qs'/\q.aI/\(Ny a.tmps r).run P w = .ok q.den w/\yf T E L rs=some qs':=by
 cases r with
 | tmp t =>
  simp only [yf] at h
  split at h
  .rename_i q qs' h1 h2;injection h with h;subst h;have e:a.tmps.getD t undef=q.den:=ha.get t _ (by rw [ou,h1];rfl);exact⟨q,qs',rfl,hE.get h1,by simp only [Ny,bM,e],h2⟩
  .cases h
 | cell t ty =>
  simp only [yf] at h
  split at h
  .rename_i j off qs' h1 h2
   split at h
   .rename_i ai hps
    split at h
    .rename_i q hq;injection h with h;subst h;obtain⟨y,hy,rfl,rfl⟩:=tR hps;obtain⟨h5,h6⟩:=O4 hT (hL y hy) hq;have e:a.tmps.getD t undef = .pointer (some ⟨G y.j,off,none⟩):=ha.get t _ (by rw [ou,h1];rfl);have h7:=h6 (hl y hy);simp only [Instr.loadAt,gG,bI,bM,bS] at h7;exact⟨q,qs',rfl,h5,by simp only [Ny,bI,bM,bS,e,asAddr,h7],h2⟩
    .cases h
   .cases h
  .cases h
def ayU(fn:Func)(tmps:ct):results fn tmps=(do
  let vs <-fn.results.mapM (Ny tmps)
  pure (if h:vs.size=1 then vs[0] else .tuple vs)):=by
 unfold results
 congr 2
def afM{P:ym}{T:eG}(hT:fh P T){E:aG}{L:aH}(hE:jK E)(hL:MV L){N:Nat}{G:aK}{fn:Func}{a:Act}{w:yp}(ha:Fr N (bG G E) a)(hl:Gt G L w){rs:List ResultVar}{qs:oG}(hr:fn.results=rs.toArray)(hs:rs.length<=3)(h:yf T E L rs=some qs) :
  (CD qs).eJ.aI/\(results fn a.tmps).run P w = .ok (CD qs).den w:=by
 rw [ayU,hr]
 rcases rs with _|⟨r1,_|⟨r2,_|⟨r3,_|⟨r4,rs⟩⟩⟩⟩
 .cases h;exact⟨λ_ h=>(by cases h),by simp [CD,cM.den]⟩
 .obtain⟨q1,qs,rfl,o1,e1,h⟩:=GP hT hE hL ha hl h;cases h;exact⟨o1,by simp [CD,cM.den,e1]⟩
 .obtain⟨q1,qs,rfl,o1,e1,h⟩:=GP hT hE hL ha hl h;obtain⟨q2,qs,rfl,o2,e2,h⟩:=GP hT hE hL ha hl h;cases h;refine⟨λx hx=>?_,by simp [CD,cM.den,e1,e2]⟩;simp only [bT,xG,or_false] at hx;rcases hx with rfl|rfl<;>assumption
 .obtain⟨q1,qs,rfl,o1,e1,h⟩:=GP hT hE hL ha hl h;obtain⟨q2,qs,rfl,o2,e2,h⟩:=GP hT hE hL ha hl h;obtain⟨q3,qs,rfl,o3,e3,h⟩:=GP hT hE hL ha hl h;cases h;refine⟨λx hx=>?_,by simp [CD,cM.den,e1,e2,e3]⟩;simp only [bT,xG,or_false] at hx;rcases hx with rfl|rfl|rfl<;>assumption
 .simp at hs
def dk{T:eG}(hT:fh prog T){b:bO}{fn:Func}{N:Nat}{E:aG}{L:aH}{R:bF}{F M:aE}{α:Type}{post:fm α}{rs:List ResultVar}{qs:oG}(x:α)(hr:fn.results=rs.toArray)(h:yf T E L rs=some qs)
 (hx:post.ret x=CD qs)(hR:post.own x=R)(hp:∀w,F w->M w->post.p x w)(hn:∀w,M w->post.n x w)(hs:rs.length<=3:=by decide):cl b (bodyPost prog fn (tk b post) .ret) N ⟨E,L,R,F,M⟩:=λa w ⟨G,S,h1,h2,h3⟩=>by
 obtain⟨h4,h5⟩:=afM hT h2 h3.zu h1 h3.at hr hs h;refine bodyPost_ret h5 h1.defers ⟨x,S,by rw [hx],by rw [hx];exact h4,h3.chg,by rw [hR];exact h3.res,λk hk al=>h3.mine k (.inl hk) al,(h3.all.imp λw hw=>hp w hw.1 hw.2).less λk _ hk=>hk.imp id .inl,(h3.fresh.imp hn).less λk _ hk=>hk.imp id .inl⟩
def x8{T:eG}(hT:fh prog T){b:bO}{fn:Func}{N:Nat}{E:aG}{L:aH}{R:bF}{F M:aE}{α:Type}{post:fm α}{rs:List ResultVar}{qs:oG}(x:α)(hr:fn.results=rs.toArray)(h:yf T E L rs=some qs)
 (hx:(post.ret x).den=(CD qs).den)(ho:(post.ret x).eJ.aI)(hR:post.own x=R)(hp:∀w,F w->M w->post.p x w)(hn:∀w,M w->post.n x w)(hs:rs.length<=3:=by decide):cl b (bodyPost prog fn (tk b post) .ret) N ⟨E,L,R,F,M⟩:=λa w ⟨G,S,h1,h2,h3⟩=>by
 obtain⟨h4,h5⟩:=afM hT h2 h3.zu h1 h3.at hr hs h;refine bodyPost_ret h5 h1.defers ⟨x,S,by rw [hx],ho,h3.chg,by rw [hR];exact h3.res,λk hk al=>h3.mine k (.inl hk) al,(h3.all.imp λw hw=>hp w hw.1 hw.2).less λk _ hk=>hk.imp id .inl,(h3.fresh.imp hn).less λk _ hk=>hk.imp id .inl⟩
structure View(G:aK)(S:cn)(L:aH)(R:bF)(F M:aE)(w:yp):Prop where
  var:∀x∈L,bB w (G x.j) x.t (a7 x.ai)/\ch x.ai/\∀g,x.g=some g->G x.j=g
  res:gD R w S
  fact:F w
  fresh:M w
section
variable{b:bO}{G:aK}{S:cn}{L:aH}{R R' own:bF}{F M F':aE}{w w':yp}{α:Type}{post:fm α}{f:yi}{args:cU}
def bj.view(h:bj b G S L R F M w):View G S L R F M w:=⟨h.var,h.res,h.fact.now,h.all.now.2⟩
def bj.split(h:bj b G S L (own++R') F M w):∃S1 S2,gD own w S1/\gD R' w S2/\(∀k,S k↔S1 k\/S2 k)/\∀k,S1 k->¬S2 k:=gD.app.1 h.res
def bj.Nl(h:bj b G S L R F M w){S1 S2 S':cn}(bm:∀k,S k↔S1 k\/S2 k)(hc:dO S1 w w')(hr:gD R' w' λk=>S' k\/S2 k)(hS':∀k,S' k->k<w.heap.size->S1 k):bj b G (λk=>S' k\/S2 k) L R' F M w':=by
 have SG:∀k,S1 k->gP S G L k:=λk hk=>.inl ((bm k).2 (.inl hk));have hM:∀k,k<w.heap.size->gP (λk=>S' k\/S2 k) G L k->gP S G L k:=λk al hk=>hk.imp (λhk=>(bm k).2 (hk.imp (λh=>hS' k h al) id)) id;refine⟨λx hx=>⟨(hc.block _ (h.var x hx).1.lt λhs=>h.sep x.j (dv.2 ⟨x,hx,rfl⟩) ((bm _).2 (.inl hs))).trans (h.var x hx).1,(h.var x hx).2⟩,h.apart,hr,λj hj hs=>?_,?_,?_,h.chg.step hc λi hi hs=>h.mine i (SG i hs) hi,λk hk al=>h.mine k (hM k (nP al h.chg.size) hk) al,h.eS⟩
 .have al:=h.lt (G j) (.inr ⟨j,hj,rfl⟩);exact h.sep j hj ((bm _).2 (hs.imp (λh=>hS' _ h al) id))
 .exact h.fact.AW (D':=xh b.X (λk=>S' k\/S2 k) G L) (hc.mono (D':=xh b.X S G L) λi _ hs=>.inr (SG i hs)) λi hi hd=>hd.imp id (hM i hi)
 .exact h.fresh.AW (D':=Br b (λk=>S' k\/S2 k) G L) (hc.mono (D':=Br b S G L) λi _ hs=>.inr (SG i hs)) λi hi hd=>hd.imp id (hM i hi)
def bj.Uz(h:bj b G S L (own++R') F M w){S1 S2 S':cn}{own':bF}(h2:gD R' w S2)(bm:∀k,S k↔S1 k\/S2 k)(hd:∀k,S1 k->¬S2 k)(hc:dO S1 w w')(h1':gD own' w' S')(hS':∀k,S' k->k<w.heap.size->S1 k) :
  bj b G (λk=>S' k\/S2 k) L (own'++R') F M w':=h.Nl bm hc (gD.app.2 ⟨S',S2,h1',h2.fO λk hk=>hc.block k (h2.lt k hk) λhs=>hd k hs hk,λ_=>Iff.rfl,λk hk iD=>hd k (hS' k hk (h2.lt k iD)) iD⟩) hS'
def bj.put(h:bj b G S L R F M w){i:Nat}{r:fS}(hi:R[i]?=some r):∃S1,r.holds w S1/\∀(r':fS) (w':yp) (S':cn),dO S1 w w'->r'.holds w' S'->(∀k,S' k->k<w.heap.size->S1 k)->∃S'',bj b G S'' L (R.set i r') F M w':=by obtain⟨S1,S2,h1,h2,h3,h4,h5⟩:=h.res.at hi;refine⟨S1,h1,λr' w' S' hc hr hS'=>⟨_,h.Nl h2 hc (h5 r' w' S' hr (λk hk=>hc.block k (h4.lt k hk) λhs=>h3 k hs hk) λk hk iD=>h3 k (hS' k hk (h4.lt k iD)) iD) hS'⟩⟩
def bj.xI(h:bj b G S L R F M w)(k:Below w.heap.size w w'){r:fS}{S':cn}(hr:r.holds w' S')(hn:∀k,S' k->w.heap.size<=k):∃S'',bj b G S'' L (r::R) F M w':=by
 refine⟨_,h.Nl (S1:=λ_=>False) (S2:=S) (S':=S') (λk=>⟨.inr,λh=>h.elim tP id⟩) (dO.wW k) ⟨S',S,hr,h.res.fO λi hi=>k.block i (h.res.lt i hi),λ_=>Iff.rfl,λi hi hs=>?_⟩ λi hi al=>?_⟩
 .exact ze _ (nP (h.res.lt i hs) (hn i hi))
 .exact ze _ (nP al (hn i hi))
def bj.let(h:bj b G S L R F M w){i:Nat}{r:fS}(hi:R[i]?=some r):∃S1 S2,r.holds w S1/\(∀k,S1 k->¬S2 k)/\(∀k,S k↔S1 k\/S2 k)/\bj b G S2 L (R.eraseIdx i) F M w:=by obtain⟨S1,S2,h1,h2,h3,h4,_⟩:=h.res.at hi;have hM:∀k,gP S2 G L k->gP S G L k:=λk hk=>hk.imp (λh=>(h2 k).2 (.inr h)) id;exact⟨S1,S2,h1,h3,h2,{ h with res:=h4,sep:=λj hj hs=>h.sep j hj ((h2 _).2 (.inr hs)),fact:=h.fact.less λk _ hk=>hk.imp id (hM k),fresh:=h.fresh.less λk _ hk=>hk.imp id (hM k),mine:=λk hk=>h.mine k (hM k hk) }⟩
def bj.RZ(h:bj b G S L (own++R') F M w)(hs:Spec f args own F' post)(hF:∀w,F w->M w->F' w) :
  Calls prog f args.toArray w λe w'=>∃x S',e = .returned (post.ret x).den/\(post.ret x).eJ.aI/\bj b G S' L (post.own x++R') (λw=>post.p x w/\F w) (λw=>post.n x w/\M w) w':=by
 obtain⟨S1,S2,h1,h2,bm,hd⟩:=h.split
 have hX:∀k,b.X k\/(S2 k\/∃j∈gM L,G j=k)->k<w.heap.size/\¬S1 k:=λk hk=>by
  rcases hk with hk|hk|⟨j,hj,rfl⟩
  .exact⟨nP (h.eS k hk).1 h.chg.size,λhs=>(h.eS k hk).2 (h.mine k (.inl ((bm k).2 (.inl hs))) (h.eS k hk).1)⟩
  .exact⟨h2.lt k hk,λhs=>hd k hs hk⟩
  .exact⟨h.lt _ (.inr ⟨j,hj,rfl⟩),λhs=>h.sep j hj ((bm _).2 (.inl hs))⟩
 refine(hs w S1 (λk=>b.X k\/(S2 k\/∃j∈gM L,G j=k)) h1 hX ((h.all.imp λw hw=>hF w hw.1 hw.2).less λk _ hk=>?_)).mono ?_
 .rcases hk with(hk|hk|hk)|hk
  .exact .inl hk
  .exact .inr (.inl ((bm k).2 (.inr hk)))
  .exact .inr (.inr hk)
  .exact .inr (.inl ((bm k).2 (.inl hk)))
 .rintro e w' ⟨x,S',he,bx,hc,h1',hS',hp,hn⟩
  have h3:=h.Uz h2 bm hd hc h1' hS';refine⟨x,_,he,bx,(h3.and (p:=post.p x) (hp.less λk _ hk=>?_)).andM (p:=post.n x) (hn.less λk _ hk=>?_)⟩
  .rcases hk with hk|(hk|hk)|hk
   .exact .inl (.inl hk)
   .exact .inr hk
   .exact .inl (.inr (.inl hk))
   .exact .inl (.inr (.inr hk))
  .rcases hk with hk|(hk|hk)|⟨j,hj,rfl⟩
   .exact .inl (nP hk h.chg.size)
   .exact .inr hk
   .exact .inl (h2.lt k hk)
   .exact .inl (h.lt _ (.inr ⟨j,hj,rfl⟩))
def bj.am8(h:bj b G S L (own++R') F M w)(hs:Spec f args own F' post)(hF:∀S w,View G S L R' F M w->F' w) :
  Calls prog f args.toArray w λe w'=>∃x S',e = .returned (post.ret x).den/\(post.ret x).eJ.aI/\bj b G S' L (post.own x++R') F (λw=>post.n x w/\M w) w':=by
 obtain⟨S1,S2,h1,h2,bm,hd⟩:=h.split;have hX:∀k,b.X k->k<w.heap.size/\¬S1 k:=λk hk=>⟨nP (h.eS k hk).1 h.chg.size,λhs=>(h.eS k hk).2 (h.mine k (.inl ((bm k).2 (.inl hs))) (h.eS k hk).1)⟩;have Zj:∀k,b.X k->¬gP S G L k:=λk hk hm=>(h.eS k hk).2 (h.mine k hm (h.eS k hk).1);refine(hs w S1 b.X h1 hX λw1 fy=>hF S2 w1 ⟨λx hx=>⟨?_,(h.var x hx).2⟩,h2.fO λk hk=>fy.block k (h2.lt k hk) ?_,?_,?_⟩).mono ?_
 .have hm:gP S G L (G x.j):=.inr ⟨x.j,dv.2 ⟨x,hx,rfl⟩,rfl⟩
  refine(fy.block _ (h.var x hx).1.lt λhk=>?_).trans (h.var x hx).1;rcases hk with hk|hk
  .exact Zj _ hk hm
  .exact h.sep x.j (dv.2 ⟨x,hx,rfl⟩) ((bm _).2 (.inl hk))
 .rintro(hk1|hk1)
  .exact Zj k hk1 (.inl ((bm k).2 (.inr hk)))
  .exact hd k hk1 hk
 .exact(h.all w1 (fy.mono λk _ hk=>hk.imp id λhk=>.inl ((bm k).2 (.inl hk)))).1
 .exact(h.all w1 (fy.mono λk _ hk=>hk.imp id λhk=>.inl ((bm k).2 (.inl hk)))).2
 .rintro e w' ⟨x,S',he,bx,hc,h1',hS',hp,hn⟩
  have h3:=h.Uz h2 bm hd hc h1' hS';refine⟨x,_,he,bx,h3.andM (p:=post.n x) (hn.less λk _ hk=>?_)⟩;rcases hk with hk|(hk|hk)|⟨j,hj,rfl⟩
  .exact .inl (nP hk h.chg.size)
  .exact .inr hk
  .exact .inl (h2.lt k hk)
  .exact .inl (h.lt _ (.inr ⟨j,hj,rfl⟩))
end
section
variable{b:bO}{ops:aZ}{Q:bK}{N:Nat}{E:aG}{L:aH}{R R' own:bF}{F M F':aE}{o:yk}{rest:aN}{k:Nat}{α:Type}{post:fm α}{f:yi}{xs:na}{ats:mX}{svs:nH}
def JA{G:aK}{a:Act}{w:yp}(hf:Own f)(ho:o.op = .call { callee:=.value (.func f),args:=xs,argTypes:=ats })(hx:lg E xs.toList=some svs)(ha:Fr N (bG G E) a) :
  (execOp a.eval o).run prog w = .ok (.enter f (svs.map (aq.den G)).toArray) w:=by
 rw [IL hf ho,ya (ha.Af _ _ (by rw [vh hx]))]
def Uq(args:cU)(hg:o.guard=none)(hd:o.dst=some k)(hk:aW k N=true)(hf:Own f)(ho:o.op = .call { callee:=.value (.func f),args:=xs,argTypes:=ats })(hx:lg E xs.toList=some svs)
 (ha:∀G:aK,(∀x∈L,∀g,x.g=some g->G x.j=g)->svs.map (aq.den G)=args)(hs:Spec f args own F' post)(hF:∀w,F w->M w->F' w)
 (hn:∀x,a9 prog b ops Q N rest ⟨(k,(post.ret x).eJ)::E,L,post.own x++R',λw=>post.p x w/\F w,λw=>post.n x w/\M w⟩):a9 prog b ops Q N (o::rest) ⟨E,L,own++R',F,M⟩:=λa w ⟨G,S,h1,h2,h3⟩=>by
 have hr:=JA (w:=w) hf ho hx h1;rw [ha G λx hx=>(h3.var x hx).2.2] at hr
 unfold wpList
 rw [if_pos (by simp [aU,hg])];refine .inl ?_
 unfold fW
 rw [hr];simp only [fE,hd];refine(h3.RZ hs hF).mono ?_
 rintro e w' ⟨x,S',rfl,bx,h4⟩
 have h5:=h1.put hk (post.ret x).den;rw [<-cM.ql _ G] at h5;have h6:=hn x _ w' ⟨G,S',h5,h2.cons bx,h4⟩;rw [cM.ql] at h6;exact h6
def Ur(args:aK->cU)(hq:di o k N)(ho:o.op = .call { callee:=.value (.func f),args:=xs,argTypes:=ats })(hx:lg E xs.toList=some svs)
 (ha:∀G:aK,(∀x∈L,∀g,x.g=some g->G x.j=g)->svs.map (aq.den G)=args G)(F':aK->aE)(hs:∀G,Spec f (args G) own (F' G) post)(hF:∀G S w,View G S L R' F M w->F' G w)
 (hn:∀x,a9 prog b ops Q N rest ⟨(k,(post.ret x).eJ)::E,L,post.own x++R',F,λw=>post.n x w/\M w⟩)(hf:Own f:=by exact λ_ _=>by go_simp):a9 prog b ops Q N (o::rest) ⟨E,L,own++R',F,M⟩:=λa w ⟨G,S,h1,h2,h3⟩=>by
 have hr:=JA (w:=w) hf ho hx h1;rw [ha G λx hx=>(h3.var x hx).2.2] at hr
 unfold wpList
 rw [if_pos (by simp [aU,(eB hq)])];refine .inl ?_
 unfold fW
 rw [hr];simp only [fE,(eC hq)];refine(h3.am8 (hs G) (hF G)).mono ?_
 rintro e w' ⟨x,S',rfl,bx,h4⟩
 have h5:=h1.put (dQ hq) (post.ret x).den;rw [<-cM.ql _ G] at h5;have h6:=hn x _ w' ⟨G,S',h5,h2.cons bx,h4⟩;rw [cM.ql] at h6;exact h6
def aIP{r:cM}(args:cU)(hq:di o k N)(hf:Own f)(ho:o.op = .call { callee:=.value (.func f),args:=xs,argTypes:=ats })(hx:lg E xs.toList=some svs)
 (ha:∀G:aK,(∀x∈L,∀g,x.g=some g->G x.j=g)->svs.map (aq.den G)=args)(hr:r.eJ.aI)(hs:∀G S w,View G S L R F M w->Calls prog f args.toArray w λe w'=>e = .returned r.den/\Below w.heap.size w w')
 (hn:a9 prog b ops Q N rest ⟨(k,r.eJ)::E,L,R,F,M⟩):a9 prog b ops Q N (o::rest) ⟨E,L,R,F,M⟩:=λa w ⟨G,S,h1,h2,h3⟩=>by
 have hr':=JA (w:=w) hf ho hx h1;rw [ha G λx hx=>(h3.var x hx).2.2] at hr'
 unfold wpList
 rw [if_pos (by simp [aU,(eB hq)])];refine .inl ?_
 unfold fW
 rw [hr'];simp only [fE,(eC hq)];refine(hs G S w h3.view).mono ?_
 rintro e w' ⟨rfl,hb⟩
 have h5:=h1.put (dQ hq) r.den;rw [<-cM.ql _ G] at h5;have h6:=hn _ w' ⟨G,S,h5,h2.cons hr,h3.later hb⟩;rw [cM.ql] at h6;exact h6
def zn{P:ym}(v:aq)(ab:v.aI)(h:∀(G:aK) (S:cn) (w:yp) (C0:aE) (Q':Act->Prop),View G S L R F M w->(∀w',C0 w'->w'=w)->jc P ops C0 Q' [] N ((k,v.den G)::bG G E)->jc P ops C0 Q' [o] N (bG G E))(hs:pM o.op=true)
 (hn:a9 P b ops Q N rest ⟨(k,v)::E,L,R,F,M⟩):a9 P b ops Q N (o::rest) ⟨E,L,R,F,M⟩:=λa w ⟨G,S,h1,h2,h3⟩=>by
 refine Ri [o] a w (by simp [hs]) (h G S w (· = w) _ h3.view (λ_ h=>h) (λa' ha'=>Gm ?_) a h1);exact hn a' w ⟨G,S,ha',h2.cons ab,h3⟩
def me{P:ym}{l:aN}(k:Nat){v:aq}(v':aq)(h:dG E k=some v)(he:v=v')(hn:a9 P b ops Q N l ⟨(k,v')::E,L,R,F,M⟩):a9 P b ops Q N l ⟨E,L,R,F,M⟩:=λa w ⟨G,S,h1,h2,h3⟩=>by subst he;exact hn a w ⟨G,S,h1.more (h1.get k _ (by rw [ou,h];rfl)),h2.cons (h2.get h),h3⟩
def pd{P:ym}{l:aN}(k:Nat){t:Bool}(q:Bool)(h:dG E k=some (.b t))(he:t=q)(hn:a9 P b ops Q N l ⟨(k,.v (.bool q))::E,L,R,F,M⟩):a9 P b ops Q N l ⟨E,L,R,F,M⟩:=λa w ⟨G,S,h1,h2,h3⟩=>by subst he;exact hn a w ⟨G,S,h1.more (h1.get k _ (by rw [ou,h];rfl)),h2.cons trivial,h3⟩
def ca{P:ym}{l:aN}(k:Nat){K:yj}{m:Int}(n:Int)(h:dG E k=some (.v (.int K m)))(he:m=n)(hn:a9 P b ops Q N l ⟨(k,.v (.int K n))::E,L,R,F,M⟩):a9 P b ops Q N l ⟨E,L,R,F,M⟩:=me k _ h (by rw [he]) hn
end
def kc(P:ym)(_b:bO)(ops:aZ)(Q:bK)(N:Nat)(T:aN)(G:aK)(w0:yp)(l:List (Nat×yk))(E:aG):Prop:=jK E->sk P zQ ops (cA w0) (xC P ops Q (cA w0) T) l N (bG G E) []
section
variable{P:ym}{b:bO}{Q:bK}{N:Nat}{E:aG}{L:aH}{R:bF}{F M:aE}{id:Nat}{l:aN}
def QD(n:Nat)
 (h:∀G S w0,bj b G S L R F M w0->kc P b l.toArray Q N (l.drop n) G w0 (idx 0 (l.take n)) E)(aF:D3 l.toArray n (l.drop n).length=true:=by kernel_rfl)(hm:P.follows .mixedOrders=true:=by kernel_rfl)(hn:n<=l.length:=by decide):cN P b (.region id l.toArray true) Q N ⟨E,L,R,F,M⟩:=λa w ⟨G,S,h1,h2,h3⟩ =>
 c_g n hn hm aF (h G S w h3 h2) a h1
def rT{y:Code}(n:Nat)
 (h:∀K:fg,(∀e',cN P b y Q N e'->cl b K N e')->∀G S w0,bj b G S L R F M w0->kc P b l.toArray (Exit.then K Q) N (l.drop n) G w0 (idx 0 (l.take n)) E)(aF:D3 l.toArray n (l.drop n).length=true:=by kernel_rfl)(hm:P.follows .mixedOrders=true:=by kernel_rfl)(hn:n<=l.length:=by decide):cN P b (.seq (.region id l.toArray true) y) Q N ⟨E,L,R,F,M⟩:=ao λK hK=>QD n (hn:=hn) (hm:=hm) (aF:=aF) (h K hK)
end
def GI(T:eG)(ops:aZ)(N:Nat)(L:aH):List (Nat×yk)->aG->List (Nat×yk)×aG
  | [],E=>([],E)
  | (i,o)::l,E=>match vR ops N E o with
    | none=>((i,o)::l,E)
    | some false=>match o.dst with
      | some k=>match aW k N with
        | true=>GI T ops N L l ((k,.v undef)::E)
        | false=>((i,o)::l,E)
      | none=>((i,o)::l,E)
    | some true=>match o.dst with
      | some k=>match aW k N with
        | true=>match nz T E L o.op with
          | some v=>GI T ops N L l ((k,v)::E)
          | none=>((i,z6 o)::l,E)
        | false=>((i,o)::l,E)
      | none=>((i,z6 o)::l,E)
section
variable{P:ym}{b:bO}{T:eG}{ops:aZ}{Q:bK}{N:Nat}{T':aN}{G:aK}{S:cn}{L:aH}{R:bF}{F M:aE}{w0:yp}
theorem RL(hT:fh P T)(aa:bj b G S L R F M w0):∀{l:List (Nat×yk)} {E:aG},kc P b ops Q N T' G w0 (GI T ops N L l E).1 (GI T ops N L l E).2->kc P b ops Q N T' G w0 l E
 | [],_,h=>h
 | (i,o)::l,E,h=>by
  unfold GI at h;cases hw:vR ops N E o with
  | none=>rw [hw] at h;exact h
  | some q =>
   rw [hw] at h
   intro hE a Fa ha hF
   have qh:=Gk ha hw
   cases q with
   | false =>
    dsimp only at h
    cases hd:o.dst with
    | none=>rw [hd] at h;exact h hE a Fa ha hF
    | some k =>
     rw [hd] at h
     dsimp only at h
     cases hk:aW k N with
     | false=>rw [hk] at h;exact h hE a Fa ha hF
     | true =>
      rw [hk] at h
      unfold gO
      rw [qh,if_neg (by decide)]
      dsimp only
      rw [hd];exact RL hT aa h (hE.cons (v:=.v undef) trivial) _ _ (ha.put hk undef) (hF.up rfl)
   | true =>
    dsimp only at h
    have kN:kc P b ops Q N T' G w0 ((i,z6 o)::l) E->gO P zQ ops (cA w0) (xC P ops Q (cA w0) T') ((i,o)::l) Fa a:=λh1=>by have h1:=h1 hE a Fa ha hF;obtain⟨dst,op,ty,pos,af,gd⟩:=o;unfold gO at h1 ⊢;rw [if_pos qh];rw [if_pos (by rfl)] at h1;exact h1
    cases hd:o.dst with
    | none=>rw [hd] at h;exact kN h
    | some k =>
     rw [hd] at h
     dsimp only at h
     cases hk:aW k N with
     | false=>rw [hk] at h;exact h hE a Fa ha hF
     | true =>
      rw [hk] at h
      dsimp only at h
      cases ab:nz T E L o.op with
      | none=>rw [ab] at h;exact kN h
      | some v =>
       rw [ab] at h;obtain⟨h1,h2⟩:=zH hT hE aa.zu ab;refine yO rfl (λa ha=>BD (Gk ha hw) (λw hw=>h2 ha (aa.later hw.1).at) ?_) a Fa ha hF;rw [hd];exact yN (o:=o) (RL hT aa h (hE.cons h1)) _ (ha.put hk _)
def fa(hT:fh P T)(aa:bj b G S L R F M w0){l l':List (Nat×yk)}{E E':aG}(h:GI T ops N L l E=(l',E'))(hn:kc P b ops Q N T' G w0 l' E'):kc P b ops Q N T' G w0 l E:=RL hT aa (by rw [h];exact hn)
def p1(aa:bj b G S L R F M w0){E:aG}(h:a9 P b ops Q N T' ⟨E,L,R,F,M⟩):kc P b ops Q N T' G w0 [] E:=λhE=>NH λw hw _ a ha=>h a w ⟨G,S,ha,hE,aa.later hw⟩
variable{E:aG}{o:yk}{rest:List (Nat×yk)}{i k:Nat}
def g_f(aa:bj b G S L R F M w0)(v:aq)(ab:v.aI)(h:∀(C0:aE) (Q':Act->Prop),(∀w,C0 w->View G S L R F M w)->jc P ops C0 Q' [] N ((k,v.den G)::bG G E)->jc P ops C0 Q' [o] N (bG G E))(hn:kc P b ops Q N T' G w0 rest ((k,v)::E)):kc P b ops Q N T' G w0 ((i,o)::rest) E:=λhE =>
 yO rfl (h _ _ (λ_ hw=>(aa.later hw.1).view) (yN (o:=o) (hn (hE.cons ab))))
def aoO{l:List (Nat×yk)}(k:Nat){v:aq}(v':aq)(h:dG E k=some v)(he:v=v')(hn:kc P b ops Q N T' G w0 l ((k,v')::E)):kc P b ops Q N T' G w0 l E:=λhE=>by subst he;intro a Fa ha hF;exact hn (hE.cons (hE.get h)) a Fa (ha.more (ha.get k _ (by rw [ou,h];rfl))) hF
def YU{l:List (Nat×yk)}(k:Nat){t:Bool}(q:Bool)(h:dG E k=some (.b t))(he:t=q)(hn:kc P b ops Q N T' G w0 l ((k,.v (.bool q))::E)):kc P b ops Q N T' G w0 l E:=λhE=>by subst he;intro a Fa ha hF;exact hn (hE.cons trivial) a Fa (ha.more (ha.get k _ (by rw [ou,h];rfl))) hF
def Ak{l:List (Nat×yk)}(k:Nat){K:yj}{m:Int}(n:Int)(h:dG E k=some (.v (.int K m)))(he:m=n)(hn:kc P b ops Q N T' G w0 l ((k,.v (.int K n))::E)):kc P b ops Q N T' G w0 l E:=aoO k _ h (by rw [he]) hn
end
def aoN{b:bO}{ops:aZ}{Q:bK}{N:Nat}{T':aN}{G:aK}{S:cn}{L:aH}{R:bF}{F M:aE}{w0:yp}{E:aG}{o:yk}{rest:List (Nat×yk)}{i k:Nat}{f:yi}{xs:na}{ats:mX}{svs:nH}{r:cM}
 (aa:bj b G S L R F M w0)(args:cU)(hq:di o k N)(hf:Own f)(ho:o.op = .call { callee:=.value (.func f),args:=xs,argTypes:=ats })(hx:lg E xs.toList=some svs)
 (ha:(∀x∈L,∀g,x.g=some g->G x.j=g)->svs.map (aq.den G)=args)(hr:r.eJ.aI)(hs:∀w,View G S L R F M w->Calls prog f args.toArray w λe w'=>e = .returned r.den/\Below w.heap.size w w')
 (hn:kc prog b ops Q N T' G w0 rest ((k,r.eJ)::E)):kc prog b ops Q N T' G w0 ((i,o)::rest) E:=by
 refine g_f aa r.eJ hr (λC0 Q' hC hQ=>?_) hn;rw [cM.ql] at hQ;exact GR args.toArray r.den (eB hq) (eC hq) (dQ hq) hf (λw hw=>hs w (hC w hw)) ho (by rw [vh hx,ha λx hx=>(aa.var x hx).2.2]) hQ
def aL.cp(q:aL):cU:=q.den.cells.toList
def aL.fA:aL->cJ
  | .c s=>[.one s]
  | .p ai=>ai
def jL{α:Type}(k:Nat)(fe:α->aL)(l:List α):Prop:=∀x∈l,ch (fe x).fA/\(fe x).cp.length=k
theorem aL.JC{q:aL}(h:ch q.fA):q.cp=(a7 q.fA).toList:=by
 cases q with
 | c s=>exact congrArg Array.toList (h _ eh).2.2
 | p ai=>rfl
theorem aL.PM{q:aL}(h:ch q.fA):q.aI:=by
 cases q with
 | c s=>exact(h _ eh).1
 | p ai=>exact h
def aL.GK{q:aL}(h:ch q.fA):∀v∈q.cp,v.oneCell'=true:=by rw [aL.JC h];exact h.one
def ar{α:Type}(k:Nat)(fe:α->aL)(A:aO)(c:Nat)(l:List α)(w:yp):Prop :=
  l.length<=c/\c<=9223372036854775807/\(A=none->c=0)/\jL k fe l/\(0<l.length->∃b o,A=some ⟨b,o,none⟩/\b<w.heap.size/\∀(i:Nat) x,l[i]?=some x->w.rangeAt b (o+k*i) (fe x).cp)
section
variable{α:Type}{k c:Nat}{fe:α->aL}{A:aO}{l:List α}{w w':yp}
def ar.fO(h:ar k fe A c l w)(hs:w.heap.size<=w'.heap.size)(hk:∀b,A.map (·.block)=some b->b<w.heap.size->w'.heap[b]?=w.heap[b]?):ar k fe A c l w':=by obtain⟨h1,h2,h3,h4,h5⟩:=h;refine⟨h1,h2,h3,h4,λhl=>?_⟩;obtain⟨b,o,e,hb,hr⟩:=h5 hl;subst e;exact⟨b,o,rfl,nP hb hs,λi x hi j v hj=>(World.cell?_of_block (w:=w) (w':=w') (a:=⟨b,o+k*i+j,none⟩) (hk b rfl hb)).trans (hr i x hi j v hj)⟩
instance:dc (ar k fe A c l):=⟨λ_ _ h hb=>h.fO hb.size λb _ al=>hb.block b al⟩
def ar.later(h:ar k fe A c l w)(hb:Below w.heap.size w w'):ar k fe A c l w':=h.fO hb.size λb _ al=>hb.block b al
def ar.nil(k:Nat)(fe:α->aL)(w:yp):ar k fe none 0 [] w:=⟨aQ _,by decide,λ_=>rfl,λ_ h=>(by cases h),λh=>absurd h (ze _)⟩
def ar.take(h:ar k fe A c l w)(n:Nat):ar k fe A c (l.take n) w:=by
 obtain⟨h1,h2,h3,h4,h5⟩:=h;refine⟨fo (List.length_take_le' _ _) h1,h2,h3,λx hx=>h4 x (List.mem_of_mem_take hx),λhl=>?_⟩;obtain⟨b,o,e,hb,hr⟩:=h5 (by rw [du] at hl;omega);refine⟨b,o,e,hb,λi x hi=>hr i x ?_⟩;rw [uq] at hi;split at hi
 .exact hi
 .cases hi
end
def ri(A:aO)(n:Nat):yl:=match A with
  | some a=>.pointer (some ⟨a.block,a.off+n,none⟩)
  | none=>.pointer none
structure Je where
  k1:Nat
  k2:Nat
  sz:Nat
  t:yn
  A:aO
  n:Nat
  c:Nat
  i:Int
def Et(T:eG)(N:Nat)(E:aG)(o1 o2:yk):Option Je:=match o1.dst,o2.dst,o1.op,o2.op with
  | some k1,some k2,.indexAddr t x y,.load t' (.tmp z)=>match b9 z k1,aW k1 N,aW k2 N,ka T t with
    | true,true,true,some r=>match r.el with
      | some e=>match ka T e,aP E x,aP E y with
        | some re,some (.q (.c (.v (.slice A n c)))),some (.q (.c (.v (.int _ i))))=>some ⟨k1,k2,jY re.zero,t',A,n,c,i⟩
        | _,_,_=>none
      | none=>none
    | _,_,_,_=>none
  | _,_,_,_=>none
def Yp{P:ym}{r:uh}(h:r.ok P){e:yn}(he:r.el=some e):P.underlying r.t=some (.slice e):=by obtain⟨it,d,h5,h6, -, -, -, -,h7, -⟩:=h.info;rw [he] at h7;cases d<;>first|(cases h7;done)|skip;injection h7 with h7;subst h7;exact h6
theorem VP{P:ym}{t e:yn}{k:Nat}(ht:P.underlying t=some (.slice e))(he:(P.info? e).map (·.size)=some k)(b o n c:Nat)(K:yj)(i:Nat)(hi:i<n)(w:yp) :
  (pW t (.slice (some ⟨b,o,none⟩) n c) (.int K (i:Int))).run P w = .ok (.pointer (some ⟨b,o+k*i,none⟩)) w:=by
 cases hq:P.info? e with
 | none=>simp [hq] at he
 | some ie =>
  have hs:ie.size=k:=by simpa [hq] using he
  have h1:(i:Int)<(n:Int):=by omega
  have h2:(0:Int)<=(i:Int):=by omega
  simp [pW,asIntOf,run_underlying ht,sizeOf,typeInfo,hq,hs,lf,oV,hi]
def JL{P:ym}{T:eG}(hT:fh P T){N:Nat}{E:aG}{o1 o2:yk}{u:Je}(h:Et T N E o1 o2=some u) :
  o1.dst=some u.k1/\o2.dst=some u.k2/\aW u.k1 N=true/\aW u.k2 N=true/\o2.op = .load u.t (.tmp u.k1)/\∃t e x y K,o1.op = .indexAddr t x y/\P.underlying t=some (.slice e)/\(P.info? e).map (·.size)=some u.sz/\aP E x=some (.v (.slice u.A u.n u.c))/\aP E y=some (.v (.int K u.i)):=by
 unfold Et at h
 split at h
 .rename_i k1 k2 t x y t' z e1 e2 e3 e4
  split at h
  .rename_i r e5 e6 e7 hr
   split at h
   .rename_i e he
    split at h
    .rename_i re A n c K i Hu hx hy;injection h with h;subst h;obtain⟨h1,rfl⟩:=oX hT hr;have h2:=oX hT Hu;clear Hu;obtain⟨h2,rfl⟩:=h2;obtain⟨it,d,h5,_,h6, -⟩:=h2.info;have e5:=gq e5;subst e5;exact⟨e1,e2,e6,e7,e4,_,_,x,y,K,e3,Yp h1 he,by rw [h5,kF,h6],hx,hy⟩
    .cases h
   .cases h
  .cases h
 .cases h
section
variable{α:Type}{fe:α->aL}{l:List α}{P:ym}{T:eG}{b:bO}{ops:aZ}{Q:bK}{N:Nat}{E:aG}{L:aH}{R:bF}{F M:aE}{o1 o2:yk}{u:Je}
def JM(hT:fh P T)(h:Et T N E o1 o2=some u)(j:Nat){x:α}(hj:u.i=(j:Int))(hx:l[j]?=some x)(hn:u.n=l.length)(hl:tE T (fe x).fA u.t 0=some (fe x)) :
  ∀{G:aK} {a:Act} {w:yp},ar u.sz fe u.A u.c l w->Fr N (bG G E) a->(execOp a.eval o1).run P w = .ok (.value (ri u.A (u.sz*j))) w/\(fe x).aI /\
   ∀a':Act,a'.eval (.tmp u.k1)=ri u.A (u.sz*j)->(execOp a'.eval o2).run P w = .ok (.value (fe x).den) w:=by
 intro G a w gA ha
 obtain⟨h1,h2,h3,h4,h5,t,e,y1,y2,K,h6,h7,h8,h9,h10⟩:=JL hT h;have al:=(eY.1 hx).1;obtain⟨_,_,_,bx,hr⟩:=gA;obtain⟨bk,o,hA,hb,hr⟩:=hr (by omega);obtain⟨hp,gT⟩:=bx x (eg hx);have e1:=ha.eval (bH h9);have e2:=ha.eval (bH h10)
 have hq:ri u.A (u.sz*j) = .pointer (some ⟨bk,o+u.sz*j,none⟩):=by rw [hA];rfl
 refine⟨?_,aL.PM hp,λa' ha'=>?_⟩
 .have hi:=VP (P:=P) h7 h8 bk o u.n u.c K j (by omega) w;rw [<-hA,<-hj] at hi;unfold execOp;simp only [h6,e1,e2,aq.den,aL.den,eK.den,hi,bI,bM,bS,hq]
 .obtain⟨_,h12⟩:=Ib hT hp hl;have h13:=h12 (w:=w) (g:=bk) (base:=o+u.sz*j) (by rw [<-aL.JC hp];exact hr j x hx);rw [jP] at h13;unfold execOp;simp only [h5,ha',hq,h13,bI,bM,bS]
def P6(A:aO)(n:Nat):(aq.o (ri A n)).aI:=by cases A<;>exact⟨rfl,rfl⟩
theorem aiG{ops:aZ}{N k:Nat}{E:aG}{o:yk}{v:aq}{q:Bool}(h:vR ops N ((k,.v undef)::E) o=some q):vR ops N ((k,v)::E) o=some q:=by
 unfold vR at h ⊢;cases kN:o.guard with
 | none=>rw [kN] at h;exact h
 | some jb =>
  obtain⟨j,b⟩:=jb;rw [kN] at h
  dsimp only at h ⊢
  cases ht:(ops[j]?).bind (·.dst) with
  | none=>rw [ht] at h;cases h
  | some t =>
   rw [ht] at h
   dsimp only at h ⊢
   cases hN:aW t N with
   | false=>rw [hN] at h;cases h
   | true =>
    rw [hN] at h;simp only [dG] at h ⊢
    cases he:b9 k t with
    | true=>rw [he] at h;cases h
    | false=>rw [he] at h;exact h
def jh{rest:aN}(hT:fh P T)(h:Et T N E o1 o2=some u)(hg:o1.guard=none)(hw:vR ops N ((u.k1,.v undef)::E) o2=some true)(j:Nat){x:α}(hj:u.i=(j:Int))(hx:l[j]?=some x)(hn:u.n=l.length)(hl:tE T (fe x).fA u.t 0=some (fe x))
 (gA:∀G S w,View G S L R F M w->ar u.sz fe u.A u.c l w)(hk:a9 P b ops Q N rest ⟨(u.k2,.q (fe x))::(u.k1,.o (ri u.A (u.sz*j)))::E,L,R,F,M⟩):a9 P b ops Q N (o1::o2::rest) ⟨E,L,R,F,M⟩:=λa w ⟨G,S,h1,h2,h3⟩=>by
 obtain⟨d1,d2,n1,n2,xS, -⟩:=JL hT h;obtain⟨r1,bx,r2⟩:=JM hT h j hj hx hn hl (gA G S w h3.view) h1
 have fy:aU o1 (yielded ops a.tmps)=true:=by simp [aU,hg]
 refine nA fy r1 ?_;rw [d1];have f1:Fr N (bG G ((u.k1,.o (ri u.A (u.sz*j)))::E)) (a.put (some u.k1) (ri u.A (u.sz*j))):=h1.put n1 _;refine nA (Gk (E:=(u.k1,.o (ri u.A (u.sz*j)))::E) f1 (aiG hw)) (r2 _ (NB h1 n1 _)) ?_;rw [d2];exact hk _ w ⟨G,S,f1.put n2 _,(h2.cons (P6 _ _)).cons bx,h3⟩
def Sw{T':aN}{G:aK}{S:cn}{w0:yp}{rest:List (Nat×yk)}{i1 i2:Nat}(hT:fh P T)(aa:bj b G S L R F M w0)(h:Et T N E o1 o2=some u)(hg:o1.guard=none)(hw:vR ops N ((u.k1,.v undef)::E) o2=some true)(j:Nat){x:α}(hj:u.i=(j:Int))(hx:l[j]?=some x)(hn:u.n=l.length)(hl:tE T (fe x).fA u.t 0=some (fe x))
 (gA:∀G S w,View G S L R F M w->ar u.sz fe u.A u.c l w)(hk:kc P b ops Q N T' G w0 rest ((u.k2,.q (fe x))::(u.k1,.o (ri u.A (u.sz*j)))::E)):kc P b ops Q N T' G w0 ((i1,o1)::(i2,o2)::rest) E:=λhE=>by
 obtain⟨d1,d2,n1,n2,xS, -⟩:=JL hT h;have ab:=λw (hw:cA w0 w)=>gA G S w (aa.later hw).view
 have bx:(fe x).aI:=by obtain⟨_,_,_,h4,_⟩:=ab w0 (cA.refl _);exact aL.PM (h4 x (eg hx)).1
 refine yO rfl (λa ha=>BD (v:=ri u.A (u.sz*j)) (by simp [aU,hg]) (λw hw=>(JM hT h j hj hx hn hl (ab w hw.1) ha).1) ?_);rw [d1];have f1:Fr N (bG G ((u.k1,.o (ri u.A (u.sz*j)))::E)) (a.put (some u.k1) (ri u.A (u.sz*j))):=ha.put n1 _;refine yN (o:=o1) (E:=bG G ((u.k1,.o (ri u.A (u.sz*j)))::E)) (yO rfl (λa2 EC=>BD (v:=(fe x).den) (Gk (E:=(u.k1,.o (ri u.A (u.sz*j)))::E) EC (aiG hw)) (λw hw=>?_) ?_)) _ f1
 .have kj:a2.eval (.tmp u.k1)=ri u.A (u.sz*j):=EC.get u.k1 _ (by rw [bG,uK,if_pos rfl];rfl);exact(JM hT h j hj hx hn hl (ab w hw.1) ha).2.2 a2 kj
 .rw [d2];exact yN (o:=o2) (hk ((hE.cons (P6 _ _)).cons bx)) _ (EC.put n2 _)
end
def de{α:Type}(fe:α->aL)(l:List α):cU:=l.flatMap λx=>(fe x).cp
section
variable{α:Type}{k:Nat}{fe:α->aL}{l m:List α}
def YM:de fe (l++m)=de fe l++de fe m:=List.flatMap_append
theorem wG(h:jL k fe l):(de fe l).length=l.length*k:=by
 induction l with
 | nil=>simp [de]
 | cons x l ih =>
  have h1:=ih λy hy=>h y (by simp [hy]);have h2:=(h x (by simp)).2;simp only [de,nB,aV,fL] at h1 ⊢;rw [h1,h2,zj]
  omega
def St(h:jL k fe l):∀v∈de fe l,v.oneCell'=true:=λv ab=>by obtain⟨x,hx,ab⟩:=List.mem_flatMap.1 ab;exact aL.GK (h x hx).1 v ab
theorem C5(h:jL k fe l){i:Nat}{x:α}(hi:l[i]?=some x):∃A Z,de fe l=A++((fe x).cp++Z)/\A.length=k*i/\∀y:α,de fe (l.set i y)=A++((fe y).cp++Z):=by
 induction l generalizing i with
 | nil=>simp at hi
 | cons y l ih =>
  cases i with
  | zero =>
   simp only [List.getElem?_cons_zero,iv] at hi;subst hi;exact⟨[],de fe l,by simp [de],rfl,λz=>by simp [de]⟩
  | succ i =>
   obtain⟨A,Z,h1,h2,h3⟩:=ih (λz hz=>h z (by simp [hz])) (by simpa using hi);refine⟨(fe y).cp++A,Z,?_,?_,λz=>?_⟩
   .rw [ei,<-h1];simp [de]
   .rw [aV,h2,(h y (by simp)).2,Nat.mul_succ];omega
   .rw [ei,<-h3 z];simp [de]
def jL.app(h:jL k fe l)(h':jL k fe m):jL k fe (l++m):=λx hx=>(iA.1 hx).elim (h x) (h' x)
def jL.set(h:jL k fe l){i:Nat}{y:α}(hy:ch (fe y).fA/\(fe y).cp.length=k):jL k fe (l.set i y):=λx hx=>(tH hx).elim (h x) λe=>e▸hy
end
def bL{α:Type}(lo:Nat)(e:yn)(k:Nat)(fe:α->aL)(A:aO)(c:Nat)(l:List α):fS where
  holds w S:=jL k fe l/\w.ownsRow lo e k (.slice A l.length c) l.length (de fe l)/\∀j,S j↔A.map (·.block)=some j
  fO:=λ{w w' S} ⟨h1,h2,h3⟩ hk=>by
    refine⟨h1,⟨h2.1,?_⟩,h3⟩;rcases h2.2 with h4|⟨g,cap,cur,ab,hb,hg,hr⟩
    . exact .inl h4
    . injection ab with h5 h6 h7
      refine .inr ⟨g,cap,cur,by rw [h5,h7],hb,?_,hr⟩;rw [hk g ((h3 g).2 (by rw [h5];rfl))];exact hg
  lt:=λ{w S} ⟨_,h2,h3⟩ j hj=>by
    have h4:=(h3 j).1 hj;cases A with
    | none=>cases h4
    | some a =>
      have:=(h2.lt a.block rfl).2
      simp only [kF,iv] at h4
      rw [<-h4]
      exact this
section
variable{α:Type}{lo e k c:Nat}{fe:α->aL}{A:aO}{l:List α}{w:yp}{S:cn}
def bL.rd(h:(bL lo e k fe A c l).holds w S):ar k fe A c l w:=by
 obtain⟨h1,h2,h3⟩:=h;rcases h2.2 with⟨h4,h5⟩|⟨g,cap,cur,ab,hb,hg,hn,hm,hs,ht⟩
 .injection h4 with h6 h7 h8;have:=lB h5;subst h6 h8 this;exact ar.nil _ _ _
 .injection ab with h6 h7 h8
  subst h6 h8;refine⟨hn,by simp only [maxLen] at hm;omega,λh=>(by cases h),h1,λ_=>⟨g,0,rfl,(Array.getElem?_eq_some_iff.1 hg).1,λi x hi j v hj=>?_⟩⟩;obtain⟨B,Z,h9,h10,_⟩:=C5 h1 hi;have aF:bB w g e cur:=hg;rw [aF.cell,dI];have al:=(eY.1 hj).1;have h11:(de fe l)[k*i+j]?=some v:=by rw [h9,rz (by omega),h10,xD,uk al];exact hj
  rw [<-ht,uq] at h11;split at h11
  .simpa using h11
  .cases h11
def bL.nil(lo e k:Nat)(fe:α->aL)(w:yp):(bL lo e k fe none 0 []).holds w λ_=>False :=
 ⟨λ_ h=>(by cases h),⟨by simp [de],.inl ⟨rfl,rfl⟩⟩,λj=>⟨tP,λh=>(by cases h)⟩⟩
def bL.Ue(h:(bL lo e k fe A c l).holds w S):∀a,A=some a->lo<=a.block/\a.block<w.heap.size:=λa ha=>h.2.1.lt a.block (by rw [ha];rfl)
end
theorem YD{k:Nat}:∀(vs:cU) (A Z:cU) (i:Nat),A.length=i*k->Z.length=k*vs.length->(∀v∈vs,v.cells.size=k) ->
  Instr.fill (λi=>some (i*k,k)) (A++Z).toArray ((vs.zipIdx i).map λx=>(x.2,x.1))=some (A++vs.flatMap λv=>v.cells.toList).toArray
 | [],A,Z,i,_,hZ,_=>by obtain rfl:=lB (show Z.length=0 by simpa using hZ);rfl
 | v::vs,A,Z,i,hA,hZ,hl=>by
  rw [fL,Nat.mul_succ] at hZ;have hk:=hl v (by simp);have e:Z=Z.take k++Z.drop k:=(oN k Z).symm;have qn:(Z.take k).length=k:=by rw [du];omega
  rw [e,List.zipIdx_cons,eZ];rw [YB (λi=>some (i*k,k)) i k A (Z.take k) (Z.drop k) v.cells.toList _ v (by rw [hA]) (by rw [kD,hk]) qn (by simp),<-ei];rw [YD vs (A++v.cells.toList) (Z.drop k) (i+1) (by rw [aV,show v.cells.toList.length=k from by rw [kD,hk],hA,Nat.succ_mul]) (by rw [k7];omega) (λu hu=>hl u (by simp [hu]))];rw [nB,ei]
def Qw{P:ym}{t e:yn}{ie:TypeInfo}{z:yl}{k:Nat}(ht:P.underlying t=some (.slice e))(hi:P.info? e=some ie)(hz:ie.zero=some z)(hs:ie.size=k)(vs:cU)(n:Nat)(parts:Array (Nat×yl))(hp:parts.toList=(vs.zipIdx 0).map λx=>(x.2,x.1))(hn:vs.length=n)(h0:0<n*k)(h24:n*k<=16777216)(hl:∀v∈vs,v.cells.size=k)(w:yp) :
  (Instr.buildSlice t n parts).run P w = .ok (cj w.heap.size n n) (w.alloc (.cells (vs.flatMap λv=>v.cells.toList).toArray e)):=by
 subst hs;refine run_buildSlice w t e n parts _ ie z ht hi hz (by omega) (by omega) ?_;rw [hp]
 have gT:((Array.range (n*ie.size)).map (z.cells[· % z.cells.size]!)).size=n*ie.size:=by simp
 generalize (Array.range (n*ie.size)).map (z.cells[· % z.cells.size]!)=Z at *;have:=YD (k:=ie.size) vs [] Z.toList 0 (by simp) (by rw [kD,gT,hn,oV]) hl
 rwa [lD,lD,BG] at this
def uU(T:eG)(t:yn):Option (yn×Nat×Nat):=match ka T t with
  | some r=>match r.el with
    | some e=>match ka T e with
      | some re=>some (e,jY re.zero,re.w)
      | none=>none
    | none=>none
  | none=>none
def Bi{P:ym}{T:eG}(hT:fh P T){t e:yn}{k bs:Nat}(h:uU T t=some (e,k,bs)):P.underlying t=some (.slice e)/\∃ie z,P.info? e=some ie/\ie.zero=some z/\ie.size=k/\ie.bytes=bs/\z.cells.size=k/\∃zs,ch zs/\z.cells=a7 zs/\∃r,ka T e=some r/\r.zero=zs:=by
 unfold uU at h;split at h
 .rename_i r hr
  split at h
  .rename_i e' he
   split at h
   .rename_i re Hu
    injection h with h;injection h with e1 h;injection h with e2 e3;subst e1 e2 e3;obtain⟨h1,rfl⟩:=oX hT hr;have hre':=Hu;have h2:=oX hT Hu;clear Hu;obtain⟨h2,rfl⟩:=h2;obtain⟨it,d,h5,_,h6,h7,_,_,_,_,_,h8⟩:=h2.info;cases hz:it.zero with
    | none=>rw [hz] at h7;cases h7
    | some z =>
     rw [hz] at h7;simp only [kF,iv] at h7;exact⟨Yp h1 he,it,z,h5,hz,h6,h8,by rw [h7,h2.2.size],re.zero,h2.2,h7,re,hre',rfl⟩
   .cases h
  .cases h
 .cases h
def bL.new{α:Type}{lo e k:Nat}{fe:α->aL}{l:List α}(w:yp)(nj:lo<=w.heap.size)(h:jL k fe l)(hm:l.length<=9223372036854775807):(bL lo e k fe (some ⟨w.heap.size,0,none⟩) l.length l).holds (w.alloc (.cells (de fe l).toArray e)) λj=>j=w.heap.size :=
 ⟨h,⟨wG h,.inr ⟨w.heap.size,l.length,(de fe l).toArray,rfl,nj,heap_alloc_new w _,aQ _,by simp only [maxLen];omega,by simp [wG h],kE (vF (wG h))⟩⟩,λj=>by simp [eq_comm]⟩
section
variable{α:Type}{fe:α->aL}{l:List α}{P:ym}{T:eG}{b:bO}{ops:aZ}{Q:bK}{N:Nat}{E:aG}{L:aH}{R:bF}{F M:aE}{o o2:yk}{rest:aN}{k e sz bs:Nat}{t:yn}
def lr(hg:o.guard=none){a:Act}:aU o (yielded ops a.tmps)=true:=by simp [aU,hg]
theorem O9{G:aK}{a:Act}(ha:Fr N (bG G E) a):∀(l:List (Nat×yo)) (m:List (yl×Nat)),l.map (λp=>(p.1,(aP E p.2).map (aq.den G)))=m.map (λx=>(x.2,some x.1))->l.map (λ(i,x)=>(i,a.eval x))=m.map λx=>(x.2,x.1)
 | [],[],_=>rfl
 | [],_::_,h=>by cases h
 | _::_,[],h=>by cases h
 | p::l,u::m,h=>by
  simp only [eZ,BM,nS] at h ⊢;refine⟨⟨h.1.1,?_⟩,O9 ha l m h.2⟩;cases hx:aP E p.2 with
  | none=>rw [hx] at h;cases h.1.2
  | some v =>
   rw [hx] at h;simp only [kF,iv] at h;exact(ha.eval (bH hx)).trans h.1.2
def jC{n:Nat}{parts:Array (Nat×yo)}(hT:fh P T)(lo:Nat)(l:List α)(hq:di o k N)(ho:o.op = .buildSlice t n parts)(hs:uU T t=some (e,sz,bs))
 (hp:∀G:aK,parts.toList.map (λp=>(p.1,(aP E p.2).map (aq.den G)))=((l.map λx=>(fe x).den).zipIdx 0).map λx=>(x.2,some x.1))(hn:l.length=n)(bx:jL sz fe l)(nj:lo<=b.B.heap.size)
 (hc:∀A,a9 P b ops Q N rest ⟨(k,.v (.slice A n n))::E,L,bL lo e sz fe A n l::R,F,M⟩)(h0:0<n*sz:=by decide)(h24:n*sz<=16777216:=by decide):a9 P b ops Q N (o::rest) ⟨E,L,R,F,M⟩:=λa w ⟨G,S,h1,h2,h3⟩=>by
 obtain⟨ht,ie,z,hi,hz,gT,vq,tA,_⟩:=Bi hT hs
 have hr:=Qw (P:=P) ht hi hz gT (l.map λx=>(fe x).den) n (parts.map λ(i,x)=>(i,a.eval x)) (by rw [Fp];exact O9 h1 _ _ (hp G)) (by rw [dL,hn]) h0 h24 (λv ab=>by
  obtain⟨x,hx,rfl⟩:=dv.1 ab;have:=(bx x hx).2
  rwa [aL.cp,kD] at this) w
 have e1:((l.map λx=>(fe x).den).flatMap λv=>v.cells.toList)=de fe l:=by rw [List.flatMap_map];rfl
 rw [e1] at hr;subst hn
 refine nA (v:=.slice (some ⟨w.heap.size,0,none⟩) l.length l.length) (w':=w.alloc (.cells (de fe l).toArray e)) (lr (eB hq)) (by unfold execOp;simp only [ho,bI,hr,bS,bM]) ?_
 rw [(eC hq)];have hsz':0<sz:=Nat.pos_of_mul_pos_left h0
 obtain⟨S',h4⟩:=h3.xI ((Below.refl w.heap.size w).alloc (aQ _) _) (bL.new (lo:=lo) w (fo nj h3.chg.size) bx (by have:=vK l.length hsz';omega)) (λj hj=>vF hj.symm)
 exact hc _ _ _ ⟨G,S',h1.put (dQ hq) _,h2.cons trivial,h4⟩
def Le{l':aN}(lo e sz:Nat)(fe:α->aL)(h:a9 P b ops Q N l' ⟨E,L,bL lo e sz fe none 0 []::R,F,M⟩):a9 P b ops Q N l' ⟨E,L,R,F,M⟩:=λa w ⟨G,S,h1,h2,h3⟩=>by obtain⟨S',h4⟩:=h3.xI (Below.refl _ _) (bL.nil lo e sz fe w) (λ_ h=>h.elim);exact h a w ⟨G,S',h1,h2,h4⟩
def pF{c:Code}(lo e sz:Nat)(fe:α->aL)(h:cN P b c Q N ⟨E,L,bL lo e sz fe none 0 []::R,F,M⟩):cN P b c Q N ⟨E,L,R,F,M⟩:=λa w ⟨G,S,h1,h2,h3⟩=>by obtain⟨S',h4⟩:=h3.xI (Below.refl _ _) (bL.nil lo e sz fe w) (λ_ h=>h.elim);exact h a w ⟨G,S',h1,h2,h4⟩
end
structure Rz where
  k1:Nat
  k2:Nat
  t:yn
  A:aO
  n:Nat
  c:Nat
  q:aL
def Vm(N:Nat)(E:aG)(o1 o2:yk):Option Rz:=match o1.dst,o2.dst,o1.op,o2.op with
  | some k1,some k2,.buildSlice t 1 ⟨[(0,z)]⟩,.call { callee:=.builtin .append,args:=⟨[s,.tmp y]⟩,argTypes:=⟨[t1,t2]⟩ }=>match b9 y k1,b9 t1 t,b9 t2 t,aW k1 N,aW k2 N with
    | true,true,true,true,true=>match aP E z,aP E s,dG E k1 with
      | some (.q q),some (.q (.c (.v (.slice A n c)))),none=>some ⟨k1,k2,t,A,n,c,q⟩
      | _,_,_=>none
    | _,_,_,_,_=>none
  | _,_,_,_=>none
def ay1{N:Nat}{E:aG}{o1 o2:yk}{u:Rz}(h:Vm N E o1 o2=some u):o1.dst=some u.k1/\o2.dst=some u.k2/\aW u.k1 N=true/\aW u.k2 N=true/\dG E u.k1=none /\
  ∃z s,o1.op = .buildSlice u.t 1 #[(0,z)]/\o2.op = .call { callee:=.builtin .append,args:=#[s,.tmp u.k1],argTypes:=#[u.t,u.t] }/\aP E z=some (.q u.q)/\aP E s=some (.v (.slice u.A u.n u.c)):=by
 unfold Vm at h
 split at h
 .rename_i k1 k2 t z s y t1 t2 e1 e2 e3 e4
  split at h
  .rename_i e5 e6 e7 e8 e9
   split at h
   .rename_i q A n c e10 e11 e12;injection h with h;subst h;obtain rfl:=gq e5;obtain rfl:=gq e6;obtain rfl:=gq e7;exact⟨e1,e2,e8,e9,e12,z,s,e3,e4,e10,e11⟩
   .cases h
  .cases h
 .cases h
def aBN{w:yp}{lo e k n:Nat}{v:yl}{xs:cU}(h:w.ownsRow lo e k v n xs):∃A c,v = .slice A n c:=by
 rcases h.2 with⟨h1,h2⟩|⟨g,cap,cur,ab,_⟩
 .exact⟨none,0,by rw [h1,h2]⟩
 .exact⟨_,_,ab⟩
def ad1(A:aO)(n c:Nat):(Value.slice A n c).ownBlock=A.map (·.block):=by cases A<;>rfl
def bL.grow{α:Type}{P:ym}{T:eG}(hT:fh P T){t e:yn}{lo sz bs c d:Nat}{fe:α->aL}{A:aO}{l m:List α}{ad:Addr}{w:yp}{S:cn}(ty:yn)(hs:uU T t=some (e,sz,bs))(h0:0<sz)(h:(bL lo e sz fe A c l).holds w S)(bx:jL sz fe m)
 (aq5:∀j u,(de fe m)[j]?=some u->w.cell? (ad.add j)=some u)(hb:(l.length+m.length)*bs<=140737488355328)(hm:l.length+m.length<=9223372036854775807-64)(nj:lo<=w.heap.size) :
  ∃A' c' w' S',(rD #[t,t] ty #[.slice A l.length c,.slice (some ad) m.length d]).run P w = .ok (.slice A' (l++m).length c') w'/\dO S w w'/\(bL lo e sz fe A' c' (l++m)).holds w' S'/\∀k,S' k->k<w.heap.size->S k:=by
 obtain⟨ht,ie,z,hi,hz,gT,vq,tA,_⟩:=Bi hT hs;obtain⟨h1,h2,h3⟩:=h;obtain⟨v',w',hr,ho,hg,_,ki⟩:=run_append_own_at (P:=P) w lo t ty e ie z sz bs ht hi hz gT vq tA h0 _ l.length (de fe l) h2 ad m.length d (de fe m) (wG bx) aq5 (St bx) (by simp only [maxLen];omega) hb nj;rw [<-YM] at ho;obtain⟨A',c',rfl⟩:=aBN ho;rw [ad1] at hg ki;rw [ad1] at ki;rw [<-aV] at hr ho;refine⟨A',c',w',λj=>A'.map (·.block)=some j,hr,(dO.UX hg).mono λi _ hi=>(h3 i).2 hi,⟨h1.app bx,ho,λ_=>Iff.rfl⟩,λj hj al=>?_⟩
 rcases ki with e1|e1
 .exact(h3 j).2 (e1.symm.trans hj)
 .rw [hj] at e1;injection e1 with e1;omega
section
variable{α:Type}{fe:α->aL}{l:List α}{P:ym}{T:eG}{b:bO}{ops:aZ}{Q:bK}{N:Nat}{E:aG}{L:aH}{R:bF}{F M:aE}{o1 o2:yk}{rest:aN}{e sz bs lo:Nat}{u:Rz}
def lq(hT:fh P T)(i:Nat)(x:α)(h:Vm N E o1 o2=some u)(hg:o1.guard=none)(sr:o2.guard=none)(hs:uU T u.t=some (e,sz,bs))(hq:fe x=u.q)(hi:R[i]?=some (bL lo e sz fe u.A u.c l))(hn:u.n=l.length)(hx:ch (fe x).fA/\(fe x).cp.length=sz)
 (hb:(l.length+1)*bs<=140737488355328)(hm:l.length<9223372036854775000)(nj:lo<=b.B.heap.size)
 (hc:∀A' c',a9 P b ops Q N rest ⟨(u.k2,.v (.slice A' (l++[x]).length c'))::E,L,R.set i (bL lo e sz fe A' c' (l++[x])),F,M⟩)(h0:0<sz:=by decide)(h24:sz<=16777216:=by decide):a9 P b ops Q N (o1::o2::rest) ⟨E,L,R,F,M⟩:=λa w ⟨G,S,h1,h2,h3⟩=>by
 obtain⟨d1,d2,n1,n2,hf,z,s,fc,p2,p3,p4⟩:=ay1 h;obtain⟨ht,ie,ua,EN,hz,gT,vq,tA,_⟩:=Bi hT hs
 have bx:jL sz fe [x]:=λy hy=>by rw [bU.1 hy];exact hx
 have yV:de fe [x]=(fe x).cp:=by simp [de]
 have e1:=h1.eval (bH p3)
 have hr:=Qw (P:=P) ht EN hz gT [(fe x).den] 1 #[(0,a.eval z)] (by rw [e1,hq];rfl) rfl (by omega) (by omega) (λv ab=>by
  rw [bU.1 ab];have:=hx.2
  rwa [aL.cp,kD] at this) w
 have e2:([(fe x).den].flatMap λv=>v.cells.toList)=de fe [x]:=by simp [de,aL.cp]
 rw [e2] at hr;have l7:=(Below.refl w.heap.size w).alloc (aQ _) (.cells (de fe [x]).toArray e)
 refine nA (v:=.slice (some ⟨w.heap.size,0,none⟩) 1 1) (w':=w.alloc (.cells (de fe [x]).toArray e)) (lr hg) (by unfold execOp;simp only [fc,yK,eZ,xV,bI,hr,bS,bM]) ?_
 rw [d1];have xR:=bB.new w e (de fe [x]).toArray;have h4:=h3.later l7;generalize w.alloc (.cells (de fe [x]).toArray e)=w1 at *;have f1:=h1.Vo (k:=u.k1) (by rw [ou,hf];rfl) (cj w.heap.size 1 1);have e3:=f1.eval (bH p4);have e4:(a.put (some u.k1) (cj w.heap.size 1 1)).eval (.tmp u.k1) = .slice (some ⟨w.heap.size,0,none⟩) 1 1:=NB h1 n1 _;obtain⟨S1,h5,ix⟩:=h4.put hi
 obtain⟨A',c',w',S',dU,fX,ho,hS'⟩:=bL.grow hT (d:=1) (ad:=⟨w.heap.size,0,none⟩) o2.type hs h0 h5 bx (λj v hj=>by rw [lf,xR.cell,dI];simpa using hj) hb (by simp;omega) (fo nj h4.chg.size)
 obtain⟨S'',h6⟩:=ix _ _ _ fX ho hS'
 have vC:(rD #[u.t,u.t] o2.type #[.slice u.A u.n u.c,cj w.heap.size 1 1]).run P w1 = .ok (.slice A' (l++[x]).length c') w':=by rw [hn];exact dU
 refine nA (v:=.slice A' (l++[x]).length c') (w':=w') (lr sr) (by unfold execOp;simp only [p2,resolve,invoke,builtin,bI,bM,bS,yK,eZ,xV,e3,e4,aq.den,aL.den,eK.den,vC]) ?_
 rw [d2];exact hc A' c' _ _ ⟨G,S'',f1.put n2 _,h2.cons trivial,h6⟩
end
def fu{α:Type}{lo e k c:Nat}{fe:α->aL}{A:aO}{l:List α}{L:aH}{R:bF}{F M:aE}(i:Nat)(hi:R[i]?=some (bL lo e k fe A c l)):∀G S w,View G S L R F M w->ar k fe A c l w:=λ_ _ _ h=>by obtain⟨S1,_,h1,_⟩:=h.res.at hi;exact bL.rd h1
def dX{α:Type}{k c:Nat}{fe:α->aL}{A:aO}{l:List α}{L:aH}{R:bF}{F M:aE}(h:∀w,F w->M w->ar k fe A c l w):∀G S w,View G S L R F M w->ar k fe A c l w:=λ_ _ w ab=>h w ab.fact ab.fresh
section
variable{α:Type}{fe:α->aL}{b:bO}{G:aK}{S:cn}{L:aH}{R:bF}{F M:aE}{w:yp}{lo e k c:Nat}{A:aO}{l:List α}
def bj.free(h:bj b G S L R F M w){i:Nat}(hi:R[i]?=some (bL lo e k fe A c l)):∃S',bj b G S' L (R.eraseIdx i) (λw=>ar k fe A c l w/\F w) M w:=by
 obtain⟨S1,S2,h1,h2,h3,h4⟩:=h.let hi;refine⟨S2,h4.and λw' hw=>bL.rd h1 |>.fO hw.size λg hg al=>hw.block g al ?_⟩;have mB:S1 g:=(h1.2.2 g).2 hg;rintro(hx|hx|⟨j,hj,rfl⟩)
 .exact(h.eS g hx).2 (h.mine g (.inl ((h3 g).2 (.inl mB))) (h.eS g hx).1)
 .exact h2 g mB hx
 .exact h.sep j hj ((h3 _).2 (.inl mB))
def bj.YP(h:bj b G S L R F M w){i:Nat}(hi:R[i]?=some (bL lo e k fe A c l))(nj:b.B.heap.size<=lo):∃S',bj b G S' L (R.eraseIdx i) F (λw=>ar k fe A c l w/\M w) w:=by
 obtain⟨S1,S2,h1,h2,h3,h4⟩:=h.let hi;refine⟨S2,h4.andM λw' hw=>bL.rd h1 |>.fO hw.size λg hg al=>hw.block g al ?_⟩;have mB:S1 g:=(h1.2.2 g).2 hg;rintro(hx|hx|⟨j,hj,rfl⟩)
 .cases A with
  | none=>cases hg
  | some a =>
   have:=(bL.Ue h1 a rfl).1;simp only [kF,iv] at hg
   omega
 .exact h2 g mB hx
 .exact h.sep j hj ((h3 _).2 (.inl mB))
end
section
variable{α:Type}{fe:α->aL}{P:ym}{b:bO}{ops:aZ}{Q:bK}{N:Nat}{E:aG}{L:aH}{R:bF}{F M:aE}{lo e k c:Nat}{A:aO}{l:List α}
def iU{l':aN}(i:Nat)(hi:R[i]?=some (bL lo e k fe A c l))(h:a9 P b ops Q N l' ⟨E,L,R.eraseIdx i,λw=>ar k fe A c l w/\F w,M⟩):a9 P b ops Q N l' ⟨E,L,R,F,M⟩:=λa w ⟨G,S,h1,h2,h3⟩=>by obtain⟨S',h4⟩:=h3.free hi;exact h a w ⟨G,S',h1,h2,h4⟩
def asZ{l':aN}(i:Nat)(hi:R[i]?=some (bL lo e k fe A c l))(nj:b.B.heap.size<=lo)(h:a9 P b ops Q N l' ⟨E,L,R.eraseIdx i,F,λw=>ar k fe A c l w/\M w⟩):a9 P b ops Q N l' ⟨E,L,R,F,M⟩:=λa w ⟨G,S,h1,h2,h3⟩=>by obtain⟨S',h4⟩:=h3.YP hi nj;exact h a w ⟨G,S',h1,h2,h4⟩
def mQ{x:Code}(i:Nat)(hi:R[i]?=some (bL lo e k fe A c l))(h:cN P b x Q N ⟨E,L,R.eraseIdx i,λw=>ar k fe A c l w/\F w,M⟩):cN P b x Q N ⟨E,L,R,F,M⟩:=λa w ⟨G,S,h1,h2,h3⟩=>by obtain⟨S',h4⟩:=h3.free hi;exact h a w ⟨G,S',h1,h2,h4⟩
def IP{x:Code}(i:Nat)(hi:R[i]?=some (bL lo e k fe A c l))(nj:b.B.heap.size<=lo)(h:cN P b x Q N ⟨E,L,R.eraseIdx i,F,λw=>ar k fe A c l w/\M w⟩):cN P b x Q N ⟨E,L,R,F,M⟩:=λa w ⟨G,S,h1,h2,h3⟩=>by obtain⟨S',h4⟩:=h3.YP hi nj;exact h a w ⟨G,S',h1,h2,h4⟩
end
theorem auJ{α:Type}{fe:α->aL}{k:Nat}(z:ct)(x:α)(hz:z.toList=(fe x).cp)(hk:z.size=k)(n:Nat):(madeCells z (n*k)).toList=de fe (aB n x):=by
 induction n with
 | zero=>simp [madeCells,de]
 | succ n ih =>
  have e1:madeCells z ((n+1)*k)=madeCells z (n*k)++z:=by
   subst hk;apply Array.ext
   .simp [madeCells,zj]
   .intro i h1 h2
    simp only [madeCells,sR,rE] at h1;rw [Array.getElem_append];split
    .simp [madeCells]
    .rename_i h3
     simp only [madeCells,sR,rE] at h3;have al:i-n*z.size<z.size:=by rw [zj] at h1;omega
     have e:i%z.size=i-n*z.size:=by rw [show i=(i-n*z.size)+n*z.size by omega,Nat.add_mul_mod_self_right,Nat.add_sub_cancel];exact Nat.mod_eq_of_lt al
     simp only [madeCells,Array.getElem_map,Array.getElem_range,e,sR,rE];rw [getElem!_pos z _ al]
  rw [e1,wC,ih,List.replicate_succ',YM]
  simp [de,hz]
section
variable{α:Type}{fe:α->aL}{P:ym}{T:eG}{b:bO}{ops:aZ}{Q:bK}{N:Nat}{E:aG}{L:aH}{R:bF}{F M:aE}{o o1 o2:yk}{rest:aN}{k e sz bs lo:Nat}{t:yn}
def Ld{x y:yo}{K:yj}(hT:fh P T)(lo:Nat)(n:Nat)(z:α)(hq:di o k N)(ho:o.op = .makeSlice t x y)(hs:uU T t=some (e,sz,bs))(hx:aP E x=some (.v (.int K (n:Int))))(hy:aP E y=some (.v (.int K (n:Int))))
 (hz:(ka T e).map (λr=>(a7 r.zero).toList)=some (fe z).cp)(bx:ch (fe z).fA/\(fe z).cp.length=sz)(hb:bs*n<=281474976710656)(hm:n<=9223372036854775807)(nj:lo<=b.B.heap.size)
 (hc:∀A,a9 P b ops Q N rest ⟨(k,.v (.slice A n n))::E,L,bL lo e sz fe A n (aB n z)::R,F,M⟩):a9 P b ops Q N (o::rest) ⟨E,L,R,F,M⟩:=λa w ⟨G,S,h1,h2,h3⟩=>by
 obtain⟨ht,ie,ua,hi,Ub,gT,vq,tA,zs,_,Ua,r,lG,dU⟩:=Bi hT hs
 have hb':(ie.bytes:Int)*(n:Int)<=281474976710656:=by
  rw [vq];have h:((bs*n:Nat):Int)<=281474976710656:=by omega
  rwa [Int.natCast_mul] at h
 have hr:=run_make (P:=P) w t e ie ua ht hi Ub K K n n (by omega) (Int.le_refl _) hb' (by omega);rw [lG] at hz;simp only [kF,iv] at hz;have yV:=auJ (fe:=fe) ua.cells z (by rw [Ua,<-dU];exact hz) tA n
 have e1:madeCells ua.cells (n*ie.size)=(de fe (aB n z)).toArray:=by rw [gT,<-yV,BG]
 simp only [Int.toNat_natCast] at hr;rw [e1] at hr;have e2:=h1.eval (bH hx);have e3:=h1.eval (bH hy)
 refine nA (v:=.slice (some ⟨w.heap.size,0,none⟩) n n) (w':=w.alloc (.cells (de fe (aB n z)).toArray e)) (lr (eB hq)) (by unfold execOp;simp only [ho,e2,e3,aq.den,aL.den,eK.den,bI,hr,bS,bM]) ?_
 rw [(eC hq)];have xR:=bL.new (lo:=lo) (e:=e) (k:=sz) (fe:=fe) (l:=aB n z) w (fo nj h3.chg.size) (λx hx=>by rw [(List.mem_replicate.1 hx).2];exact bx) (by simpa using hm);rw [List.length_replicate] at xR;obtain⟨S',h4⟩:=h3.xI ((Below.refl w.heap.size w).alloc (aQ _) _) xR (λj hj=>vF hj.symm);exact hc _ _ _ ⟨G,S',h1.put (dQ hq) _,h2.cons trivial,h4⟩
structure Ry where
  k1:Nat
  t:yn
  A:aO
  n:Nat
  c:Nat
  i:Int
  q:aL
def Vj(T:eG)(N:Nat)(E:aG)(o1 o2:yk):Option Ry:=match o1.dst,o2.dst,o1.op,o2.op with
  | some k1,none,.indexAddr t x y,.store t' (.tmp p) z=>match b9 p k1,aW k1 N,uU T t,ka T t' with
    | true,true,some (_,sz,_),some r=>match aP E x,aP E y,aP E z,b9 (jY r.zero) sz,dG E k1 with
      | some (.q (.c (.v (.slice A n c)))),some (.q (.c (.v (.int _ i)))),some (.q q),true,none=>some ⟨k1,t,A,n,c,i,q⟩
      | _,_,_,_,_=>none
    | _,_,_,_=>none
  | _,_,_,_=>none
def axT{P:ym}(hT:fh P T){u:Ry}(h:Vj T N E o1 o2=some u):o1.dst=some u.k1/\o2.dst=none/\aW u.k1 N=true/\dG E u.k1=none/\∃x y z t' K e sz bs,o1.op = .indexAddr u.t x y/\o2.op = .store t' (.tmp u.k1) z/\uU T u.t=some (e,sz,bs)/\(P.info? t').map (·.size)=some sz /\
  aP E x=some (.v (.slice u.A u.n u.c))/\aP E y=some (.v (.int K u.i))/\aP E z=some (.q u.q):=by
 unfold Vj at h
 split at h
 .rename_i k1 t x y t' p z e1 e2 e3 e4
  split at h
  .rename_i e sz bs r e5 e6 e7 e8
   split at h
   .rename_i A n c K i q e9 e10 e11 e12 e13;injection h with h;subst h;obtain rfl:=gq e5;have h2:=oX hT e8;clear e8;obtain⟨h2,rfl⟩:=h2;obtain⟨it,d,h5,_,h6, -⟩:=h2.info;exact⟨e1,e2,e6,e13,x,y,z,_,K,e,sz,bs,e3,e4,e7,by rw [h5,kF,h6,gq e12],e9,e10,e11⟩
   .cases h
  .cases h
 .cases h
def H8{u:Ry}{l:List α}(hT:fh P T)(i:Nat)(x:α)(j:Nat)(h:Vj T N E o1 o2=some u)(hg:o1.guard=none)(sr:o2.guard=none)(hs:uU T u.t=some (e,sz,bs))(hq:fe x=u.q)(hi:R[i]?=some (bL lo e sz fe u.A u.c l))(hn:u.n=l.length)(hj:u.i=(j:Int))(al:j<l.length)(hx:ch (fe x).fA/\(fe x).cp.length=sz)
 (hc:a9 P b ops Q N rest ⟨E,L,R.set i (bL lo e sz fe u.A u.c (l.set j x)),F,M⟩):a9 P b ops Q N (o1::o2::rest) ⟨E,L,R,F,M⟩:=λa w ⟨G,S,h1,h2,h3⟩=>by
 obtain⟨d1,d2,n1,hf,x1,y1,z1,t',K,e',sz',bs',fc,p2,p3,p4,p5,p6,p7⟩:=axT hT h;rw [hs] at p3
 injection p3 with p3
 injection p3 with q1 p3
 injection p3 with q2 q3
 subst q1 q2 q3;obtain⟨ht,ie,ua,EN,hz,gT,vq,tA,_⟩:=Bi hT hs;obtain⟨S1,h5,ix⟩:=h3.put hi;obtain⟨bx,EY,mB⟩:=h5
 rcases EY.2 with⟨h6,h7⟩|⟨g,cap,cur,ab,hb,hg',Ho,hm,dN,hS⟩
 .omega
 injection ab with v1 _ v2
 have aF:bB w g e cur:=hg';have e1:=h1.eval (bH p5);have e2:=h1.eval (bH p6);have hr:=VP (P:=P) ht (by rw [EN,kF,gT]) g 0 u.n u.c K j (by omega) w;rw [<-v1,<-hj,dI] at hr
 refine nA (v:=.pointer (some ⟨g,sz*j,none⟩)) (w':=w) (lr hg) (by unfold execOp;simp only [fc,e1,e2,aq.den,aL.den,eK.den,bI,hr,bS,bM]) ?_
 rw [d1];have f1:=h1.Vo (k:=u.k1) (by rw [ou,hf];rfl) (.pointer (some ⟨g,sz*j,none⟩));have e3:=f1.eval (bH p7);have e4:(a.put (some u.k1) (.pointer (some ⟨g,sz*j,none⟩))).eval (.tmp u.k1) = .pointer (some ⟨g,sz*j,none⟩):=NB h1 n1 _;obtain⟨B,Z,h9,h10,h11⟩:=C5 bx (da al)
 have Fe:(fe x).den.cells.size=sz:=by rw [<-kD];exact hx.2
 have fM:(fe l[j]).cp.length=sz:=(bx _ (AD al)).2;have hlen:=wG bx;rw [h9,aV,aV,h10,fM] at hlen;have hle:l.length*sz<=cap*sz:=Nat.mul_le_mul_right _ Ho;have aa:=D0 (P:=P) (t:=t') (v:=(fe x).den) (off:=sz*j) aF (by rw [p4,Fe]) (by rw [Fe,dN];omega) (aL.GK hx.1);rw [Fe] at aa
 have ux:cur.toList=B++((fe l[j]).cp++(Z++cur.toList.drop (l.length*sz))):=by have h0:=(oN (l.length*sz) cur.toList).symm;rw [hS,h9,ei,ei] at h0;exact h0
 have xR:(cur.toList.take (sz*j)++(fe x).den.cells.toList++cur.toList.drop (sz*j+sz))=B++((fe x).cp++(Z++cur.toList.drop (l.length*sz))):=by generalize cur.toList.drop (l.length*sz)=D at ux ⊢;rw [ux,<-h10,LV,ei];congr 2;rw [<-fM,<-aV,<-ei,List.drop_left]
 rw [xR] at aa;have hB':=aF.row (B++((fe x).cp++(Z++cur.toList.drop (l.length*sz)))).toArray
 obtain⟨S'',h12⟩:=ix (bL lo e sz fe u.A u.c (l.set j x)) (w.setRow g (B++((fe x).cp++(Z++cur.toList.drop (l.length*sz)))).toArray) S1 ((dO.row w g _).mono λk _ hk=>(mB k).2 (by rw [hk,v1];rfl))
  ⟨bx.set hx,by
   refine⟨by rw [wG (bx.set hx),jO],.inr ⟨g,cap,_,by rw [jO,v1,v2],hb,hB',by rw [jO];exact Ho,hm,?_,?_⟩⟩
   .have hD:(cur.toList.drop (l.length*sz)).length=cap*sz-l.length*sz:=by rw [k7,kD,dN]
    rw [fx,aV,aV,aV,hD,hx.2,h10];omega
   .rw [jO,h11 x]
    have:l.length*sz=(B++((fe x).cp++Z)).length:=by rw [aV,aV,h10,hx.2];omega
    generalize cur.toList.drop (l.length*sz)=D;show List.take (l.length*sz) (B++((fe x).cp++(Z++D)))=_;have e9:B++((fe x).cp++(Z++D))=(B++((fe x).cp++Z))++D:=by simp only [ei]
    rw [this,e9,LV],mB⟩ (λk hk _=>hk)
 refine CI (w':=w.setRow g (B++((fe x).cp++(Z++cur.toList.drop (l.length*sz)))).toArray) (lr sr) (by unfold execOp;simp only [p2,e3,e4,aq.den,<-hq,bI,aa,bS,bM]) ?_
 rw [d2];exact hc _ _ ⟨G,S'',f1,h2,h12⟩
end
abbrev rR:bz:=.one (.v (.slice none 0 0))
abbrev jT:bz:=.one (.v (.int .i64 0))
abbrev L6:bz:=.one (.v (.pointer none))
abbrev ju:bz:=.agg 32 (By (aB 32 0)).toArray
def sV(t e:Nat):uh:={ t:=t,kind:=0,zero:=[rR],el:=some e,w:=24 }
def A9(t:Nat):uh:={ t:=t,kind:=0,zero:=[L6],zy:=true,w:=8 }
def eT(t:Nat)(z:List bz)(w:Nat):uh:={ t:=t,kind:=2,zero:=z,w:=w }
def Ql(t:Nat):uh:={ t:=t,kind:=0,zero:=[jT],ik:=some .i64,w:=8 }
def Vt(t:Nat):uh:={ t:=t,kind:=0,zero:=[.one (.v (.map none))],w:=8 }
def jx:eG:=[
 Ql 2,
 Ql 3,
 { t:=4,kind:=0,zero:=[.one (.v (.bool false))],w:=1 },
 { t:=5,kind:=0,zero:=[.one (.v (.int .u8 0))],ik:=some .u8,w:=1 },
 { t:=9,kind:=0,zero:=[.one (.v (.string ⟨#[]⟩))],w:=16 },
 { t:=12,kind:=0,zero:=[.one (.v (.int .u64 0))],ik:=some .u64,w:=8 },
 eT 13 [.one (.v (.string ⟨#[]⟩)),.one (.v (.int .u64 0))] 24,
 { t:=21,kind:=0,zero:=[.one (.v (.int .i32 0))],ik:=some .i32,w:=4 },
 sV 22 72,
 sV 24 41,
 sV 25 43,
 Vt 28,
 A9 29,
 eT 30 [L6,.one (.v (.int .u8 0))] 16,
 eT 31 [L6,.one (.v (.int .u8 0))] 16,
 eT 32 [jT,.one (.v (.map none)),.agg 2 #[.pointer none,.int .u8 0]] 32,
 eT 33 [jT,.one (.v (.map none)),.agg 2 #[.pointer none,.int .u8 0]] 32,
 sV 34 91,
 eT 35 [jT,rR] 32,
 eT 36 [jT,rR] 32,
 sV 37 39,
 sV 38 47,
 sV 39 5,
 sV 41 68,
 sV 43 4,
 Ql 45,
 { t:=47,kind:=1,zero:=[ju],w:=32 },
 { t:=52,kind:=1,zero:=[.agg 3 (aB 3 (.int .i64 0)).toArray],w:=24 },
 { t:=53,kind:=0,zero:=[.one (.v (.int .u64 0))],ik:=some .u64,w:=8 },
 sV 54 60,
 eT 59 [ju,rR,rR] 80,
 eT 60 [ju,rR,rR] 80,
 { t:=66,kind:=1,zero:=[.agg 64 (By (aB 64 0)).toArray],w:=64 },
 eT 67 [ju,jT,ju,.agg 64 (By (aB 64 0)).toArray] 136,
 eT 68 [ju,jT,ju,.agg 64 (By (aB 64 0)).toArray] 136,
 Vt 70,
 eT 71 [jT,jT,jT,.one (.v (.bool false)),.one (.v (.bool false))] 32,
 eT 72 [jT,jT,jT,.one (.v (.bool false)),.one (.v (.bool false))] 32,
 { t:=77,kind:=0,zero:=[.one (.v (.nilIface))],w:=16 },
 eT 78 [.one (.v (.nilIface))] 16,
 eT 79 [.one (.v (.nilIface))] 16,
 sV 86 120,
 { t:=89,kind:=0,zero:=[.one (.v (.int .u64 0))],ik:=some .u64,w:=8 },
 eT 90 [ju,rR] 56,
 eT 91 [ju,rR] 56,
 A9 102,
 eT 103 [rR,jT,jT] 40,
 eT 104 [rR,jT,jT] 40,
 A9 108,
 eT 119 [ju,ju] 64,
 eT 120 [ju,ju] 64,
 { t:=122,kind:=0,zero:=[.one (.v (.int .u8 0))],ik:=some .u8,w:=1 },
 Vt 126,
 A9 146,
 A9 160,
 eT 161 [rR,jT,jT] 40,
 sV 162 169,
 eT 163 [rR] 24,
 eT 164 [rR] 24,
 eT 168 [jT,ju,ju,jT,jT] 88,
 eT 169 [jT,ju,ju,jT,jT] 88,
 { t:=174,kind:=1,zero:=[.agg 4 (aB 4 (.int .u64 0)).toArray],w:=32 },
 eT 175 [.agg 4 (aB 4 (.int .u64 0)).toArray] 32,
 eT 176 [.agg 4 (aB 4 (.int .u64 0)).toArray] 32,
 { t:=184,kind:=1,zero:=[.agg 8 (By (aB 8 0)).toArray],w:=8 },
 eT 186 [] 0,
 eT 187 [] 0,
 eT 188 [ju] 32,
 eT 189 [ju] 32,
 eT 192 [ju,ju,ju] 96,
 eT 193 [ju,ju,ju] 96,
 { t:=198,kind:=1,zero:=[.agg 2 (aB 2 (.nilIface)).toArray],w:=32 },
 eT 199 [ju,.agg 2 (aB 2 (.nilIface)).toArray] 64,
 eT 200 [ju,.agg 2 (aB 2 (.nilIface)).toArray] 64,
 sV 201 38,
 A9 204,
 eT 205 [ju,ju] 64,
 eT 206 [ju,ju] 64,
 eT 207 [rR,jT] 32,
 eT 208 [rR,jT] 32,
 eT 209 [rR,jT] 32,
 eT 210 [rR,jT] 32,
 eT 212 [ju,jT] 40,
 eT 213 [ju,jT] 40,
 { t:=221,kind:=1,zero:=[.agg 2 (aB 2 (.pointer none)).toArray],w:=16 },
 eT 222 [ju,jT,L6,.agg 2 (aB 2 (.pointer none)).toArray] 64,
 eT 223 [ju,jT,L6,.agg 2 (aB 2 (.pointer none)).toArray] 64,
 sV 224 3,
 { t:=232,kind:=1,zero:=[.agg 5 (aB 5 (.int .u64 0)).toArray],w:=40 },
 eT 233 [.agg 5 (aB 5 (.int .u64 0)).toArray] 40,
 eT 234 [.agg 5 (aB 5 (.int .u64 0)).toArray] 40,
 eT 235 [.agg 5 (aB 5 (.int .u64 0)).toArray,.agg 5 (aB 5 (.int .u64 0)).toArray,.agg 5 (aB 5 (.int .u64 0)).toArray,.agg 5 (aB 5 (.int .u64 0)).toArray] 160,
 eT 236 [.agg 5 (aB 5 (.int .u64 0)).toArray,.agg 5 (aB 5 (.int .u64 0)).toArray,.agg 5 (aB 5 (.int .u64 0)).toArray,.agg 5 (aB 5 (.int .u64 0)).toArray] 160,
 { t:=250,kind:=0,zero:=[.one (.v (.int .u32 0))],ik:=some .u32,w:=4 },
 { t:=251,kind:=1,zero:=[.agg 8 (aB 8 (.int .u32 0)).toArray],w:=32 },
 A9 256,
 sV 259 53,
 sV 260 89,
 { t:=267,kind:=1,zero:=[.agg 8 (aB 8 (.int .u64 0)).toArray],w:=64 },
 { t:=268,kind:=1,zero:=[.agg 128 (By (aB 128 0)).toArray],w:=128 },
 eT 275 [.agg 5 (aB 5 (.int .u64 0)).toArray,.agg 5 (aB 5 (.int .u64 0)).toArray,.agg 5 (aB 5 (.int .u64 0)).toArray,.agg 5 (aB 5 (.int .u64 0)).toArray] 160,
 eT 276 [.agg 5 (aB 5 (.int .u64 0)).toArray,.agg 5 (aB 5 (.int .u64 0)).toArray,.agg 5 (aB 5 (.int .u64 0)).toArray,.agg 5 (aB 5 (.int .u64 0)).toArray] 160,
 { t:=277,kind:=1,zero:=[.agg 160 (aB 160 (.int .u64 0)).toArray],w:=1280 },
 { t:=278,kind:=1,zero:=[.agg 256 (By (aB 256 0)).toArray],w:=256 },
 eT 279 [.agg 160 (aB 160 (.int .u64 0)).toArray,.agg 256 (By (aB 256 0)).toArray] 1536,
 eT 280 [.agg 160 (aB 160 (.int .u64 0)).toArray,.agg 256 (By (aB 256 0)).toArray] 1536,
 Ql 288,
 { t:=297,kind:=1,zero:=[.agg 64 (aB 64 (.int .u32 0)).toArray],w:=256 },
 { t:=300,kind:=1,zero:=[.agg 80 (aB 80 (.int .u64 0)).toArray],w:=640 },
 { t:=302,kind:=1,zero:=[.agg 1 (By (aB 1 0)).toArray],w:=1 },
 sV 312 280,
 eT 317 [.one (.v (.int .u64 0)),.one (.v (.int .u64 0))] 16,
 eT 318 [.one (.v (.int .u64 0)),.one (.v (.int .u64 0))] 16,
 { t:=321,kind:=0,zero:=[.one (.v (.int .u64 0))],ik:=some .u64,w:=8 },
 A9 324,
 A9 326,
 A9 338]
def an:fh prog jx:=avE (by kernel_rfl) (by kernel_rfl)
def H4:aC->aG->aG
  | [],_=>[]
  | k::ks,E=>match dG E k with
    | some v=>(k,v)::H4 ks E
    | none=>H4 ks E
theorem OP:∀(ks:aC) (E:aG),wh (H4 ks E) E
 | [],_=>trivial
 | k::ks,E=>by
  unfold H4;split
  .rename_i v h;exact⟨h,OP ks E⟩
  .exact OP ks E
def abV(j:Nat):aC->Bool
  | []=>false
  | k::ks=>match b9 k j with
    | true=>true
    | false=>abV j ks
def zk(js:aC):aH->aH
  | []=>[]
  | x::L=>match abV x.j js with
    | true=>x::zk js L
    | false=>zk js L
theorem Um{js:aC}:∀{L:aH} {x:mn},x∈zk js L->x∈L
 | [],_,h=>by cases h
 | y::L,x,h=>by
  unfold zk at h;split at h
  .rcases bT.1 h with rfl|h
   .exact eh
   .exact dS _ (Um h)
  .exact dS _ (Um h)
theorem OQ{js:aC}:∀{L:aH},(gM (zk js L)).Sublist (gM L)
 | []=>List.Sublist.slnil
 | y::L=>by
  unfold zk;split
  .exact(OQ (L:=L)).cons_cons _
  .exact(OQ (L:=L)).cons _
section
variable{b:bO}{N:Nat}{E:aG}{L:aH}{R:bF}{F M:aE}{a:Act}{w:yp}
def bj.fO{G:aK}{S:cn}(h:bj b G S L R F M w)(js:aC):bj b G S (zk js L) R F M w:=by have hn:∀j,j∈gM (zk js L)->j∈gM L:=λj hj=>OQ.subset hj;have hM:∀k,gP S G (zk js L) k->gP S G L k:=λk hk=>hk.imp id λ⟨j,hj,e⟩=>⟨j,hn j hj,e⟩;exact⟨λx hx=>h.var x (Um hx),h.apart.sublist OQ,h.res,λj hj=>h.sep j (hn j hj),h.fact.less λk _ hk=>hk.imp id (hM k),h.fresh.less λk _ hk=>hk.imp id (hM k),h.chg,λk hk=>h.mine k (hM k hk),h.eS⟩
def iz.fO(h:iz b N ⟨E,L,R,F,M⟩ a w)(ks js:aC):iz b N ⟨H4 ks E,zk js L,R,F,M⟩ a w:=by obtain⟨G,S,h1,h2,h3⟩:=h;exact⟨G,S,h1.sub (JF (OP ks E)),(OP ks E).ok h2,h3.fO js⟩
end
section
variable{P:ym}{b:bO}{T:eG}{Q:bK}{N:Nat}{E E' E2:aG}{L L' L2:aH}{R:bF}{F M:aE}
def mR{c:Code}(ks js:aC)(h1:H4 ks E=E')(h2:zk js L=L')(h:cN P b c Q N ⟨E',L',R,F,M⟩):cN P b c Q N ⟨E,L,R,F,M⟩:=λa w hs=>by subst h1 h2;exact h a w (hs.fO ks js)
def aAS{id:Nat}{l:aN}{y:Code}(hT:fh P T)(h:oL T l.toArray N l E L=([],E',L'))(hn:cN P b y Q N ⟨E',L',R,F,M⟩):cN P b (.seq (.region id l.toArray false) y) Q N ⟨E,L,R,F,M⟩ :=
 ck λ_ hK=>FB hT h (ah (hK _ hn))
def aAT{id:Nat}{l:aN}(hT:fh P T)(h:oL T l.toArray N l E L=([],E',L'))(hn:cl b (Q .normal) N ⟨E',L',R,F,M⟩):cN P b (.region id l.toArray false) Q N ⟨E,L,R,F,M⟩ :=
 ef (FB hT h (ah hn))
def lQ{c:Code}(φ:Prop)(h:∀w,F w->M w->φ)(hn:φ->cN P b c Q N ⟨E,L,R,F,M⟩):cN P b c Q N ⟨E,L,R,F,M⟩:=λa w hs=>by have hs':=hs;obtain⟨G,S,h1,h2,h3⟩:=hs;exact hn (h w h3.all.now.1 h3.all.now.2) a w hs'
def Uv{ops:aZ}{l:aN}(φ:Prop)(h:∀w,F w->M w->φ)(hn:φ->a9 P b ops Q N l ⟨E,L,R,F,M⟩):a9 P b ops Q N l ⟨E,L,R,F,M⟩:=λa w hs=>by have hs':=hs;obtain⟨G,S,h1,h2,h3⟩:=hs;exact hn (h w h3.all.now.1 h3.all.now.2) a w hs'
def aAV{id:Nat}{l l':aN}{y:Code}(hT:fh P T)(h:oL T l.toArray N l E L=(l',E',L'))(hn:∀K:fg,(∀e',cN P b y Q N e'->cl b K N e')->a9 P b l.toArray (Exit.then K Q) N l' ⟨E',L',R,F,M⟩):cN P b (.seq (.region id l.toArray false) y) Q N ⟨E,L,R,F,M⟩ :=
 ck λK hK=>FB hT h (hn K hK)
end
def ij(g:Nat)(t:yn)(ai:cJ)(w:yp):Prop:=bB w g t (a7 ai)/\ch ai
instance{g:Nat}{t:yn}{ai:cJ}:dc (ij g t ai):=⟨λ_ _ h hb=>⟨h.1.later hb,h.2⟩⟩
def rq(g:Nat)(t:yn)(ai:cJ):fS where
  holds w S:=ij g t ai w/\∀j,S j↔j=g
  fO:=λ⟨h1,h2⟩ hk=>⟨⟨(hk g ((h2 g).2 rfl)).trans h1.1,h1.2⟩,h2⟩
  lt:=λ⟨h1,h2⟩ j hj=>by rw [(h2 j).1 hj];exact h1.1.lt
section
variable{P:ym}{b:bO}{T:eG}{ops:aZ}{Q:bK}{N:Nat}{E:aG}{L:aH}{R:bF}{F M:aE}{o:yk}{k g off:Nat}{t:yn}{x:yo}{ty:yn}{ai:cJ}{q:aL}
def Lj(hT:fh P T)(ho:o.op = .load t x)(hx:aP E x=some (.v (.pointer (some ⟨g,off,none⟩))))(hl:tE T ai t off=some q){G:aK}{a:Act}{w:yp}(ha:Fr N (bG G E) a)(h:ij g ty ai w):q.aI/\(execOp a.eval o).run P w = .ok (.value q.den) w:=by obtain⟨h1,h2⟩:=O4 hT h.2 hl;refine⟨h1,?_⟩;have e:=ha.eval (bH hx);unfold execOp;simp only [ho,e,aq.den,aL.den,eK.den,h2 h.1,bI,bM,bS]
def at2{rest:aN}(hT:fh P T)(hq:di o k N)(ho:o.op = .load t x)(hx:aP E x=some (.v (.pointer (some ⟨g,off,none⟩))))(hl:tE T ai t off=some q)(h:∀G S w,View G S L R F M w->ij g ty ai w)
 (hn:a9 P b ops Q N rest ⟨(k,.q q)::E,L,R,F,M⟩):a9 P b ops Q N (o::rest) ⟨E,L,R,F,M⟩:=λa w ⟨G,S,h1,h2,h3⟩=>by
 obtain⟨h4,h5⟩:=Lj hT ho hx hl h1 (h G S w h3.view);refine nA (lr (eB hq)) h5 ?_;rw [(eC hq)];exact hn _ w ⟨G,S,h1.put (dQ hq) _,h2.cons h4,h3⟩
def JU{T':aN}{G:aK}{S:cn}{w0:yp}{rest:List (Nat×yk)}{i:Nat}(hT:fh P T)(aa:bj b G S L R F M w0)(hq:di o k N)(ho:o.op = .load t x)(hx:aP E x=some (.v (.pointer (some ⟨g,off,none⟩))))(hl:tE T ai t off=some q)(h:∀G S w,View G S L R F M w->ij g ty ai w)
 (hn:kc P b ops Q N T' G w0 rest ((k,.q q)::E)):kc P b ops Q N T' G w0 ((i,o)::rest) E:=λhE =>
 yO rfl (λa ha=>BD (v:=q.den) (by simp [aU,(eB hq)]) (λw hw=>(Lj hT ho hx hl ha (h G S w (aa.later hw.1).view)).2) (by rw [(eC hq)];exact yN (o:=o) (hn (hE.cons (O4 hT (h G S w0 aa.view).2 hl).1)) _ (ha.put (dQ hq) _)))
end
def sT{g:Nat}{t:yn}{ai:cJ}{L:aH}{R:bF}{F M:aE}(i:Nat)(hi:R[i]?=some (rq g t ai)):∀G S w,View G S L R F M w->ij g t ai w:=λ_ _ _ h=>by obtain⟨S1,_,h1,_⟩:=h.res.at hi;exact h1.1
def kP{g:Nat}{t:yn}{ai:cJ}{L:aH}{R:bF}{F M:aE}(h:∀w,F w->M w->ij g t ai w):∀G S w,View G S L R F M w->ij g t ai w:=λ_ _ w ab=>h w ab.fact ab.fresh
def aY(x:UInt8):aL:=.c (.v (.int .u8 (x.toNat:Int)))
def Ep(i:Int):aL:=.c (.v (.int .i64 i))
def ps(t:Bool):aL:=.c (.b t)
def aw(n:Nat)(l:ae):aL:=.p [.agg n (By l).toArray]
def Eo(x:UInt8):ch (aY x).fA/\(aY x).cp.length=1:=⟨λp hp=>by rw [bU.1 hp];exact⟨trivial,rfl,rfl⟩,rfl⟩
def anF(t:Bool):ch (ps t).fA/\(ps t).cp.length=1:=⟨λp hp=>by rw [bU.1 hp];exact⟨trivial,rfl,rfl⟩,rfl⟩
def cq{n:Nat}{l:ae}(h:l.length=n):ch (aw n l).fA/\(aw n l).cp.length=n:=by
 have h1:(By l).toArray.size=n:=by rw [fx,dH,h]
 exact⟨λp hp=>by rw [bU.1 hp];exact⟨h1,qp l⟩,by rw [aL.cp,kD];exact h1⟩
def mK(l:ae):jL 1 aY l:=λx _=>Eo x
def UY{n:Nat}{ls:aX}(h:∀l∈ls,l.length=n):jL n (aw n) ls:=λl hl=>cq (h l hl)
theorem JS:∀l:ae,de aY l=By l
 | []=>rfl
 | x::l=>by have:=JS l;simp only [de,nB] at this ⊢;rw [this];rfl
def ar.dw{A:aO}{c:Nat}{l:ae}{w:yp}(h:ar 1 aY A c l w):ja w (.slice A l.length c) l:=by obtain⟨h1,h2,h3,_,h5⟩:=h;refine⟨A,c,rfl,h1,h2,h3,λhl=>?_⟩;obtain⟨b,o,e,hb,hr⟩:=h5 hl;refine⟨⟨b,o,none⟩,e,bl _,hb,λj x hx=>?_⟩;have:=hr j x hx 0 (.int .u8 (x.toNat:Int)) rfl;rw [lf];simpa using this
theorem ar.acO{A:aO}{c n:Nat}{l:ae}{w:yp}(h:ja w (.slice A n c) l):n=l.length/\ar 1 aY A c l w:=by
 obtain⟨A',c',e,h1,h2,h3,h4⟩:=h;injection e with e1 e2 e3;subst e1 e2 e3;refine⟨rfl,h1,h2,h3,mK l,λhl=>?_⟩;obtain⟨ad,e,_,h6,h7⟩:=h4 hl;obtain⟨b,o,sp⟩:=ad;have TK:sp=none:=by
  have h8:=h7 0 l[0] (da hl);cases sp with
  | none=>rfl
  | some s =>
   unfold World.cell? Addr.add at h8
   simp only [if_true] at h8
   split at h8
   .simp at h8
   .cases h8
 subst TK;refine⟨b,o,e,h6,λi x hi j v hj=>?_⟩;have h8:=h7 i x hi;rw [lf] at h8;cases j with
 | zero =>
  have e:v = .int .u8 (x.toNat:Int):=by have:(aY x).cp[0]?=some (.int .u8 (x.toNat:Int)):=rfl;rw [this] at hj;exact(jm hj).symm
  rw [e,qI,jP];exact h8
 | succ j =>
  have:(aY x).cp[j+1]?=none:=rfl;rw [this] at hj
  cases hj
def jv{m r:Int}(h:m=r)(h1 : -9223372036854775808<=r)(h2:r<=9223372036854775807):IntKind.i64.wrap m=r:=by rw [h,i64_left,wrap64_in _ ⟨h1,by omega⟩]
def I6(n d:Nat)(h:n<=9223372036854775807):IntKind.i64.wrap ((n:Int).tdiv (d:Int))=((n/d:Nat):Int):=by
 have h1:(n:Int).tdiv (d:Int)=((n/d:Nat):Int):=by rw [Int.tdiv_eq_ediv_of_nonneg (by omega)];rfl
 have h2:n/d<=n:=Nat.div_le_self _ _;rw [h1];generalize n/d=q at *;exact jv rfl (by omega) (by omega)
def iG{v:aL}(h:v.aI):∀u∈[v],u.aI:=λu hu=>by rw [bU.1 hu];exact h
def dZ{v v2:aL}(h:v.aI)(h2:v2.aI):∀u∈[v,v2],u.aI:=λu hu=>by
 rcases bT.1 hu with rfl|hu
 .exact h
 .exact iG h2 u hu
def uP{v:aL}{vs:oG}(h:v.aI)(h2:∀u∈vs,u.aI):∀u∈v::vs,u.aI:=λu hu=>by
 rcases bT.1 hu with rfl|hu
 .exact h
 .exact h2 u hu
instance{p q:aE}[hp:dc p][hq:dc q]:dc (λw=>p w/\q w):=⟨λ_ _ h hb=>⟨hp.later _ _ h.1 hb,hq.later _ _ h.2 hb⟩⟩
instance{α:Type}{p:α->aE}{l:List α}[hp:∀a,dc (p a)]:dc (λw=>∀a∈l,p a w):=⟨λ_ _ h hb a ha=>(hp a).later _ _ (h a ha) hb⟩
def rG{b:bO}{ops:aZ}{Q:bK}{N:Nat}{T':aN}{G:aK}{S:cn}{L:aH}{R:bF}{F M F':aE}{w0:yp}{E:aG}{o:yk}{rest:List (Nat×yk)}{i k:Nat}{f:yi}{xs:na}{ats:mX}{svs:nH}{r:cM}[dc F']
 (aa:bj b G S L R F M w0)(args:cU)(hq:di o k N)(hf:Own f)(ho:o.op = .call { callee:=.value (.func f),args:=xs,argTypes:=ats })(hx:lg E xs.toList=some svs)
 (ha:(∀x∈L,∀g,x.g=some g->G x.j=g)->svs.map (aq.den G)=args)(hs:Spec f args [] F' (one r))(hr:r.eJ.aI)(hF:∀G S w,View G S L R F M w->F' w)
 (hn:kc prog b ops Q N T' G w0 rest ((k,r.eJ)::E)):kc prog b ops Q N T' G w0 ((i,o)::rest) E :=
 aoN aa args hq hf ho hx ha hr (λw ab=>(hs w (λ_=>False) (λ_=>False) (λ_ h=>h) (λ_ h=>h.elim) (iu.DM (hF _ _ _ ab) λ_ _ h=>h.elim id id)).mono λ_ _ ⟨_,_,h1,_,h2,_⟩=>⟨h1,h2.up λ_ _ h=>h⟩) hn
def asV{b:bO}{ops:aZ}{Q:bK}{N:Nat}{E:aG}{L:aH}{R:bF}{F M F':aE}{o:yk}{rest:aN}{k:Nat}{α:Type}{post:fm α}{f:yi}{xs:na}{ats:mX}{svs:nH}
 (args:cU)(hq:di o k N)(hf:Own f)(ho:o.op = .call { callee:=.value (.func f),args:=xs,argTypes:=ats })(hx:lg E xs.toList=some svs)
 (ha:∀G:aK,(∀x∈L,∀g,x.g=some g->G x.j=g)->svs.map (aq.den G)=args)(hs:Spec f args [] F' post)(hF:∀w,F w->M w->F' w)
 (hn:∀x,a9 prog b ops Q N rest ⟨(k,(post.ret x).eJ)::E,L,post.own x++R,λw=>post.p x w/\F w,λw=>post.n x w/\M w⟩):a9 prog b ops Q N (o::rest) ⟨E,L,R,F,M⟩ :=
 Uq (own:=[]) (R':=R) args (eB hq) (eC hq) (dQ hq) hf ho hx ha hs hF hn
def aaV{P:ym}{b:bO}{ops:aZ}{Q:bK}{N:Nat}{E:aG}{L:aH}{R:bF}{F M:aE}{l:aN}(k:Nat){v:aq}(v':aq)(h:dG E k=some v)(he:∀G,v.den G=v'.den G)(ho:v'.aI)(hn:a9 P b ops Q N l ⟨(k,v')::E,L,R,F,M⟩):a9 P b ops Q N l ⟨E,L,R,F,M⟩:=λa w ⟨G,S,h1,h2,h3⟩ =>
 hn a w ⟨G,S,h1.more (h1.get k _ (by rw [ou,h];exact congrArg some (he G))),h2.cons ho,h3⟩
def dz{P:ym}{b:bO}{ops:aZ}{Q:bK}{N:Nat}{E:aG}{L:aH}{R:bF}{F M:aE}{l:aN}(R2:bF)(h:R=R2)(hn:a9 P b ops Q N l ⟨E,L,R2,F,M⟩):a9 P b ops Q N l ⟨E,L,R,F,M⟩:=h▸hn
def lN{b:bO}{K:fg}{N:Nat}{E:aG}{L:aH}{R:bF}{F M:aE}(i:Nat){r:fS}(hi:R[i]?=some r)(h:cl b K N ⟨E,L,R.eraseIdx i,F,M⟩):cl b K N ⟨E,L,R,F,M⟩:=λa w ⟨G,S,h1,h2,h3⟩=>by obtain⟨S1,S2,_,_,_,h4⟩:=h3.let hi;exact h a w ⟨G,S2,h1,h2,h4⟩
structure cC where
  A:aO
  c:Nat
  l:ae
abbrev lU:=List cC
def kg(s:cC):aL:=.c (.v (.slice s.A s.l.length s.c))
def JI(s:cC):ch (kg s).fA/\(kg s).cp.length=1:=⟨λp hp=>by rw [bU.1 hp];exact⟨trivial,rfl,rfl⟩,rfl⟩
def Cz(l:lU):jL 1 kg l:=λs _=>JI s
def cC.rd(s:cC)(w:yp):Prop:=ar 1 aY s.A s.c s.l w
instance{s:cC}:dc s.rd:=⟨λ_ _ h hb=>h.later hb⟩
def ar.yr{A:aO}{c:Nat}{l:ae}{w:yp}(h:ar 1 aY A c l w):gV w 0 w.heap.size A l c:=by obtain⟨A',c',e,h1⟩:=h.dw;injection e with e1 _ e2;subst e1 e2;exact h1
theorem axM{A:aO}{c:Nat}{ss:lU}{w:yp}(h:ar 1 kg A c ss w)(h2:∀s∈ss,s.rd w):xl w w.heap.size A (ss.map cC.l):=λhl=>by
 obtain⟨b,o,e,hb,hr⟩:=h.2.2.2.2 (by simpa using hl);refine⟨⟨b,o,none⟩,e,hb,λi l hi=>?_⟩;rw [List.getElem?_map] at hi;cases hs:ss[i]? with
 | none=>rw [hs] at hi;cases hi
 | some s =>
  rw [hs] at hi;simp only [kF,iv] at hi;subst hi;refine⟨s.A,s.c,?_,(h2 s (eg hs)).yr⟩;have:=hr i s hs 0 (.slice s.A s.l.length s.c) rfl;rw [lf]
  simpa using this
abbrev ptr(g:Nat):yl:=.pointer (some ⟨g,0,none⟩)
def Nw{n:Nat}{l:ae}(h:ch (aw n l).fA):l.length=n:=by
 have h1:=(h (.agg n (By l).toArray) (by simp [aw,aL.fA])).1
 rwa [fx,dH] at h1
abbrev cf:=ae×Nat
def lS(k:Nat)(s:cf):ae:=(qn s.1 s.2 k).1
def rl(k:Nat)(s:cf):cf:=(qn s.1 s.2 k).2
def q8(s:cf):Nat:=val (lS 8 s)
def ko(s:cf):cf:=rl 8 s
def kO(m:Nat)(s:cf):Nat:=if m<q8 s then 0 else q8 s
def kA(m:Nat)(s:cf):cf:=if m<q8 s then((ko s).1,12) else ko s
def nR(s:cf):ae:=lS (kO 1048576 s) (kA 1048576 s)
def pR(s:cf):cf:=rl (kO 1048576 s) (kA 1048576 s)
def ID(x:ae):ae:=x++aB (64-x.length) 0
def yh(s:cf):ae:=ID (lS 64 s)
def zG(s:cf):cf:=rl 64 s
def kG(s:cf):Nat:=Nr s.1 s.2
section
variable{k:Nat}{s:cf}
def Bk(h:s.2≠0):lS k s=[]/\rl k s=s:=by unfold lS rl;rw [aD0 h];exact⟨rfl,rfl⟩
def Wm(h:s.2=0)(hk:s.1.length<k):lS k s=[]/\rl k s=(s.1,10):=by unfold lS rl;rw [h,aD2 hk];exact⟨rfl,rfl⟩
def QY(h:s.2=0)(hk:k<=s.1.length):lS k s=s.1.take k/\rl k s=(s.1.drop k,0):=by unfold lS rl;rw [h,aD1 hk];exact⟨rfl,rfl⟩
def ah6(k:Nat)(s:cf):(lS k s=[]/\rl k s=s/\s.2≠0)\/(lS k s=[]/\rl k s=(s.1,10)/\s.2=0/\s.1.length<k)\/(lS k s=s.1.take k/\rl k s=(s.1.drop k,0)/\s.2=0/\k<=s.1.length):=by
 by_cases h:s.2=0
 .by_cases hk:s.1.length<k
  .exact .inr (.inl ⟨(Wm h hk).1,(Wm h hk).2,h,hk⟩)
  .exact .inr (.inr ⟨(QY h (by omega)).1,(QY h (by omega)).2,h,by omega⟩)
 .exact .inl ⟨(Bk h).1,(Bk h).2,h⟩
def QZ(h:(rl k s).2=0):s.2=0/\(lS k s).length=k/\s.1=lS k s++(rl k s).1:=by
 rcases ah6 k s with⟨h1,h2,h3⟩|⟨h1,h2,h3,h4⟩|⟨h1,h2,h3,h4⟩
 .rw [h2] at h;exact absurd h h3
 .rw [h2] at h;cases h
 .rw [h1,h2];exact⟨h3,by rw [du];omega,(oN k s.1).symm⟩
def Gd(k:Nat)(s:cf):(lS k s).length<=k/\(lS k s).length<=s.1.length:=by rcases ah6 k s with⟨h1,_⟩|⟨h1,_⟩|⟨h1,_⟩<;>rw [h1]<;>simp;omega
def av5(s:cf):q8 s<18446744073709551616:=aEG _
theorem alC{l:ae}(h:l.length=8):br (val l)=l:=by
 match l,h with
 | [a,b,c,d,e,f,g,i],_ =>
  have ha:=a.toNat_lt;have hb:=b.toNat_lt;have hc:=c.toNat_lt;have hd:=d.toNat_lt;have he:=e.toNat_lt;have hf:=f.toNat_lt;have hg:=g.toNat_lt;have hi:=i.toNat_lt
  have ab:val [a,b,c,d,e,f,g,i]=a.toNat*72057594037927936+b.toNat*281474976710656+c.toNat*1099511627776+d.toNat*4294967296+e.toNat*16777216+f.toNat*65536+g.toNat*256+i.toNat:=by simp only [val,List.foldl_cons,List.foldl_nil,step];omega
  have key:∀(x:UInt8) (n:Nat),n%256=x.toNat->bX n=x:=λx n h=>by apply UInt8.toNat_inj.1;rw [Aj,h]
  rw [ab]
  unfold br
  rw [key a _ (by omega),key b _ (by omega),key c _ (by omega),key d _ (by omega),key e _ (by omega),key f _ (by omega),key g _ (by omega),key i _ (by omega)]
def acH(h:(ko s).2=0):s.2=0/\s.1=br (q8 s)++(ko s).1:=by obtain⟨h1,h2,h3⟩:=QZ h;refine⟨h1,?_⟩;unfold q8;rw [alC h2];exact h3
def Pf{m:Nat}(h:(kA m s).2=0):s.2=0/\kO m s=q8 s/\kO m s<=m/\s.1=br (kO m s)++(kA m s).1:=by
 unfold kA kO at *;split at h
 .cases h
 .rename_i hm;rw [if_neg hm,if_neg hm];obtain⟨h1,h2⟩:=acH h;exact⟨h1,rfl,by omega,h2⟩
def Im(m:Nat)(s:cf):kO m s<=m:=by unfold kO;split<;>omega
def RX(h:(pR s).2=0):s.2=0/\s.1=br (nR s).length++(nR s)++(pR s).1:=by obtain⟨h1,h2,h3⟩:=QZ h;obtain⟨g1,_,_,g2⟩:=Pf h1;refine⟨g1,?_⟩;unfold nR pR;rw [h2,ei,<-h3];exact g2
def adC{x:ae}(h:x.length=64):ID x=x:=by simp [ID,h]
def axB{x:ae}(h:x.length<=64):(ID x).length=64:=by simp [ID];omega
def agD(s:cf):(yh s).length=64:=axB (Gd 64 s).1
def aBC(h:(zG s).2=0):s.2=0/\s.1=yh s++(zG s).1:=by obtain⟨h1,h2,h3⟩:=QZ h;refine⟨h1,?_⟩;unfold yh;rw [adC h2];exact h3
end
def aFZ(v:Nat)(h:v<18446744073709551616):wrap64 (v:Int)=(v:Int)\/wrap64 (v:Int)=(v:Int)-18446744073709551616:=by unfold wrap64;omega
def Ws(z:Int):IntKind.u64.wrap z=z%18446744073709551616:=rfl
def aG1{v:Nat}(h:v<18446744073709551616):(IntKind.u64.wrap (IntKind.i64.wrap (v:Int))).toNat=v:=by have h1:=aFZ v h;rw [i64_left];generalize wrap64 (v:Int)=z at h1;rw [Ws];omega
def Nz{s:cf}(h:kG s=0):s.2=0/\s.1=[]:=by
 unfold kG Nr at h;split at h
 .split at h
  .exact⟨by assumption,lB (by assumption)⟩
  .cases h
 .exact absurd h (by assumption)
def aBX{r:fS}{w:yp}{S:cn}:gD [r] w S↔r.holds w S:=by
 constructor
 .rintro⟨S1,S2,h1,h2,h3,_⟩;have e:S=S1:=funext λk=>propext ⟨λh=>((h3 k).1 h).resolve_right (h2 k),λh=>(h3 k).2 (.inl h)⟩;rw [e];exact h1
 .exact λh=>⟨S,λ_=>False,h,λ_ h=>h,λk=>⟨.inl,λh=>h.elim id tP⟩,λ_ _ h=>h⟩
section
variable{P:ym}{b:bO}{ops:aZ}{Q:bK}{N:Nat}{E:aG}{L:aH}{R:bF}{F M:aE}{o:yk}{k:Nat}{rest:aN}
theorem adH{G:aK}:∀(ai:List (Nat×yo)) (vs:List (Nat×eK)),ai.map (λp=>(p.1,aP E p.2))=vs.map (λx=>(x.1,some (.q (.c x.2))))->ai.map (λp=>(p.1,dy (bG G E) p.2))=(vs.map λx=>(x.1,x.2.den)).map λp=>(p.1,some p.2)
 | [],[],_=>rfl
 | [],_::_,h=>by cases h
 | _::_,[],h=>by cases h
 | p::ai,v::vs,h=>by simp only [eZ,BM,nS] at h ⊢;exact⟨⟨h.1.1,bH h.1.2⟩,adH ai vs h.2⟩
def Lc{t:yn}{parts:Array (Nat×yo)}(vs:List (Nat×eK))(n:Nat)(l:ae)(hq:di o k N)(ho:o.op = .build t parts)(ab:parts.toList.map (λp=>(p.1,aP E p.2))=vs.map (λx=>(x.1,some (.q (.c x.2)))))
 (hb:P.built t (vs.map λx=>(x.1,x.2.den))=some (By l).toArray)(hl:l.length=n)(hn:a9 P b ops Q N rest ⟨(k,.q (aw n l))::E,L,R,F,M⟩):a9 P b ops Q N (o::rest) ⟨E,L,R,F,M⟩ :=
 zn (.q (aw n l)) (cq hl).1 (λG S w C0 Q' _ _ hQ=>C3 _ _ hq ho (adH _ _ ab) hb hQ) (by rw [ho];rfl) hn
end
def ak4(w:yp)(A:aO)(ks:aX):Prop :=
  0<ks.length->∃b o,A=some ⟨b,o,none⟩/\b<w.heap.size/\∀(i:Nat) l,ks[i]?=some l->l.length=32/\w.rangeAt b (o+32*i) (By l)
def xj(w:yp)(v:yl)(ks:aX):Prop:=∃A c,v = .slice A ks.length c/\ks.length<=c/\c<=9223372036854775807/\ak4 w A ks
section
variable{ops:aZ}{C0:aE}{Q:Act->Prop}{N:Nat}{E:List (Nat×yl)}{o:yk}{rest:aN}{k:Nat}
def mP:=@underlying39
def ao5{x:yo}(v:yl)(l:ae)(hq:di o k N)(ho:o.op = .convert 39 9 x)(hx:dy E x=some v)(hs:∀w,C0 w->ja w v l)
 (hn:jc prog ops C0 Q rest N ((k,.string ⟨l.toArray⟩)::E)):jc prog ops C0 Q (o::rest) N E :=
 yL _ (eB hq) (eC hq) (dQ hq) (λa ha w hw=>by
  have h1:=ha.eval hx;obtain⟨A,c,rfl,bm⟩:=hs w hw;unfold execOp;simp only [ho,h1];cases A with
  | none =>
   obtain⟨h3,h4⟩:=bm.none_ rfl;obtain rfl:=lB h3;have hr:=run_convert_bytes_nil (P:=prog) w 39 5 mP nu 0 c 9 underlying9;simp only [bI,List.length_nil,hr,bS,bM]
   rfl
  | some ad =>
   have hr:=run_convert_bytes_back (P:=prog) w 39 9 5 ad c l mP nu underlying9 (λj hj=>bm.cells ad rfl j _ (by rw [By_at? hj,getElem!_pos l j hj]))
   simp only [bI,hr,bS,bM]) hn
end
section
variable{P:ym}{b:bO}{ops:aZ}{Q:bK}{N:Nat}{E:aG}{L:aH}{R:bF}{F M:aE}{o:yk}{rest:aN}{k:Nat}
def b6(v:aq)(hq:di o k N)(h:∀(G:aK) (a:Act) (w:yp),Fr N (bG G E) a->(execOp a.eval o).run P w = .ok (.value (v.den G)) w)
 (hn:a9 P b ops Q N rest ⟨(k,v)::E,L,R,F,M⟩)(ab:v.aI:=by exact trivial):a9 P b ops Q N (o::rest) ⟨E,L,R,F,M⟩:=λa w ⟨G,S,h1,h2,h3⟩=>by
 refine nA (lr (eB hq)) (h G a w h1) ?_;rw [(eC hq)];exact hn _ w ⟨G,S,h1.put (dQ hq) _,h2.cons ab,h3⟩
def jq(v:aq)(hq:di o k N)(h:∀(G:aK) (S:cn) (a:Act) (w:yp),Fr N (bG G E) a->View G S L R F M w->(execOp a.eval o).run P w = .ok (.value (v.den G)) w)
 (hn:a9 P b ops Q N rest ⟨(k,v)::E,L,R,F,M⟩)(ab:v.aI:=by exact trivial):a9 P b ops Q N (o::rest) ⟨E,L,R,F,M⟩:=λa w ⟨G,S,h1,h2,h3⟩=>by
 refine nA (lr (eB hq)) (h G S a w h1 h3.view) ?_;rw [(eC hq)];exact hn _ w ⟨G,S,h1.put (dQ hq) _,h2.cons ab,h3⟩
variable{T':aN}{G:aK}{S:cn}{w0:yp}{grest:List (Nat×yk)}{i:Nat}
def oZ(v:aq)(hq:di o k N)(h:∀(G:aK) (a:Act) (w:yp),Fr N (bG G E) a->(execOp a.eval o).run P w = .ok (.value (v.den G)) w)
 (hn:kc P b ops Q N T' G w0 grest ((k,v)::E))(ab:v.aI:=by exact trivial):kc P b ops Q N T' G w0 ((i,o)::grest) E:=λhE =>
 yO rfl (λa ha=>BD (by simp [aU,(eB hq)]) (λw _=>h G a w ha) (by rw [(eC hq)];exact yN (o:=o) (hn (hE.cons ab)) _ (ha.put (dQ hq) _)))
end
section
variable{N:Nat}{E:aG}{o:yk}{x y:yo}{t t':yn}
def F6{n:Nat}{l m:ae}(ho:o.op = .binOp .eql t x y t')(hx:aP E x=some (.q (aw n l)))(hy:aP E y=some (.q (aw n m)))(ht:prog.underlying t=some (.array n 5))(hg:prog.eqGuardType prog.depth t=false)(hl:l.length=n)(hm:m.length=n) :
  ∀(G:aK) (a:Act) (w:yp),Fr N (bG G E) a->(execOp a.eval o).run prog w = .ok (.value ((aq.b (decide (l=m))).den G)) w:=λG a w ha=>by
 have h1:a.eval x = .agg (By l).toArray:=ha.eval (bH hx);have h2:a.eval y = .agg (By m).toArray:=ha.eval (bH hy)
 unfold execOp
 simp only [ho,h1,h2,bI,run_eqGuard_agg (hm:=hg),bS,binOp,Op.equal,Op.maxDepth,Sj 9998 n t l m ht hl hm w,bM]
 rfl
def F7{n:Nat}{l m:ae}(ho:o.op = .binOp .neq t x y t')(hx:aP E x=some (.q (aw n l)))(hy:aP E y=some (.q (aw n m)))(ht:prog.underlying t=some (.array n 5))(hg:prog.eqGuardType prog.depth t=false)(hl:l.length=n)(hm:m.length=n) :
  ∀(G:aK) (a:Act) (w:yp),Fr N (bG G E) a->(execOp a.eval o).run prog w = .ok (.value ((aq.b (!decide (l=m))).den G)) w:=λG a w ha=>by
 have h1:a.eval x = .agg (By l).toArray:=ha.eval (bH hx);have h2:a.eval y = .agg (By m).toArray:=ha.eval (bH hy)
 unfold execOp
 simp only [ho,h1,h2,bI,run_eqGuard_agg (hm:=hg),bS,binOp,Op.equal,Op.maxDepth,Sj 9998 n t l m ht hl hm w,bM]
 rfl
abbrev Q9(l:ae):aq:=.v (.string ⟨l.toArray⟩)
def aA9{l m:ae}(ho:o.op = .binOp .neq 9 x y t')(hx:aP E x=some (Q9 l))(hy:aP E y=some (Q9 m)) :
  ∀(G:aK) (a:Act) (w:yp),Fr N (bG G E) a->(execOp a.eval o).run prog w = .ok (.value ((aq.b (!decide (l=m))).den G)) w:=λG a w ha=>by
 have h1:a.eval x = .string ⟨l.toArray⟩:=ha.eval (bH hx);have h2:a.eval y = .string ⟨m.toArray⟩:=ha.eval (bH hy)
 unfold execOp
 simp only [ho,h1,h2]
 by_cases e:l=m<;>go_simp<;>first|rfl|(rw [show(l==m)=false from by simpa using e];rfl)
def afQ{m n:Int}(ho:o.op = .binOp .xor 5 x y t')(hx:aP E x=some (.v (.int .u8 m)))(hy:aP E y=some (.v (.int .u8 n))) :
  ∀(G:aK) (a:Act) (w:yp),Fr N (bG G E) a->(execOp a.eval o).run prog w = .ok (.value ((aq.v (.int .u8 (bits .xor .u8 m n))).den G)) w:=λG a w ha=>by
 have h1:a.eval x = .int .u8 m:=ha.eval (bH hx);have h2:a.eval y = .int .u8 n:=ha.eval (bH hy)
 unfold execOp
 simp only [ho,h1,h2]
 go_simp
 rfl
def aA3{A:aO}{n c:Nat}{e:yn}(ho:o.op = .binOp .eql t x (.const (.slice none 0 0)) t')(hu:prog.underlying t=some (.slice e))(hx:aP E x=some (.v (.slice A n c))) :
  ∀(G:aK) (a:Act) (w:yp),Fr N (bG G E) a->(execOp a.eval o).run prog w = .ok (.value ((aq.v (.bool A.isNone)).den G)) w:=λG a w ha=>by
 have h1:a.eval x = .slice A n c:=ha.eval (bH hx);have h3:=run_equal_slice_nil (P:=prog) w t e A n c hu
 unfold execOp
 have h4:(eqGuard .eql t x (.const (.slice none 0 0)) (.slice A n c) (.slice none 0 0)).run prog w = .ok () w:=rfl;simp only [ho,h1,show a.eval (.const (.slice none 0 0)) = .slice none 0 0 from rfl,bI,h4,bS,binOp,h3,bM]
 rfl
theorem run_sizeOf{P:ym}{e:yn}{k:Nat}(he:(P.info? e).map (·.size)=some k)(w:yp):(sizeOf e).run P w = .ok k w:=by
 cases hq:P.info? e with
 | none=>simp [hq] at he
 | some ie =>
  have hs:ie.size=k:=by simpa [hq] using he
  simp [sizeOf,typeInfo,hq,hs]
def VS{u v:aq}{p q:Bool}(ho:o.op = .binOp .neq 4 x y t')(hx:aP E x=some u)(hy:aP E y=some v)(hu:∀G,u.den G = .bool p)(ab:∀G,v.den G = .bool q):∀(G:aK) (a:Act) (w:yp),Fr N (bG G E) a->(execOp a.eval o).run prog w = .ok (.value ((aq.b (!(p==q))).den G)) w:=λG a w ha=>by have h1:a.eval x = .bool p:=(ha.eval (bH hx)).trans (hu G);have h2:a.eval y = .bool q:=(ha.eval (bH hy)).trans (ab G);unfold execOp;simp only [ho,h1,h2];go_simp;rfl
theorem Me{A:aO}{n c j sz:Nat}{e:yn}(he:(prog.info? e).map (·.size)=some sz)(hj:j<=c)(hA:A=none->c=0)(ho:o.op = .slice t x none (some y) none)(hu:prog.underlying t=some (.slice e))(hx:aP E x=some (.v (.slice A n c)))(hy:aP E y=some (.v (.int .i64 (j:Int)))) :
  ∀(G:aK) (a:Act) (w:yp),Fr N (bG G E) a->(execOp a.eval o).run prog w = .ok (.value ((aq.v (.slice A j c)).den G)) w:=λG a w ha=>by
 have h1:a.eval x = .slice A n c:=ha.eval (bH hx);have h2:a.eval y = .int .i64 (j:Int):=ha.eval (bH hy)
 have h3:(j:Int)<=(c:Int):=by omega
 have h4:(0:Int)<=(j:Int):=by omega
 have h5:=run_sizeOf he w
 unfold execOp
 simp only [ho];generalize a.eval=ρ at *;simp only [Option.map,h1,h2]
 show _=pE (oO (.slice A j c)) w
 cases A with
 | none =>
  have:=hA rfl;obtain rfl:c=0:=this
  obtain rfl:j=0:=by omega
  go_simp
 | some ad=>go_simp
end
def aBU{f:yi}{args:cU}{F:aE}[dc F](h:Spec f args [] F (one (.v (.bool true)))){W:yp}(hF:F W):Calls prog f args.toArray W λe W'=>e = .returned (.bool true)/\Below W.heap.size W W' :=
 (h W (λ_=>False) (λ_=>False) (λ_ h=>h) (λ_ h=>h.elim) (iu.DM hF λ_ _ h=>h.elim id id)).mono λ_ _ ⟨_,_,h1,_,h2,_⟩=>⟨h1,h2.up λ_ _ h=>h⟩
def ar.avC{A:aO}{c:Nat}{l:ae}{W:yp}(h:gV W 0 W.heap.size A l c):ar 1 aY A c l W:=(ar.acO ⟨A,c,rfl,h⟩).2
theorem afH{P:ym}{t e:yn}{n sz:Nat}(ht:P.underlying t=some (.array n e))(he:(P.info? e).map (·.size)=some sz)(g o:Nat)(K:yj)(i:Nat)(hi:i<n)(w:yp) :
  (pW t (.pointer (some ⟨g,o,none⟩)) (.int K (i:Int))).run P w = .ok (.pointer (some ⟨g,o+sz*i,none⟩)) w:=by
 cases hq:P.info? e with
 | none=>simp [hq] at he
 | some ie =>
  have hs:ie.size=sz:=by simpa [hq] using he
  have h1:(i:Int)<(n:Int):=by omega
  have h2:(0:Int)<=(i:Int):=by omega
  simp [pW,asIntOf,gG,run_underlying ht,sizeOf,typeInfo,hq,hs,lf,oV,hi]
section
variable{P:ym}{T:eG}{b:bO}{ops:aZ}{Q:bK}{N:Nat}{E:aG}{L:aH}{R:bF}{F M:aE}{o:yk}{rest:aN}{k:Nat}{t e:yn}{x y z:yo}{K:yj}{j off n sz g:Nat}
def eO(i:Nat)(ho:o.op = .indexAddr t x y)(ht:P.underlying t=some (.array n e))(he:(P.info? e).map (·.size)=some sz)(hx:aP E x=some (.a j off))(hy:aP E y=some (.v (.int K (i:Int))))(hi:i<n) :
  ∀(G:aK) (a:Act) (w:yp),Fr N (bG G E) a->(execOp a.eval o).run P w = .ok (.value ((aq.a j (off+sz*i)).den G)) w:=λG a w ha=>by
 have e1:=ha.eval (bH hx);have e2:=ha.eval (bH hy)
 unfold execOp
 simp only [ho,e1,e2,aq.den,aL.den,eK.den,bI,afH ht he _ _ _ _ hi,bS,bM]
def Md(i:Nat)(ho:o.op = .indexAddr t x y)(ht:P.underlying t=some (.array n e))(he:(P.info? e).map (·.size)=some sz)(hx:aP E x=some (.v (.pointer (some ⟨g,off,none⟩))))(hy:aP E y=some (.v (.int K (i:Int))))(hi:i<n) :
  ∀(G:aK) (a:Act) (w:yp),Fr N (bG G E) a->(execOp a.eval o).run P w = .ok (.value ((aq.v (.pointer (some ⟨g,off+sz*i,none⟩))).den G)) w:=λG a w ha=>by
 have e1:=ha.eval (bH hx);have e2:=ha.eval (bH hy)
 unfold execOp
 simp only [ho,e1,e2,aq.den,aL.den,eK.den,bI,afH ht he _ _ _ _ hi,bS,bM]
def lO{c:Nat}(i:Nat)(ho:o.op = .indexAddr t x y)(ht:P.underlying t=some (.slice e))(he:(P.info? e).map (·.size)=some sz)(hx:aP E x=some (.v (.slice (some ⟨g,off,none⟩) n c)))(hy:aP E y=some (.v (.int K (i:Int))))(hi:i<n) :
  ∀(G:aK) (a:Act) (w:yp),Fr N (bG G E) a->(execOp a.eval o).run P w = .ok (.value ((aq.v (.pointer (some ⟨g,off+sz*i,none⟩))).den G)) w:=λG a w ha=>by
 have e1:=ha.eval (bH hx);have e2:=ha.eval (bH hy)
 unfold execOp
 simp only [ho,e1,e2,aq.den,aL.den,eK.den,bI,VP ht he _ _ _ _ _ _ hi,bS,bM]
def jV{d:TypeDesc}{ai:cJ}(v:yl)(ho:o.op = .load t x)(hx:aP E x=some (.a j off))(hl:mJ L j=some ai)(ab:(a7 ai)[off]?=some v)(hu:P.underlying t=some d)(hr:d.isRow=false) :
  ∀(G:aK) (S:cn) (a:Act) (w:yp),Fr N (bG G E) a->View G S L R F M w->(execOp a.eval o).run P w = .ok (.value ((aq.v v).den G)) w:=λG S a w ha TY=>by
 obtain⟨z,hz,rfl,rfl⟩:=tR hl;have hb:=(TY.var z hz).1
 have hc:w.cell? ⟨G z.j,off,none⟩=some v:=by rw [hb.cell];exact ab
 have e1:=ha.eval (bH hx)
 unfold execOp
 simp only [ho,e1,aq.den,aL.den,eK.den,Mg hu hr hc,bI,bM,bS]
def tC{ai:cJ}{v:yl}(ps':cJ)(hg:o.guard=none)(hd:o.dst=none)(ho:o.op = .store t x z)(hx:aP E x=some (.a j off))(hz:aP E z=some (.v v))(hl:mJ L j=some ai)(ht:(P.info? t).map (·.size)=some 1)(h1:v.cells = #[v])(h2:v.oneCell'=true)(al:off<(a7 ai).size)(hp:ch ps')
 (hs:(a7 ps').toList=(a7 ai).toList.set off v)(hn:a9 P b ops Q N rest ⟨E,rj L j ps',R,F,M⟩):a9 P b ops Q N (o::rest) ⟨E,L,R,F,M⟩:=λa w ⟨G,S,f1,f2,f3⟩=>by
 obtain⟨u,hu,rfl,rfl⟩:=tR hl;have e1:=f1.eval (bH hx);have e2:=f1.eval (bH hz);have aa:=D0 (P:=P) (t:=t) (v:=v) (off:=off) (f3.at u hu) (by rw [ht,h1];rfl) (by rw [h1];exact al) (by rw [h1];intro u hu;simp at hu;subst hu;exact h2)
 have e3:((a7 u.ai).toList.take off++v.cells.toList++(a7 u.ai).toList.drop (off+v.cells.size)).toArray=a7 ps':=by apply Mz;rw [hs,qQ,if_pos (by simpa using al),h1];simp
 rw [e3] at aa
 refine CI (w':=w.setRow (G u.j) (a7 ps')) (lr hg) (by unfold execOp;simp only [ho,e1,e2,aq.den,aL.den,eK.den,aa,bI,bM,bS]) ?_
 rw [hd];exact hn _ _ ⟨G,S,f1,f2,f3.set (Ic hl) hp⟩
end
section
variable{α:Type}{fe:α->aL}{l:List α}{P:ym}{T:eG}{b:bO}{ops:aZ}{Q:bK}{N:Nat}{E:aG}{L:aH}{R:bF}{F M:aE}{o:yk}{rest:aN}{k:Nat}{t e:yn}{x y z:yo}{A:aO}{lo c sz bs g m:Nat}
def bL.cell{w:yp}{S:cn}(h:(bL lo e sz fe (some ⟨g,0,none⟩) c l).holds w S){v:yl}(ab:(de fe l)[m]?=some v):w.cell? ⟨g,m,none⟩=some v:=by
 obtain⟨h1,h2,_⟩:=h;rcases h2.2 with⟨h4,_⟩|⟨g',cap,cur,hv',_,hg,_,_,_,ht⟩
 .injection h4 with h6;cases h6
 .injection hv' with h6
  injection h6 with h6;injection h6 with h6;subst h6;have aF:bB w g e cur:=hg;rw [aF.cell];rw [<-ht,uq] at ab;split at ab
  .simpa using ab
  .cases ab
def azQ{d:TypeDesc}(i:Nat)(v:yl)(hi:R[i]?=some (bL lo e sz fe (some ⟨g,0,none⟩) c l))(ho:o.op = .load t x)(hx:aP E x=some (.v (.pointer (some ⟨g,m,none⟩))))(ab:(de fe l)[m]?=some v)(hu:P.underlying t=some d)(hr:d.isRow=false) :
  ∀(G:aK) (S:cn) (a:Act) (w:yp),Fr N (bG G E) a->View G S L R F M w->(execOp a.eval o).run P w = .ok (.value ((aq.v v).den G)) w:=λG S a w ha TY=>by
 obtain⟨S1,_,h1,_⟩:=TY.res.at hi;have e1:=ha.eval (bH hx)
 unfold execOp
 simp only [ho,e1,aq.den,aL.den,eK.den,Mg hu hr (bL.cell h1 ab),bI,bM,bS]
def atE{v:yl}(i:Nat)(l':List α)(hi:R[i]?=some (bL lo e sz fe (some ⟨g,0,none⟩) c l))(hg:o.guard=none)(hd:o.dst=none)(ho:o.op = .store t x z)(hx:aP E x=some (.v (.pointer (some ⟨g,m,none⟩))))(hz:aP E z=some (.v v))(ht:(P.info? t).map (·.size)=some 1)(h1:v.cells = #[v])(h2:v.oneCell'=true)
 (hm:m<(de fe l).length)(hl:l'.length=l.length)(bx:jL sz fe l')(hf:de fe l'=(de fe l).set m v)
 (hc:a9 P b ops Q N rest ⟨E,L,R.set i (bL lo e sz fe (some ⟨g,0,none⟩) c l'),F,M⟩):a9 P b ops Q N (o::rest) ⟨E,L,R,F,M⟩:=λa w ⟨G,S,f1,f2,f3⟩=>by
 obtain⟨S1,⟨KC,EY,mB⟩,ix⟩:=f3.put hi
 rcases EY.2 with⟨h6,h7⟩|⟨g',cap,cur,ab,hb,hg',Ho,Kz,dN,hS⟩
 .injection h6 with h6;cases h6
 injection ab with v1 _ v2
 injection v1 with v1
 injection v1 with v1
 subst v1;have aF:bB w g e cur:=hg';have e1:=f1.eval (bH hx);have e2:=f1.eval (bH hz)
 have Od:m<cur.size:=by rw [<-hS,du] at hm;have:cur.toList.length=cur.size:=kD;omega
 have aa:=D0 (P:=P) (t:=t) (v:=v) (off:=m) aF (by rw [ht,h1];rfl) (by rw [h1];exact Od) (by rw [h1];intro u hu;simp at hu;subst hu;exact h2)
 have e3:(cur.toList.take m++v.cells.toList++cur.toList.drop (m+v.cells.size))=cur.toList.set m v:=by rw [qQ,if_pos (by simpa using Od),h1];simp
 rw [e3] at aa;have hB':=aF.row (cur.toList.set m v).toArray
 obtain⟨S'',h12⟩:=ix (bL lo e sz fe (some ⟨g,0,none⟩) c l') (w.setRow g (cur.toList.set m v).toArray) S1 ((dO.row w g _).mono λk _ hk=>(mB k).2 (by rw [hk];rfl))
  ⟨bx,⟨by rw [wG bx,hl],.inr ⟨g,cap,_,by rw [hl,v2],hb,hB',by rw [hl];exact Ho,Kz,by simpa using dN,by rw [hl,hf,<-hS];show List.take _ (cur.toList.set m v)=_;rw [List.take_set]⟩⟩,mB⟩ (λk hk _=>hk)
 refine CI (w':=w.setRow g (cur.toList.set m v).toArray) (lr hg) (by unfold execOp;simp only [ho,e1,e2,aq.den,aL.den,eK.den,aa,bI,bM,bS]) ?_
 rw [hd];exact hc _ _ ⟨G,S'',f1,f2,h12⟩
def OV(lo:Nat)(fe:α->aL)(hq:di o k N)(ho:o.op = .buildSlice t 0 #[])(nj:lo<=b.B.heap.size)
 (hr:∀w:yp,(Instr.buildSlice t 0 #[]).run P w = .ok (cj w.heap.size 0 0) (w.alloc (.cells #[] e)))
 (hc:∀A,a9 P b ops Q N rest ⟨(k,.v (.slice A 0 0))::E,L,bL lo e sz fe A 0 []::R,F,M⟩):a9 P b ops Q N (o::rest) ⟨E,L,R,F,M⟩:=λa w ⟨G,S,h1,h2,h3⟩=>by
 refine nA (v:=.slice (some ⟨w.heap.size,0,none⟩) 0 0) (w':=w.alloc (.cells #[] e)) (lr (eB hq)) (by unfold execOp;simp only [ho,yK,xV,bI,hr,bS,bM]) ?_
 rw [(eC hq)];obtain⟨S',h4⟩:=h3.xI ((Below.refl w.heap.size w).alloc (aQ _) (.cells #[] e)) (bL.new (lo:=lo) (e:=e) (k:=sz) (fe:=fe) (l:=[]) w (fo nj h3.chg.size) (λ_ h=>(by cases h)) (bl _)) (λj hj=>vF hj.symm);exact hc _ _ _ ⟨G,S',h1.put (dQ hq) _,h2.cons trivial,h4⟩
def mc{A2:aO}{n c2:Nat}(hT:fh P T)(i:Nat)(m:List α)(hq:di o k N)(ho:o.op = .call { callee:=.builtin .append,args:=#[x,y],argTypes:=#[t,t] })(hs:uU T t=some (e,sz,bs))(hx:aP E x=some (.v (.slice A n c)))(hy:aP E y=some (.v (.slice A2 m.length c2)))
 (hi:R[i]?=some (bL lo e sz fe A c l))(hn:n=l.length)(gA:∀G S w,View G S L R F M w->ar sz fe A2 c2 m w)(hb:(l.length+m.length)*bs<=140737488355328)(hm:l.length+m.length<=9223372036854775807-64)(nj:lo<=b.B.heap.size)
 (hc:∀A' c',a9 P b ops Q N rest ⟨(k,.v (.slice A' (l++m).length c'))::E,L,R.set i (bL lo e sz fe A' c' (l++m)),F,M⟩)(h0:0<sz:=by decide):a9 P b ops Q N (o::rest) ⟨E,L,R,F,M⟩:=λa w ⟨G,S,f1,f2,f3⟩=>by
 have hR:=gA G S w f3.view;obtain⟨S1,h5,ix⟩:=f3.put hi;have e1:=f1.eval (bH hx);have e2:=f1.eval (bH hy);subst hn
 have key:∃A' c' w' S',(rD #[t,t] o.type #[.slice A l.length c,.slice A2 m.length c2]).run P w = .ok (.slice A' (l++m).length c') w'/\dO S1 w w'/\(bL lo e sz fe A' c' (l++m)).holds w' S'/\∀k,S' k->k<w.heap.size->S1 k:=by
  cases vn:A2 with
  | none =>
   have n6:=hR.2.2.1 vn;have qT:m=[]:=lB (by have:=hR.1;omega);subst qT;subst n6;obtain⟨ht,ie,ua,EN,hz,gT,vq,tA,_⟩:=Bi hT hs;have hr:=run_append_owned_none (P:=P) w lo t o.type e ie sz ht EN _ l.length (de fe l) h5.2.1;refine⟨A,c,w,S1,by rw [fj];exact hr,dO.refl _ _,by rw [fj];exact h5,λ_ h _=>h⟩
  | some ad =>
   refine bL.grow hT (d:=c2) (ad:=ad) o.type hs h0 h5 hR.2.2.2.1 (λj v hj=>?_) hb hm (fo nj f3.chg.size);have hlen:=wG hR.2.2.2.1;have uB:=(eY.1 hj).1
   have qT:0<m.length:=by
    rcases Nat.eq_zero_or_pos m.length with h|h
    .rw [hlen,h,Nat.zero_mul] at uB;omega
    .exact h
   obtain⟨bb,oo,e,_,p9⟩:=hR.2.2.2.2 qT;rw [vn] at e
   injection e with e
   subst e
   have hq:j/sz<m.length:=by rw [hlen] at uB;exact Nat.div_lt_of_lt_mul (by rwa [oV] at uB)
   obtain⟨B,Z,h9,h10,_⟩:=C5 hR.2.2.2.1 (da hq);have Hl:=Nat.div_add_mod j sz;have al:=ke j h0;have fM:=(hR.2.2.2.1 _ (AD hq)).2
   have ab:(fe m[j/sz]).cp[j%sz]?=some v:=by
    rw [h9,rz (by omega),h10,uk (by omega)] at hj
    rwa [show j-sz*(j/sz)=j%sz by omega] at hj
   have:=p9 (j/sz) _ (da hq) (j%sz) v ab;rw [lf]
   rwa [Nat.add_assoc,Hl] at this
 obtain⟨A',c',w',S',hr,fX,ho',hS'⟩:=key;obtain⟨S'',h6⟩:=ix _ _ _ fX ho' hS'
 refine nA (v:=.slice A' (l++m).length c') (w':=w') (lr (eB hq)) (by unfold execOp;simp only [ho,resolve,invoke,builtin,bI,bM,bS,yK,eZ,xV,e1,e2,aq.den,aL.den,eK.den,hr]) ?_
 rw [(eC hq)];exact hc A' c' _ _ ⟨G,S'',f1.put (dQ hq) _,f2.cons trivial,h6⟩
end
section
variable{α:Type}{P:ym}{T:eG}{b:bO}{ops:aZ}{Q:bK}{N:Nat}{E:aG}{L:aH}{R:bF}{F M:aE}{T':aN}{G:aK}{S:cn}{w0:yp}{rest:List (Nat×yk)}{o:yk}{i k sz bs:Nat}{t e:yn}{z:yo}
def xH(aa:bj b G S L R F M w0)(v:aq)(hq:di o k N)(h:∀(G:aK) (S:cn) (a:Act) (w:yp),Fr N (bG G E) a->View G S L R F M w->(execOp a.eval o).run P w = .ok (.value (v.den G)) w)
 (hn:kc P b ops Q N T' G w0 rest ((k,v)::E))(ab:v.aI:=by exact trivial):kc P b ops Q N T' G w0 ((i,o)::rest) E:=λhE =>
 yO rfl (λa ha=>BD (by simp [aU,(eB hq)]) (λw hw=>h G S a w ha (aa.later hw.1).view) (by rw [(eC hq)];exact yN (o:=o) (hn (hE.cons ab)) _ (ha.put (dQ hq) _)))
end
def aoG{n:Nat}{l:aX}{i j:Nat}{s:ae}(h:jL n (aw n) l)(hi:l[i]?=some s)(hj:j<s.length)(v:UInt8) :
  (de (aw n) l)[n*i+j]?=some (.int .u8 (s[j].toNat:Int))/\de (aw n) (l.set i (s.set j v))=(de (aw n) l).set (n*i+j) (.int .u8 (v.toNat:Int)):=by
 obtain⟨B,Z,h9,h10,h11⟩:=C5 h hi;have fM:∀s:ae,(aw n s).cp=By s:=λs=>rfl;rw [h11,h9,fM,fM];have xK:(By s).length=s.length:=dH s
 constructor
 .rw [rz (by omega),h10,xD,uk (by omega)]
  have:=By_at? hj
  rwa [getElem!_pos s j hj] at this
 .rw [List.set_append_right _ _ (by omega),h10,xD,List.set_append_left _ _ (by omega)];congr 2;exact List.map_set
def aG0(f:Int)(m:Nat)(h0:0<m)(hm:m<=4294967296):∃k:Nat,k<m/\k=(IntKind.u64.wrap f).toNat%m/\IntKind.i64.wrap ((IntKind.u64.wrap f).tmod (m:Int))=(k:Int):=by
 have h1:0<=IntKind.u64.wrap f:=by show 0<=f%18446744073709551616;omega
 refine⟨(IntKind.u64.wrap f).toNat%m,ke _ h0,rfl,?_⟩;have h2:(IntKind.u64.wrap f).tmod (m:Int)=(((IntKind.u64.wrap f).toNat%m:Nat):Int):=by rw [Int.tmod_eq_emod_of_nonneg h1,Int.natCast_emod,Int.toNat_of_nonneg h1]
 have h3:=ke (IntKind.u64.wrap f).toNat h0;exact jv h2 (by omega) (by omega)
def zN{m r:Int}(h:m=r)(h1:0<=r)(h2:r<18446744073709551616):IntKind.u64.wrap m=r:=by subst h;show m%18446744073709551616=m;omega
def RY{z:Int}(h:0<=z/\z<256):∃y:UInt8,z=(y.toNat:Int):=⟨bX z.toNat,by rw [Aj];omega⟩
section
variable{α:Type}{fe:α->aL}{l:List α}{P:ym}{b:bO}{ops:aZ}{Q:bK}{N:Nat}{E:aG}{L:aH}{R:bF}{F M:aE}{e:yn}{A:aO}{lo c sz:Nat}
def aIQ{o:yk}{rest:aN}{j t k:Nat}{q:Bool}(kN:o.guard=some (j,q))(hj:(ops[j]?).bind (·.dst)=some t)(hN:aW t N=true)(ht:dG E t=some (.v undef))(hd:o.dst=some k)(hk:aW k N=true)
 (hn:a9 P b ops Q N rest ⟨(k,.v undef)::E,L,R,F,M⟩):a9 P b ops Q N (o::rest) ⟨E,L,R,F,M⟩:=λa w ⟨G,S,h1,h2,h3⟩=>by
 have hw:aU o (yielded ops a.tmps)=false:=by
  have h4:=h1.get t undef (by rw [ou,ht];rfl);have E7:t<a.tmps.size:=by rw [h1.size];simpa using hN
  simp only [Act.eval,wv] at h4;have h5:a.tmps[t]?=some undef:=by rw [xt E7] at h4 ⊢;simpa using h4
  unfold aU;rw [kN];simp [yielded,hj,h5,undef]
 unfold wpList
 rw [hw,if_neg (by decide),hd];exact hn _ w ⟨G,S,h1.put hk undef,h2.cons trivial,h3⟩
def QE{y:Code}(i:Nat)(hi:R[i]?=some (bL lo e sz fe A c l))(h0:0<l.length)(h:∀g,A=some ⟨g,0,none⟩->cN P b y Q N ⟨E,L,R,F,M⟩):cN P b y Q N ⟨E,L,R,F,M⟩:=λa w ⟨G,S,h1,h2,h3⟩=>by
 obtain⟨S1,⟨_,EY,_⟩,_⟩:=h3.put hi;rcases EY.2 with⟨_,h7⟩|⟨g,cap,cur,ab,_⟩
 .omega
 injection ab with v1 _ _;exact h g v1 a w ⟨G,S,h1,h2,h3⟩
def ag1{y:Code}(i:Nat)(hi:R[i]?=some (bL lo e sz fe A c l))(h:jL sz fe l->l.length<=c->(A=none->c=0)->cN P b y Q N ⟨E,L,R,F,M⟩):cN P b y Q N ⟨E,L,R,F,M⟩:=λa w ⟨G,S,h1,h2,h3⟩=>by obtain⟨S1,h5,_⟩:=h3.put hi;have hr:=bL.rd h5;exact h hr.2.2.2.1 hr.1 hr.2.2.1 a w ⟨G,S,h1,h2,h3⟩
end
section
variable{P:ym}{T:eG}{b:bO}{ops:aZ}{Q:bK}{N:Nat}{E E':aG}{L:aH}{R:bF}{F M:aE}{o:yk}{rest:aN}{k:Nat}{t ty:yn}{x z:yo}{off g:Nat}{ai ps':cJ}{q:aL}
def FD(hT:fh P T)(i:Nat)(hi:R[i]?=some (rq g ty ai))(hg:o.guard=none)(hd:o.dst=none)(ho:o.op = .store t x z)(hx:aP E x=some (.v (.pointer (some ⟨g,off,none⟩))))(hz:aP E z=some (.q q))(hs:QO T ai t off q=some ps')
 (hn:a9 P b ops Q N rest ⟨E,L,R.set i (rq g ty ps'),F,M⟩):a9 P b ops Q N (o::rest) ⟨E,L,R,F,M⟩:=λa w ⟨G,S,f1,f2,f3⟩=>by
 obtain⟨S1,⟨⟨hb,bx⟩,mB⟩,ix⟩:=f3.put hi;have e1:a.eval x = .pointer (some ⟨g,off,none⟩):=f1.eval (bH hx);have e2:a.eval z=q.den:=f1.eval (bH hz);obtain⟨h3,h4⟩:=agU hT bx (f2.dy hz) hs;obtain⟨S'',h6⟩:=ix (rq g ty ps') (w.setRow g (a7 ps')) S1 ((dO.row w g _).mono λk _ hk=>(mB k).2 hk) ⟨⟨hb.row _,h3⟩,mB⟩ (λk hk _=>hk)
 refine CI (w':=w.setRow g (a7 ps')) (lr hg) (by unfold execOp;simp only [ho,e1,e2,h4 hb,bI,bM,bS]) ?_
 rw [hd];exact hn _ _ ⟨G,S'',f1,f2,h6⟩
def bj.aoT{G:aK}{S:cn}{y:mn}{w:yp}(h:bj b G S (y::L) R F M w):bj b G (λk=>k=G y.j\/S k) L (rq (G y.j) y.t y.ai::R) F M w:=by
 have hM:∀k,gP (λk=>k=G y.j\/S k) G L k->gP S G (y::L) k:=λk hk=>by
  rcases hk with(rfl|hk)|⟨j,hj,rfl⟩
  .exact .inr ⟨y.j,eh,rfl⟩
  .exact .inl hk
  .exact .inr ⟨j,dS _ hj,rfl⟩
 have hy:=h.var y eh;have iC:=List.pairwise_cons.1 (show(y.j::gM L).Pairwise λi j=>G i≠G j from h.apart);refine⟨λx hx=>h.var x (dS _ hx),iC.2,⟨λk=>k=G y.j,S,⟨⟨hy.1,hy.2.1⟩,λ_=>Iff.rfl⟩,h.res,λ_=>Iff.rfl,λk hk hs=>h.sep y.j eh (by rw [<-hk];exact hs)⟩,λj hj hs=>?_,h.fact.less λk _ hk=>hk.imp id (hM k),h.fresh.less λk _ hk=>hk.imp id (hM k),h.chg,λk hk=>h.mine k (hM k hk),h.eS⟩;rcases hs with hs|hs
 .exact iC.1 j hj hs.symm
 .exact h.sep j (dS _ hj) hs
def rL{K:fg}{y:mn}(i:Nat)(hx:dG E i=some (.a y.j 0))(hs:wh E' E)(h:∀g,cl b K N ⟨(i,.v (eE g))::E',L,rq g y.t y.ai::R,F,M⟩):cl b K N ⟨E,y::L,R,F,M⟩:=λa w ⟨G,S,h1,h2,h3⟩=>by refine h (G y.j) a w ⟨G,_,?_,(hs.ok h2).cons trivial,h3.aoT⟩;exact(h1.sub (JF hs)).more (h1.get i _ (by rw [ou,hx];rfl))
end
def pT(A:aO)(c n:Nat):aO:=if c=n then A else A.map (·.add n)
def ar.part{A:aO}{c n:Nat}{l:ae}{w:yp}(h:ar 1 aY A c l w)(hn:n<=l.length):ar 1 aY (pT A c n) (c-n) (l.drop n) w:=by have h1:=h.yr.part (n:=l.length-n) hn;rw [kE (by rw [k7];exact aQ _)] at h1;exact ar.avC h1
section
variable{N:Nat}{E:aG}{o:yk}{x y:yo}{t:yn}
theorem Mf{A:aO}{n c j:Nat}(hj:j<=n)(hc:n<=c)(hA:A=none->c=0)(ho:o.op = .slice 39 x (some y) none none)(hx:aP E x=some (.v (.slice A n c)))(hy:aP E y=some (.v (.int .i64 (j:Int)))) :
  ∀(G:aK) (a:Act) (w:yp),Fr N (bG G E) a->(execOp a.eval o).run prog w = .ok (.value ((aq.v (.slice (pT A c j) (n-j) (c-j))).den G)) w:=λG a w ha=>by
 have h1:a.eval x = .slice A n c:=ha.eval (bH hx);have h2:a.eval y = .int .i64 (j:Int):=ha.eval (bH hy)
 have h3:(j:Int)<=(n:Int):=by omega
 have h4:(0:Int)<=(j:Int):=by omega
 have h5:(n:Int)<=(c:Int):=by omega
 unfold execOp
 simp only [ho];generalize a.eval=ρ at *;simp only [Option.map,h1,h2]
 show _=pE (oO (.slice (pT A c j) (n-j) (c-j))) w
 cases A with
 | none =>
  obtain rfl:c=0:=hA rfl
  obtain rfl:n=0:=by omega
  obtain rfl:j=0:=by omega
  go_simp
  rfl
 | some ad =>
  unfold pT
  by_cases e:c=j
  .rw [if_pos e];go_simp
  .rw [if_neg e];go_simp
end
section
variable{α:Type}{fe:α->aL}{l:List α}{P:ym}{T:eG}{b:bO}{ops:aZ}{Q:bK}{N:Nat}{E:aG}{L:aH}{R:bF}{F M:aE}{o:yk}{rest:aN}{k:Nat}{t e:yn}{x z:yo}{lo c sz g:Nat}
def OZ{q:aL}(i j off n:Nat)(u u':α)(hi:R[i]?=some (bL lo e sz fe (some ⟨g,0,none⟩) c l))(hg:o.guard=none)(hd:o.dst=none)(ho:o.op = .store t x z)(hx:aP E x=some (.v (.pointer (some ⟨g,sz*j+off,none⟩))))(hz:aP E z=some (.q q))(hj:l[j]?=some u)(ht:(P.info? t).map (·.size)=some n)(hn:q.cp.length=n)(aqW:∀v∈q.cp,v.oneCell'=true)
 (fM:(fe u').cp=(fe u).cp.take off++q.cp++(fe u).cp.drop (off+n))(Hc:off+n<=sz)(hok':ch (fe u').fA/\(fe u').cp.length=sz)
 (hc:a9 P b ops Q N rest ⟨E,L,R.set i (bL lo e sz fe (some ⟨g,0,none⟩) c (l.set j u')),F,M⟩):a9 P b ops Q N (o::rest) ⟨E,L,R,F,M⟩:=λa w ⟨G,S,f1,f2,f3⟩=>by
 obtain⟨S1,⟨KC,EY,mB⟩,ix⟩:=f3.put hi
 rcases EY.2 with⟨h6,h7⟩|⟨g',cap,cur,ab,hb,hg',Ho,Kz,dN,hS⟩
 .injection h6 with h6;cases h6
 injection ab with v1 _ v2
 injection v1 with v1
 injection v1 with v1
 subst v1;have aF:bB w g e cur:=hg';have e1:a.eval x = .pointer (some ⟨g,sz*j+off,none⟩):=f1.eval (bH hx);have e2:a.eval z=q.den:=f1.eval (bH hz);obtain⟨B,Z,s1,s2,s3⟩:=C5 KC hj;have TU:=(KC u (eg hj)).2
 have yV:(de fe l).length=B.length+(sz+Z.length):=by rw [s1,aV,aV,TU]
 have Od:sz*j+off+n<=cur.size:=by
  have h1:(de fe l).length<=cur.size:=by rw [<-hS,du,<-kD];exact Nat.min_le_right _ _
  omega
 have KF:q.den.cells.size=n:=by rw [<-hn];exact(kD).symm
 have aa:=D0 (P:=P) (t:=t) (v:=q.den) (off:=sz*j+off) aF (by rw [ht,KF]) (by rw [KF];exact Od) aqW;rw [KF] at aa;have hB':=aF.row (cur.toList.take (sz*j+off)++q.den.cells.toList++cur.toList.drop (sz*j+off+n)).toArray
 have Dh:jL sz fe (l.set j u'):=λy hy=>by
  rcases tH hy with h|rfl
  .exact KC y h
  .exact hok'
 have Ap:(l.set j u').length=l.length:=jO
 have xR:de fe (l.set j u')=(de fe l).take (sz*j+off)++q.cp++(de fe l).drop (sz*j+off+n):=by
  rw [s3,s1,fM,<-s2];have t1:(B++((fe u).cp++Z)).take (B.length+off)=B++(fe u).cp.take off:=by rw [List.take_append,kE (by omega),xD,List.take_append_of_le_length (by omega)]
  have t2:(B++((fe u).cp++Z)).drop (B.length+off+n)=(fe u).cp.drop (off+n)++Z:=by rw [List.drop_append,List.drop_of_length_le (by omega),lD,show B.length+off+n-B.length=off+n by omega,List.drop_append_of_le_length (by omega)]
  rw [t1,t2];simp only [ei]
 obtain⟨S'',h12⟩:=ix (bL lo e sz fe (some ⟨g,0,none⟩) c (l.set j u')) (w.setRow g (cur.toList.take (sz*j+off)++q.den.cells.toList++cur.toList.drop (sz*j+off+n)).toArray) S1 ((dO.row w g _).mono λk _ hk=>(mB k).2 (by rw [hk];rfl))
  ⟨Dh,⟨by rw [wG Dh],.inr ⟨g,cap,_,by rw [Ap,v2],hb,hB',by rw [Ap];exact Ho,Kz,by
   have h1:cur.toList.length=cur.size:=kD;have h2:q.den.cells.toList.length=n:=by rw [kD,KF]
   rw [fx,aV,aV,du,k7,h2,h1,<-dN];omega,by
   have h1:cur.toList.length=cur.size:=kD;have h2:q.den.cells.toList.length=n:=by rw [kD,KF]
   have h3:l.length*sz=(de fe l).length:=(wG KC).symm;rw [Ap,xR,h3];rw [h3] at hS;show List.take _ (cur.toList.take (sz*j+off)++q.den.cells.toList++cur.toList.drop (sz*j+off+n))=_;rw [List.take_append,kE (by rw [aV,du,h2];omega),aV,du,h2,pq (by omega)]
   conv=>rhs;rw [<-hS]
   rw [List.take_take,pq (by omega),List.drop_take];rfl⟩⟩,mB⟩ (λk hk _=>hk)
 refine CI (w':=w.setRow g (cur.toList.take (sz*j+off)++q.den.cells.toList++cur.toList.drop (sz*j+off+n)).toArray) (lr hg) (by unfold execOp;simp only [ho,e1,e2,aa,bI,bM,bS]) ?_
 rw [hd];exact hc _ _ ⟨G,S'',f1,f2,h12⟩
end
section
variable{P:ym}{ops:aZ}{Q:bK}{Inv:aE}
def D7(P:ym)(ops:aZ)(Q:bK)(Inv:aE)(n m:Nat):Nat->et->fg
  | 0,listed,a,w=>(∀j∈bC .any ops listed,∀i,i<n->ow .any ops ops.size j i=true)/\wpAny P .any ops Q m listed a w
  | fuel+1,listed,a,w=>bC .any ops listed≠[]/\∀i∈bC .any ops listed,wpOp P ops Q i (λa' w'=>Inv w'/\D7 P ops Q Inv n m fuel (listed.setIfInBounds i true) a' w') a w
theorem aiQ{n m:Nat}:∀(fuel:Nat) (listed:et) (a:Act) (w:yp),D7 P ops Q Inv n m fuel listed a w->wpAny P .any ops Q (m+fuel) listed a w
 | 0,_,_,_,h=>h.2
 | fuel+1,_,_,_,h=>⟨λh0=>absurd h0 h.1,λi hi=>wpOp_mono (λa' w' h'=>aiQ fuel _ a' w' h'.2) (h.2 i hi)⟩
def QN{i:Nat}{oi:yk}{v:yl}{K:fg}{a:Act}{w:yp}(hi:ops[i]?=some oi)(aa:pM oi.op=true)(hy:ru P ops Inv oi (· = v) a)(hC:Inv w)(h:K (a.put oi.dst v) w):wpOp P ops Q i K a w:=by
 unfold Go.wpOp;simp only [hi];rcases hy with⟨hw,ab⟩|⟨hw,ab⟩
 .simp only [hw,if_true]
  refine .inl ?_;have h3:=ab w hC;unfold nN at h3;unfold fW;cases hr:(execOp a.eval oi).run P w with
  | ok n w' =>
   rw [hr] at h3
   rcases V7 aa hr with⟨u,rfl⟩|rfl
   .simp only [tX] at h3;obtain⟨e1,e2⟩:=h3;subst e1 e2;exact h
   .simp only [tX] at h3;obtain⟨e1,e2⟩:=h3;subst e1 e2;exact h
  | halt x w' =>
   rw [hr] at h3;simp only [tX] at h3
 .simp only [hw,Bool.false_eq_true,if_false];rw [ab];exact h
theorem Xl{n m i:Nat}{oi:yk}{v:yl}(iR:i<n)(hi:ops[i]?=some oi)(aa:pM oi.op=true)(mF:∀(j:Nat) (o:yk) cs b,ops[j]?=some o->o.op ≠ .select cs b)(hQ:∀c a d v w,Q (.panic c) (a.put d v) w->Q (.panic c) a w) :
  ∀(fuel:Nat) (listed:et) (a:Act) (w:yp),Inv w->nI .any ops listed ->
   (∀j oj,ops[j]?=some oj->j≠i->listed.getD j true=false->(∀e∈oj.after,dE .any e=true->e.on≠i)->oi.apart ops oj=true) ->
   i∈bC .any ops listed->ru P ops Inv oi (· = v) a->D7 P ops Q Inv n m fuel (listed.setIfInBounds i true) (a.put oi.dst v) w->D7 P ops Q Inv n m (fuel+1) listed a w:=by
 intro fuel
 induction fuel with
 | zero =>
  intro listed a w hC dN _ hr hy H
  refine⟨λh=>(by rw [h] at hr;cases hr),λj hj=>?_⟩
  by_cases jg:j=i
  .subst jg;exact QN hi aa hy hC ⟨hC,H⟩
  .have h1:=H.1 j (ready_mono hj jg) i iR;obtain⟨_,oj,qU,iP⟩:=mem_ready.1 hj;have h6:=dN.waits _ j i oj qU iP h1;rw [Da hr] at h6;cases h6
 | succ fuel ih =>
  intro listed a w hC dN De hr hy H
  refine⟨λh=>(by rw [h] at hr;cases hr),λj hj=>?_⟩
  by_cases jg:j=i
  .subst jg;exact QN hi aa hy hC ⟨hC,H⟩
  .obtain⟨BV,oj,qU,iP⟩:=mem_ready.1 hj
   have uC:∀e∈oj.after,dE .any e=true->e.on≠i:=λe he hb heq=>by have h1:=iP e he hb;rw [heq,Da hr] at h1;cases h1
   have h2:=WT (V:=(· = v)) qU (De j oj qU jg BV uC) (λcs b=>mF i oi cs b hi) (λcs b=>mF j oj cs b qU) ⟨v,rfl⟩ (.inr ⟨v,λ_ h=>h⟩) hQ hy (λu hu=>by subst hu;exact H.2 j (ready_mono hj jg));have hun':∀k,(listed.setIfInBounds j true).getD k true=false->listed.getD k true=false:=λk og=>by
    by_cases iT:j=k
    .subst iT;exact BV
    .rw [getD_set_ne true iT] at og;exact og
   refine wpOp_mono (λa' w' h3=>?_) h2;obtain⟨hy',h4⟩:=h3;obtain⟨hC',h5⟩:=h4 v rfl;refine⟨hC',ih (listed.setIfInBounds j true) a' w' hC' (dN.set hj) (λk ok hk ER og o7=>De k ok hk ER (hun' k og) o7) (ready_mono hr (Ne.symm jg)) hy' ?_⟩;rw [Array.setIfInBounds_comm _ _ jg];exact h5
theorem aDZ{o:yk}{a:Act}{K next:fg}(r:Result Next)(h:o.upon P a next (Exit.then K Q) r):o.upon P a next Q r:=by
 cases r with
 | ok n w'=>cases n<;>exact h
 | halt x w'=>cases x<;>exact h
def Rj{i:Nat}{o:yk}{K:fg}{a:Act}{w:yp}(hi:ops[i]?=some o)(h:wpList P ops (Exit.then K Q) [o] a w):wpOp P ops Q i K a w:=by
 unfold Go.wpOp;simp only [hi];unfold wpList at h;split
 .rename_i hw;rw [if_pos hw] at h;refine h.imp (λh=>?_) id;exact Oper.wp_mono (λa' w' h'=>h') (aDZ _ h)
 .rename_i hw;rw [if_neg hw] at h;exact h
end
def iV(L:aH)(w:yp):Prop:=∀x∈L,∃g,x.g=some g/\bB w g x.t (a7 x.ai)
def xq(P:ym)(b:bO)(Q:bK)(N:Nat)(ops:aZ)(Inv:aE)(n m fuel:Nat)(listed:et)(e:Env):Prop:=nI .any ops listed->∀a w,iz b N e a w->Inv w->D7 P ops (NoPanic Q) Inv n m fuel listed a w
def NF(ops:aZ)(n i:Nat)(listed:et):Bool:=decide (i<n)&&(bC .any ops listed).contains i&&Region.free .any ops listed i&&iK ops
section
variable{P:ym}{T:eG}{b:bO}{ops:aZ}{Q:bK}{N n m fuel:Nat}{listed:et}{E:aG}{L L0:aH}{R:bF}{F M:aE}{Inv:aE}{e:Env}
def adD:∀c (a:Act) d v w,NoPanic Q (.panic c) (a.put d v) w->NoPanic Q (.panic c) a w:=λ_ _ _ _ _ h=>h
def vd{o:yk}{k:Nat}{v:aq}(hT:fh P T)(i:Nat)(ho:ops[i]?=some o)(hq:di o k N)(hs:pM o.op=true)(ab:nz T E L0 o.op=some v)(c7:∀x∈L0,x∈L)
 (hn:xq P b Q N ops (iV L0) n m fuel (listed.setIfInBounds i true) ⟨(k,v)::E,L,R,F,M⟩)(hc:NF ops n i listed=true:=by kernel_rfl):xq P b Q N ops (iV L0) n m (fuel+1) listed ⟨E,L,R,F,M⟩:=λdN a w aa hI=>by
 obtain⟨G,S,h1,h2,h3⟩:=aa;simp only [NF,dJ,decide_eq_true_eq] at hc;obtain⟨⟨⟨iR,hr⟩,lk⟩,mF⟩:=hc
 have hr':i∈bC .any ops listed:=by simpa using hr
 obtain⟨h4,h5⟩:=zH hT h2 (λx hx=>(h3.var x (c7 x hx)).2.1) ab;have h6:=hn (dN.set hr') (a.put (some k) (v.den G)) w ⟨G,S,h1.put (dQ hq) _,h2.cons h4,h3⟩ hI;refine Xl iR ho hs (Ac mF) adD fuel listed a w hI dN (Fo ho lk) hr' (v:=v.den G) (.inl ⟨by simp [aU,(eB hq)],λw' hw'=>?_⟩) (by rw [(eC hq)];exact h6)
 unfold nN
 rw [h5 h1 λx hx=>by obtain⟨g,e1,e2⟩:=hw' x hx;rw [(h3.var x (c7 x hx)).2.2 g e1];exact e2]
 exact⟨rfl,rfl⟩
def yD{o:yk}{k:Nat}(v:aq)(i:Nat)(ho:ops[i]?=some o)(hq:di o k N)(hs:pM o.op=true)(ab:∀(G:aK) (a:Act) (w:yp),Fr N (bG G E) a->(execOp a.eval o).run P w = .ok (.value (v.den G)) w)
 (hn:xq P b Q N ops Inv n m fuel (listed.setIfInBounds i true) ⟨(k,v)::E,L,R,F,M⟩)(hc:NF ops n i listed=true:=by kernel_rfl)(wQ:v.aI:=by exact trivial):xq P b Q N ops Inv n m (fuel+1) listed ⟨E,L,R,F,M⟩:=λdN a w aa hI=>by
 obtain⟨G,S,h1,h2,h3⟩:=aa;simp only [NF,dJ,decide_eq_true_eq] at hc;obtain⟨⟨⟨iR,hr⟩,lk⟩,mF⟩:=hc
 have hr':i∈bC .any ops listed:=by simpa using hr
 have h6:=hn (dN.set hr') (a.put (some k) (v.den G)) w ⟨G,S,h1.put (dQ hq) _,h2.cons wQ,h3⟩ hI;refine Xl iR ho hs (Ac mF) adD fuel listed a w hI dN (Fo ho lk) hr' (v:=v.den G) (.inl ⟨by simp [aU,(eB hq)],λw' _=>?_⟩) (by rw [(eC hq)];exact h6)
 unfold nN
 rw [ab G a w' h1];exact⟨rfl,rfl⟩
def Bw{o:yk}(i:Nat)(ho:ops[i]?=some o)(h:∀K:fg,(∀e',(∀a w,iz b N e' a w->Inv w)->xq P b Q N ops Inv n m fuel (listed.setIfInBounds i true) e'->cl b K N e')->a9 P b ops (Exit.then K (NoPanic Q)) N [o] e)(hr:bC .any ops listed=[i]:=by kernel_rfl):xq P b Q N ops Inv n m (fuel+1) listed e:=λdN a w aa _ =>
 ⟨by rw [hr];simp,λj hj=>by rw [hr,bU] at hj;subst hj;have hcs':=dN.set (i:=j) (by rw [hr];simp);exact Rj ho (h (λa' w'=>Inv w'/\D7 P ops (NoPanic Q) Inv n m fuel (listed.setIfInBounds j true) a' w') (λe' hI' ha a' w' hs'=>⟨hI' a' w' hs',ha hcs' a' w' hs' (hI' a' w' hs')⟩) a w aa)⟩
def Xu{o o':yk}(i i':Nat)(ho:ops[i]?=some o)(ho':ops[i']?=some o')
 (h:∀K:fg,(∀e',(∀a w,iz b N e' a w->Inv w)->xq P b Q N ops Inv n m fuel (listed.setIfInBounds i true) e'->cl b K N e')->a9 P b ops (Exit.then K (NoPanic Q)) N [o] e)
 (h':∀K:fg,(∀e',(∀a w,iz b N e' a w->Inv w)->xq P b Q N ops Inv n m fuel (listed.setIfInBounds i' true) e'->cl b K N e')->a9 P b ops (Exit.then K (NoPanic Q)) N [o'] e)(hr:bC .any ops listed=[i,i']:=by kernel_rfl):xq P b Q N ops Inv n m (fuel+1) listed e:=λdN a w aa _ =>
 ⟨by rw [hr];simp,λj hj=>by
  rw [hr] at hj;have key:∀(i:Nat) (o:yk),i∈bC .any ops listed->ops[i]?=some o->(∀K:fg,(∀e',(∀a w,iz b N e' a w->Inv w)->xq P b Q N ops Inv n m fuel (listed.setIfInBounds i true) e'->cl b K N e')->a9 P b ops (Exit.then K (NoPanic Q)) N [o] e)->wpOp P ops (NoPanic Q) i (λa' w'=>Inv w'/\D7 P ops (NoPanic Q) Inv n m fuel (listed.setIfInBounds i true) a' w') a w:=λi o hi ho h =>
   Rj ho (h (λa' w'=>Inv w'/\D7 P ops (NoPanic Q) Inv n m fuel (listed.setIfInBounds i true) a' w') (λe' hI' ha a' w' hs'=>⟨hI' a' w' hs',ha (dN.set hi) a' w' hs' (hI' a' w' hs')⟩) a w aa)
  rcases bT.1 hj with rfl|hj
  .exact key _ o (by rw [hr];simp) ho h
  .rw [bU] at hj;subst hj;exact key _ o' (by rw [hr];simp) ho' h'⟩
def Bx{l:aN}(h:a9 P b l.toArray (NoPanic Q) N (l.drop n) e)(aF:(V3 .any l.toArray n listed&&xF .any l.toArray (l.drop n).length n listed)=true:=by kernel_rfl):xq P b Q N l.toArray Inv n (l.drop n).length 0 listed e:=λ_ a w aa _=>by simp only [dJ] at aF;exact⟨λj hj i hi=>pS.1 (pS.1 aF.1 j hj) i (List.mem_range.2 hi),I3 (l.drop n) n listed a w (λj _=>by simp [List.getElem?_drop]) aF.2 (h a w aa)⟩
def iE{E':aG}{L':aH}{R':bF}{F' M':aE}(c7:∀x∈L0,x∈L'/\x.g.isSome=true):∀a w,iz b N ⟨E',L',R',F',M'⟩ a w->iV L0 w:=λa w ⟨G,S,_,_,h3⟩ x hx=>by obtain⟨h1,h2⟩:=c7 x hx;obtain⟨g,hg⟩:=Option.isSome_iff_exists.1 h2;have h4:=h3.var x h1;refine⟨g,hg,?_⟩;rw [<-h4.2.2 g hg];exact h4.1
def bj.drew{G:aK}{S:cn}{w:yp}(h:bj b G S L R F M w):bj b G S L R F M w.drew:=h.later (cA.drew w)
def F8{l:aN}{id:Nat}(n:Nat)(L0:aH)(h0:∀a w,iz b N e a w->iV L0 w)(h:xq P b Q N l.toArray (iV L0) n (l.drop n).length n (bD l.toArray.size false) e)(hm:P.follows .mixedOrders=true:=by kernel_rfl)(hn:n<=l.length:=by decide):cN P b (.region id l.toArray true) Q N e:=λa w aa=>by
 refine wp_region_noPanic (wp_region_any hm ?_);obtain⟨G,S,h1,h2,h3⟩:=aa;have hd:iz b N e a w.drew:=⟨G,S,h1,h2,h3.drew⟩;have h4:=aiQ n _ a w.drew (h (nI.none _) a w.drew hd (h0 a _ hd));have e1:(l.drop n).length+n=l.toArray.size:=by simp;omega
 rw [e1] at h4;exact h4
def nv{N:Nat}{E:aG}{o:yk}{x:yo}{t e:yn}{j off n sz:Nat}(ho:o.op = .slice t x none none none)(ht:P.underlying t=some (.array n e))(he:(P.info? e).map (·.size)=some sz)(hx:aP E x=some (.a j off)) :
  ∀(G:aK) (a:Act) (w:yp),Fr N (bG G E) a->(execOp a.eval o).run P w = .ok (.value ((aq.s j off n n).den G)) w:=λG a w ha=>by
 have h1:a.eval x = .pointer (some ⟨G j,off,none⟩):=ha.eval (bH hx);have h5:=run_sizeOf he w
 unfold execOp
 simp only [ho];generalize a.eval=ρ at *;simp only [Option.map,h1]
 show _=pE (oO (.slice (some ⟨G j,off,none⟩) n n)) w
 simp [tN,gG,run_underlying ht,Instr.sliceBounds,h5,bI,lf]
theorem adW:∀{L:aH} {j:Nat} {ai:cJ},mJ L j=some ai->rj L j ai=L
 | [],_,_,h=>by cases h
 | x::L,j,ai,h=>by
  unfold mJ at h;unfold rj;split at h
  .injection h with h;subst h;rfl
  .exact congrArg (x :: ·) (adW h)
def H7{o:yk}{rest:aN}{d s:yo}{k j n' c:Nat}{A:aO}{z l:ae}(hq:di o k N)(ho:o.op = .call { callee:=.builtin .copy,args:=#[d,s],argTypes:=#[39,39] })
 (hx:aP E d=some (.s j 0 n' n'))(hy:aP E s=some (.v (.slice A l.length c)))(hl:mJ L j=some [.agg n' (By z).toArray])(hz:z.length=n')(hle:l.length<=n')(gA:∀G S w,View G S L R F M w->ar 1 aY A c l w)
 (hn:a9 prog b ops Q N rest ⟨(k,.v (.int .i64 (l.length:Int)))::E,rj L j [.agg n' (By (l++z.drop l.length)).toArray],R,F,M⟩):a9 prog b ops Q N (o::rest) ⟨E,L,R,F,M⟩:=λa w ⟨G,S,h1,h2,h3⟩=>by
 have hR:=gA G S w h3.view;have e1:a.eval d = .slice (some ⟨G j,0,none⟩) n' n':=h1.eval (bH hx);have e2:a.eval s = .slice A l.length c:=h1.eval (bH hy)
 by_cases h0:l.length=0
 .obtain rfl:=lB h0;rw [adW (by rw [hl];rfl)] at hn;refine wpList_copy_nothing (eB hq) d s 39 39 ho 5 mP xb _ _ _ _ _ _ e1 e2 (Nat.zero_min _) ?_;rw [(eC hq)];exact hn _ w ⟨G,S,h1.put (dQ hq) _,h2.cons trivial,h3⟩
 .obtain⟨bb,oo,rfl,_,p9⟩:=hR.2.2.2.2 (by omega)
  obtain⟨u,hu,rfl,hps⟩:=tR hl;have hb:=h3.at u hu;rw [hps] at hb;have bx:ch [bz.agg n' (By (l++z.drop l.length)).toArray]:=λp hp=>by rw [bU.1 hp];exact⟨by rw [fx,dH,aV,k7];omega,qp _⟩
  refine wpList_copy_own (eB hq) d s 39 39 ho 5 mP xb (G u.j) 0 n' n' ⟨bb,oo,none⟩ l.length c e1 e2 (By z).toArray u.t hb (By l) (by rw [dH];exact(pq hle).symm) ?_ (by rw [dH,fx,dH];omega) (qp l) ?_
  .intro i v ab;obtain⟨x,rK,rfl⟩:=Rr ab;have:=p9 i x rK 0 (.int .u8 (x.toNat:Int)) rfl;rw [lf];simpa using this
  .have e:(By z).toArray.toList.take 0++(By l++(By z).toArray.toList.drop (0+(By l).length))=By (l++z.drop l.length):=by
    simp [By]
   rw [e,(eC hq),dH];exact hn _ _ ⟨G,S,h1.put (dQ hq) _,h2.cons trivial,h3.set (Ic hl) bx⟩
def iH(G:aK):aH->aH
  | []=>[]
  | x::L=>{ x with g:=some (G x.j) }::iH G L
theorem Bm(G:aK):∀L:aH,gM (iH G L)=gM L
 | []=>rfl
 | x::L=>congrArg (x.j :: ·) (Bm G L)
theorem Re{G:aK}:∀{L:aH} {x:mn},x∈iH G L->∃y∈L,x={ y with g:=some (G y.j) }
 | [],_,h=>by cases h
 | y::L,x,h=>by
  rcases bT.1 h with rfl|h
  .exact⟨y,eh,rfl⟩
  .obtain⟨z,hz,e⟩:=Re h;exact⟨z,dS _ hz,e⟩
def rS{c:Code}(h:∀G:aK,cN P b c Q N ⟨E,iH G L,R,F,M⟩):cN P b c Q N ⟨E,L,R,F,M⟩:=λa w ⟨G,S,h1,h2,h3⟩=>by
 have hM:∀k,gP S G (iH G L) k↔gP S G L k:=λk=>by unfold gP;rw [Bm]
 refine h G a w ⟨G,S,h1,h2,⟨λx hx=>?_,by rw [Bm];exact h3.apart,h3.res,by rw [Bm];exact h3.sep,h3.fact.less λk _ hk=>hk.imp id (hM k).1,h3.fresh.less λk _ hk=>hk.imp id (hM k).1,h3.chg,λk hk=>h3.mine k ((hM k).1 hk),h3.eS⟩⟩;obtain⟨y,hy,rfl⟩:=Re hx;exact⟨(h3.var y hy).1,(h3.var y hy).2.1,λg hg=>jm hg⟩
def LC:aH->aH
  | []=>[]
  | x::L=>{ x with g:=none }::LC L
theorem Py:∀L:aH,gM (LC L)=gM L
 | []=>rfl
 | x::L=>congrArg (x.j :: ·) (Py L)
theorem acD:∀{L:aH} {x:mn},x∈LC L->∃y∈L,x={ y with g:=none }
 | [],_,h=>by cases h
 | y::L,x,h=>by
  rcases bT.1 h with rfl|h
  .exact⟨y,eh,rfl⟩
  .obtain⟨z,hz,e⟩:=acD h;exact⟨z,dS _ hz,e⟩
def Co{K:fg}(h:cl b K N ⟨E,LC L,R,F,M⟩):cl b K N ⟨E,L,R,F,M⟩:=λa w ⟨G,S,h1,h2,h3⟩=>by
 have hM:∀k,gP S G (LC L) k↔gP S G L k:=λk=>by unfold gP;rw [Py]
 refine h a w ⟨G,S,h1,h2,⟨λx hx=>?_,by rw [Py];exact h3.apart,h3.res,by rw [Py];exact h3.sep,h3.fact.less λk _ hk=>hk.imp id (hM k).1,h3.fresh.less λk _ hk=>hk.imp id (hM k).1,h3.chg,λk hk=>h3.mine k ((hM k).1 hk),h3.eS⟩⟩;obtain⟨y,hy,rfl⟩:=acD hx;exact⟨(h3.var y hy).1,(h3.var y hy).2.1,λg hg=>by cases hg⟩
theorem mj{G:aK}:∀{L:aH},∀u∈iH G L,u∈iH G L/\u.g.isSome=true
 | [],_,h=>by cases h
 | _::_,_,h=>by
  rcases bT.1 h with rfl|h
  .exact⟨eh,rfl⟩
  .exact⟨dS _ (mj _ h).1,(mj _ h).2⟩
end
theorem YN:∀{vs:cU},(∀v∈vs,v.cells = #[v])->(vs.flatMap λv=>v.cells.toList)=vs
 | [],_=>rfl
 | v::vs,h=>by rw [nB,h v eh,YN λu hu=>h u (dS _ hu)];rfl
section
variable{T:eG}{b:bO}{ops:aZ}{Q:bK}{N:Nat}{E:aG}{L:aH}{R:bF}{F M:aE}{o1 o2:yk}{rest:aN}{k1 k2 bs e:Nat}
def FC{f:yi}{n m t:Nat}{parts:Array (Nat×yo)}{ats:mX}(hT:fh prog T)(vs:nH)(ls:aX)(r:ae)(hg1:o1.guard=none)(sr:o2.guard=none)(hd1:o1.dst=some k1)(jS:o2.dst=some k2)(hk1:aW k1 N=true)(iD:aW k2 N=true)
 (ho1:o1.op = .buildSlice t n parts)(xS:o2.op = .call { callee:=.value (.func f),args:=#[.tmp k1],argTypes:=ats })(hs:uU T t=some (e,1,bs))(hf:Own f)
 (hp:∀G:aK,parts.toList.map (λp=>(p.1,(aP E p.2).map (aq.den G)))=((vs.map (aq.den G)).zipIdx 0).map λx=>(x.2,some x.1))(hn:vs.length=n)(h0:0<n)(h24:n<=16777216)(hr:r.length=m)
 (hc:∀A w,lX w A ls->F w->M w->Calls prog f #[.slice A n n] w λe w'=>e = .returned (.agg (By r).toArray)/\Below w.heap.size w w')
 (gA:∀G S w,View G S L R F M w->jH w (vs.map (aq.den G)) ls)
 (jB:∀A,a9 prog b ops Q N rest ⟨(k2,.q (aw m r))::(k1,.v (.slice A n n))::E,L,R,F,M⟩):a9 prog b ops Q N (o1::o2::rest) ⟨E,L,R,F,M⟩:=λa w ⟨G,S,h1,h2,h3⟩=>by
 have hA:=gA G S w h3.view;obtain⟨ht,ie,z,hi,hz,gT,vq,tA,_⟩:=Bi hT hs
 have iy:=Qw (P:=prog) ht hi hz gT (vs.map (aq.den G)) n (parts.map λ(i,x)=>(i,a.eval x)) (by rw [Fp];exact O9 h1 _ _ (hp G)) (by rw [dL,hn]) (by omega) (by omega) (λv ab=>by rw [(hA.one v ab).1];rfl) w
 rw [YN λv ab=>(hA.one v ab).1] at iy;have l7:=(Below.refl w.heap.size w).alloc (aQ _) (.cells (vs.map (aq.den G)).toArray e);have SF:lX (w.alloc (.cells (vs.map (aq.den G)).toArray e)) (some ⟨w.heap.size,0,none⟩) ls:=Vl (bB.new w e (vs.map (aq.den G)).toArray) (λj v hj=>by simpa using hj) (jH.later l7 hA);have h4:=h3.later l7;have h5:=h1.put hk1 (cj w.heap.size n n)
 refine nA (v:=.slice (some ⟨w.heap.size,0,none⟩) n n) (w':=w.alloc (.cells (vs.map (aq.den G)).toArray e)) (lr hg1) (by unfold execOp;simp only [ho1,bI,iy,bS,bM]) ?_
 rw [hd1];have dU:=JA (E:=(k1,.v (cj w.heap.size n n))::E) (svs:=[.v (cj w.heap.size n n)]) (w:=w.alloc (.cells (vs.map (aq.den G)).toArray e)) hf xS (by simp [lg,aP,dG]) h5
 unfold wpList
 rw [if_pos (by simp [aU,sr])];refine .inl ?_
 unfold fW
 rw [dU];simp only [fE,jS];refine(hc _ _ SF h4.view.fact h4.view.fresh).mono ?_
 rintro e' w' ⟨rfl,hb⟩
 have h6:jK ((k1,.v (cj w.heap.size n n))::E):=h2.cons trivial;exact jB (some ⟨w.heap.size,0,none⟩) _ w' ⟨G,S,h5.put iD _,h6.cons (v:=.q (aw m r)) (cq hr).1,h4.later hb⟩
def sW{j n:Nat}{l:ae}(hj:mJ L j=some [.agg n (By l).toArray])(hl:l.length=n)(hm:n<=9223372036854775807):∀G S w,View G S L R F M w->ja w ((aq.s j 0 n n).den G) l:=λG S w ab=>by obtain⟨z,hz,rfl,hps⟩:=tR hj;have hb:=(ab.var z hz).1;rw [hps] at hb;exact ja.all hb hl hm
end
def l4:aH->Nat->aK->aK->aK
  | [],_,_,G,j=>G j
  | u::us,i,gs,G,j=>if j=u.j then gs i else l4 us (i+1) gs G j
def IF:aH->aG->aG
  | [],E=>E
  | u::us,E=>(u.j,.a u.j 0)::IF us E
def FM:aH->List ct->lV
  | u::us,z::zs=>⟨u.j,u.t,z⟩::FM us zs
  | _,_=>[]
def vl(E:aG)(L:aH):aH->Bool
  | []=>true
  | u::us=>tq u.j L&&xE u.j E&&(match u.g with|none=>true|some _=>false)&&tq u.j us&&vl E L us
theorem YS{gs G:aK}{j:Nat}:∀{us:aH} {i:Nat},j∉gM us->l4 us i gs G j=G j
 | [],_,_=>rfl
 | u::us,i,h=>by unfold l4;rw [if_neg λe=>h (by rw [e];exact eh)];exact YS λh2=>h (dS _ h2)
theorem Sv{gs G:aK}:∀{us:aH} {i j:Nat} ,j∈gM us->∃k,i<=k/\k<i+us.length/\l4 us i gs G j=gs k
 | [],_,_,h=>by cases h
 | u::us,i,j,h=>by
  unfold l4;by_cases e:j=u.j
  .rw [if_pos e];exact⟨i,aQ _,by simp,rfl⟩
  .rw [if_neg e]
   rcases bT.1 h with e2|h
   .exact absurd e2 e
   .obtain⟨k,h1,h2,h3⟩:=Sv (i:=i+1) h;exact⟨k,by omega,by simp only [fL];omega,h3⟩
theorem Su{E:aG}{L:aH}:∀{us:aH},vl E L us=true->∀u∈us,tq u.j L=true/\xE u.j E=true/\u.g=none
 | [],_,u,h=>by cases h
 | v::us,hf,u,h=>by
  simp only [vl,dJ] at hf;obtain⟨⟨⟨⟨h1,h2⟩,h3⟩,h4⟩,h5⟩:=hf;rcases bT.1 h with rfl|h
  .refine⟨h1,h2,?_⟩
   cases hg:u.g with
   | none=>rfl
   | some x=>rw [hg] at h3;cases h3
  .exact Su h5 u h
section
variable{P:ym}{T:eG}{b:bO}{ops:aZ}{Q:bK}{N:Nat}{G gs:aK}{S:cn}{E:aG}{L:aH}{R:bF}{F M:aE}{w0 w':yp}
theorem YT{i0:Nat}:∀{us:aH} {i:Nat},vl E L us=true->(∀k l,i0<=k->k<i+us.length->i0<=l->l<i+us.length->k≠l->gs k≠gs l)->i0<=i->(gM us).Pairwise λx y=>l4 us i gs G x≠l4 us i gs G y
 | [],_,_,_,_=>qE
 | u::us,i,hf,hd,hi=>by
  simp only [vl,dJ] at hf;obtain⟨⟨_,h4⟩,h5⟩:=hf;have hn:=Ev h4;have b8:∀j∈gM us,l4 (u::us) i gs G j=l4 us (i+1) gs G j:=λj hj=>by show(if j=u.j then _ else _)=_;rw [if_neg λe=>hn (by rw [<-e];exact hj)]
  refine rN (λj hj=>?_) ?_
  .rw [b8 j hj];show(if u.j=u.j then gs i else _)≠_;rw [if_pos rfl];obtain⟨k,h1,h2,h3⟩:=Sv (gs:=gs) (G:=G) (i:=i+1) hj;rw [h3];exact hd i k (by omega) (by simp only [fL];omega) (by omega) (by simp only [fL];omega) (by omega)
  .refine(YT (us:=us) (i:=i+1) h5 (λk l a b c d=>hd k l a (by simp only [fL];omega) c (by simp only [fL];omega)) (by omega)).imp_of_mem λ{x y} hx hy h=>?_;rw [b8 x hx,b8 y hy];exact h
theorem YR(G:aK):∀{us:aH} {zs:List ct} {i:Nat},vl E L us=true->us.length=zs.length->Jv w' (FM us zs) (us.map λu=>a7 u.ai) i gs->∀u∈us,bB w' (l4 us i gs G u.j) u.t (a7 u.ai)
 | [],_,_,_,_,_,u,h=>by cases h
 | _::_,[],_,_,hl,_,_,_=>by cases hl
 | v::us,z::zs,i,hf,hl,hb,u,h=>by
  simp only [vl,dJ] at hf;obtain⟨⟨_,h4⟩,h5⟩:=hf;have hn:=Ev h4;obtain⟨jy,jz⟩:=hb;rcases bT.1 h with rfl|h
  .show bB w' (if u.j=u.j then gs i else _) _ _;rw [if_pos rfl];exact jy
  .have:=YR G h5 (by simpa using hl) jz u h;show bB w' (if u.j=v.j then _ else _) _ _;rw [if_neg λe=>hn (by rw [<-e];exact dv.2 ⟨u,h,rfl⟩)];exact this
def bj.news(h:bj b G S L R F M w0)(hU:cA w0 w')(us:aH)(hf:vl E L us=true)(hp:∀u∈us,ch u.ai)(cW:∀j,j<us.length->w0.heap.size<=gs j)(hd:∀i j,i<us.length->j<us.length->i≠j->gs i≠gs j)(hb:∀u∈us,bB w' (l4 us 0 gs G u.j) u.t (a7 u.ai)) :
  bj b (l4 us 0 gs G) S (us++L) R F M w':=by
 have h1:=h.later hU;have lk:=Su hf
 have o7:∀j∈gM L,j∉gM us:=λj hj EO=>by obtain⟨u,hu,rfl⟩:=dv.1 EO;exact Ev (lk u hu).1 hj
 have hG:∀j∈gM L,l4 us 0 gs G j=G j:=λj hj=>YS (o7 j hj);have al:∀i∈gM L,G i<w0.heap.size:=λi hi=>h.lt _ (.inr ⟨i,hi,rfl⟩)
 have xR:∀j∈gM us,w0.heap.size<=l4 us 0 gs G j:=λj hj=>by obtain⟨k,h2,h3,h4⟩:=Sv (gs:=gs) (G:=G) (i:=0) hj;rw [h4];exact cW k (by omega)
 have Tx:gM (us++L)=gM us++gM L:=List.map_append
 have hM:∀k,gP S (l4 us 0 gs G) (us++L) k->w0.heap.size<=k\/gP S G L k:=λk hk=>by
  rcases hk with hk|⟨i,hi,rfl⟩
  .exact .inr (.inl hk)
  .rw [Tx] at hi
   rcases iA.1 hi with hi|hi
   .exact .inl (xR i hi)
   .exact .inr (.inr ⟨i,hi,(hG i hi).symm⟩)
 refine⟨λx hx=>?_,?_,h1.res,λi hi=>?_,?_,?_,h1.chg,λk hk nk=>?_,h.eS⟩
 .rcases iA.1 hx with hx|hx
  .exact⟨hb x hx,hp x hx,λg hg=>by rw [(lk x hx).2.2] at hg;cases hg⟩
  .rw [hG _ (dv.2 ⟨x,hx,rfl⟩)];exact h1.var x hx
 .rw [Tx]
  refine List.pairwise_append.2 ⟨YT (i0:=0) hf (λk l _ a _ c=>hd k l (by omega) (by omega)) (aQ _),h.apart.imp_of_mem λ{x y} hx hy e=>?_,λi hi j hj=>?_⟩
  .rw [hG x hx,hG y hy];exact e
  .have:=xR i hi;have:=al j hj;rw [hG j hj];omega
 .rw [Tx] at hi
  rcases iA.1 hi with hi|hi
  .intro hs;have:=h.res.lt _ hs;have:=xR i hi;omega
  .rw [hG i hi];exact h.sep i hi
 .refine h.fact.AW (dO.wW hU) λi hi hd=>?_
  rcases hd with hd|hd
  .exact .inl hd
  .rcases hM i hd with h2|hd
   .exact absurd hi (Nat.not_lt.2 h2)
   .exact .inr hd
 .refine h.fresh.AW (dO.wW hU) λi hi hd=>?_
  rcases hd with hd|hd
  .exact .inl hd
  .rcases hM i hd with h2|hd
   .exact absurd hi (Nat.not_lt.2 h2)
   .exact .inr hd
 .rcases hM k hk with h2|h2
  .have:=h.chg.size;omega
  .exact h.mine k h2 nk
theorem amZ{us:aH}{i:Nat}{v:aq}(h:∀u∈us,v.GS u.j=true):v.den (l4 us i gs G)=v.den G:=by
 induction us generalizing i with
 | nil=>rfl
 | cons u us ih =>
  have h1:=h u eh;have h2:=ih (i:=i+1) λx hx=>h x (dS _ hx);rw [<-h2]
  cases v with
  | a j off =>
   have h1:(!Nat.beq j u.j)=true:=h1
   have:j≠u.j:=λe=>by rw [e] at h1;simp at h1
   show rC (some ⟨l4 (u::us) i gs G j,off,none⟩)=_
   unfold l4
   rw [if_neg this]
   rfl
  | s j off n c =>
   have h1:(!Nat.beq j u.j)=true:=h1
   have:j≠u.j:=λe=>by rw [e] at h1;simp at h1
   show Value.slice (some ⟨l4 (u::us) i gs G j,off,none⟩) n c=_
   unfold l4
   rw [if_neg this]
   rfl
  | q x=>rfl
  | t vs=>rfl
theorem Ye{us:aH}:∀{E:aG},(∀u∈us,xE u.j E=true)->bG (l4 us 0 gs G) E=bG G E
 | [],_=>rfl
 | (k,v)::r,h=>by
  have h1:∀u∈us,v.GS u.j=true/\xE u.j r=true:=λu hu=>by have:=h u hu;unfold xE at this;rw [List.all_cons,dJ] at this;exact this
  rw [bG,bG,amZ λu hu=>(h1 u hu).1,Ye λu hu=>(h1 u hu).2]
theorem adT:∀{us:aH} {zs:List ct} {i:Nat} {E1:List (Nat×yl)} {G0:aK},vl E L us=true->us.length=zs.length->(∀j∈gM us,G0 j=l4 us i gs G j)->bG G0 E=E1->bG G0 (IF us E)=rP (FM us zs) i gs E1
 | [],[],_,_,_,_,_,_,h=>h
 | u::us,z::zs,i,E1,G0,hf,hl,hg,h=>by
  simp only [vl,dJ] at hf;obtain⟨⟨_,h4⟩,h5⟩:=hf;have hn:=Ev h4;have h0:=hg u.j eh;have e0:G0 u.j=gs i:=by rw [h0];unfold l4;rw [if_pos rfl]
  show(u.j,rC (some ⟨G0 u.j,0,none⟩))::bG G0 (IF us E)=(u.j,rC (some ⟨gs i,0,none⟩))::rP (FM us zs) (i+1) gs E1;rw [e0,adT (i:=i+1) h5 (by simpa using hl) (λj hj=>?_) h];rw [hg j (dS _ hj)];show(if j=u.j then _ else _)=_;rw [if_neg λe=>hn (by rw [<-e];exact hj)]
 | [],_::_,_,_,_,_,hl,_,_=>by cases hl
 | _::_,[],_,_,_,_,hl,_,_=>by cases hl
theorem adU:∀{us:aH},jK E->jK (IF us E)
 | [],h=>h
 | _::us,h=>(adU (us:=us) h).cons trivial
def gB(P:ym)(ops:aZ)(N:Nat)(w0:yp)(Z:Act->Prop)(G:aK)(l:aN)(E:aG):Prop:=jK E->jc P ops (cA w0) Z l N (bG G E)
variable{Z:Act->Prop}{vs:lV}{T' l rest:aN}{o:yk}{k:Nat}
def FI(aa:bj b G S L R F M w0)(v:aq)(ab:v.aI)(h:∀(C0:aE) (Q':Act->Prop),(∀w,C0 w->View G S L R F M w)->jc P ops C0 Q' [] N ((k,v.den G)::bG G E)->jc P ops C0 Q' [o] N (bG G E))(hn:gB P ops N w0 Z G rest ((k,v)::E)):gB P ops N w0 Z G (o::rest) E:=λhE =>
 h (cA w0) (λa'=>fQ P ops (cA w0) Z rest a') (λ_ hw=>(aa.later hw).view) (λa' ha'=>hn (hE.cons ab) a' ha')
def vH(aa:bj b G S L R F M w0)(v:aq)(hq:di o k N)(h:∀(G:aK) (a:Act) (w:yp),Fr N (bG G E) a->(execOp a.eval o).run P w = .ok (.value (v.den G)) w)(hn:gB P ops N w0 Z G rest ((k,v)::E))(ab:v.aI:=by exact trivial):gB P ops N w0 Z G (o::rest) E :=
 FI aa v ab (λ_ _ _ hQ=>yL _ (eB hq) (eC hq) (dQ hq) (λa ha w _=>h G a w ha) hQ) hn
def AR(aa:bj b G S L R F M w0)(v:aq)(hq:di o k N)(h:∀(G:aK) (S:cn) (a:Act) (w:yp),Fr N (bG G E) a->View G S L R F M w->(execOp a.eval o).run P w = .ok (.value (v.den G)) w)(hn:gB P ops N w0 Z G rest ((k,v)::E))(ab:v.aI:=by exact trivial):gB P ops N w0 Z G (o::rest) E :=
 FI aa v ab (λ_ _ hC hQ=>yL _ (eB hq) (eC hq) (dQ hq) (λa ha w hw=>h G S a w ha (hC w hw)) hQ) hn
def auT{v:aq}(hT:fh P T)(aa:bj b G S L R F M w0)(hE:jK E)(hq:di o k N)(h:nz T E L o.op=some v)(hn:gB P ops N w0 Z G rest ((k,v)::E)):gB P ops N w0 Z G (o::rest) E :=
 FI aa v (zH hT (N:=N) (o:=o) hE aa.zu h).1 (λ_ _ hC hQ=>yL _ (eB hq) (eC hq) (dQ hq) (λ_ ha w hw=>(zH hT hE aa.zu h).2 ha λx hx=>((hC w hw).var x hx).1) hQ) hn
def Ei(T:eG)(ops:aZ)(N:Nat)(L:aH):aN->aG->aN×aG
  | [],E=>([],E)
  | o::l,E=>match o.guard,o.dst with
    | none,some k=>match aW k N with
      | true=>match nz T E L o.op with
        | some v=>Ei T ops N L l ((k,v)::E)
        | none=>(o::l,E)
      | false=>(o::l,E)
    | _,_=>(o::l,E)
theorem RN(hT:fh P T)(aa:bj b G S L R F M w0):∀{l:aN} {E:aG},jK E->gB P ops N w0 Z G (Ei T ops N L l E).1 (Ei T ops N L l E).2->gB P ops N w0 Z G l E
 | [],_,_,h=>h
 | o::l,E,hE,h=>by
  unfold Ei at h;split at h
  .rename_i k hg hd
   split at h
   .rename_i hk
    split at h
    .rename_i v ab;exact auT hT aa hE (lu hg hd hk) ab (RN hT aa (hE.cons (zH hT (N:=N) (o:=o) hE aa.zu ab).1) h)
    .exact h
   .exact h
  .exact h
def AQ{l':aN}{E':aG}(hT:fh P T)(aa:bj b G S L R F M w0)(h:Ei T ops N L l E=(l',E'))(hn:gB P ops N w0 Z G l' E'):gB P ops N w0 Z G l E:=λhE=>RN hT aa hE (by rw [h];exact hn) hE
def Ps{T2:aN}(aa:bj b G S L R F M w0)(us:aH)(zs:List ct)(xs:List yo)(vD:FM us zs=vs)(hl:us.length=zs.length)(hf:vl E L us=true)(hp:∀u∈us,ch u.ai)(N4:nh (bG G E) vs)(iC:vO vs=true)(Ce:Mp vs xs T' T2)(ab:Gj P (bG G E) vs xs (us.map λu=>a7 u.ai))
 (h:a9 P b ops Q N T2 ⟨IF us E,us++L,R,F,M⟩):gB P ops N w0 (DL P ops Q w0 vs T' N) G [] E:=λhE=>by
 subst vD
 have hlen:(FM us zs).length=us.length:=by
  clear hf hp N4 iC Ce ab h;induction us generalizing zs with
  | nil=>rfl
  | cons u us ih =>
   cases zs with
   | nil=>cases hl
   | cons z zs=>exact congrArg (· + 1) (ih zs (by simpa using hl))
 refine ao3 xs (us.map λu=>a7 u.ai) N4 iC Ce ab λgs w' cW hd hU hb a ha=>?_;rw [hlen] at cW hd;have lk:=Su hf;refine h a w' ⟨l4 us 0 gs G,S,?_,adU hE,aa.news hU us hf hp cW hd (YR G hf hl hb)⟩;rw [adT (L:=L) hf hl (λ_ _=>rfl) (Ye λu hu=>(lk u hu).2.1)];exact ha
end
section
variable{T:eG}{b:bO}{ops:aZ}{Q:bK}{N:Nat}{G:aK}{S:cn}{E:aG}{L:aH}{R:bF}{F M:aE}{w0:yp}{Z:Act->Prop}{rest:aN}{o:yk}{k:Nat}
def ac4{F':aE}{f:yi}{xs:na}{ats:mX}{svs:nH}{r:cM}[dc F']
 (aa:bj b G S L R F M w0)(args:cU)(hq:di o k N)(ho:o.op = .call { callee:=.value (.func f),args:=xs,argTypes:=ats })(hx:lg E xs.toList=some svs)
 (ha:(∀x∈L,∀g,x.g=some g->G x.j=g)->svs.map (aq.den G)=args)(hs:Spec f args [] F' (one r))(hr:r.eJ.aI)(hF:∀G S w,View G S L R F M w->F' w)
 (hn:gB prog ops N w0 Z G rest ((k,r.eJ)::E))(hf:Own f:=by exact λ_ _=>by go_simp):gB prog ops N w0 Z G (o::rest) E:=by
 refine FI aa r.eJ hr (λC0 Q' hC hQ=>?_) hn;rw [cM.ql] at hQ;exact GR args.toArray r.den (eB hq) (eC hq) (dQ hq) hf (λw hw=>(hs w (λ_=>False) (λ_=>False) (λ_ h=>h) (λ_ h=>h.elim) (iu.DM (hF _ _ _ (hC w hw)) λ_ _ h=>h.elim id id)).mono λ_ _ ⟨_,_,h1,_,h2,_⟩=>⟨h1,h2.up λ_ _ h=>h⟩) ho (by rw [vh hx,ha λx hx=>(aa.var x hx).2.2]) hQ
end
section
variable{P:ym}{T:eG}{b:bO}{Q:bK}{N:Nat}{E:aG}{L:aH}{R:bF}{F M:aE}{l:aN}{id:Nat}{y:Code}
def VW(n:Nat)(vs:lV)(hn:n+vs.length<=l.length)(iC:vO vs=true)(Hp:Iq P N (l.drop n) vs)(hm:P.follows .mixedOrders=true)
 (aF:Bj l.toArray n vs.length (l.drop (n+vs.length)).length=true)
 (hC:FJ l.toArray n (marks vs.length n (marks n 0 (bD l.toArray.size false))) vs.length (dV vs.length) (marks n 0 (bD l.toArray.size false))=true)
 (h:∀K:fg,(∀e',cN P b y Q N e'->cl b K N e')->∀G S w0,bj b G S L R F M w0->gB P l.toArray N w0 (DL P l.toArray (NoPanic (Exit.then K Q)) w0 vs (l.drop (n+vs.length)) N) G (l.take n) E):cN P b (.seq (.region id l.toArray true) y) Q N ⟨E,L,R,F,M⟩ :=
 ao λK hK a w ⟨G,S,h1,h2,h3⟩=>by refine wp_region_noPanic ?_;exact XO n vs hn iC Hp hm aF hC (λ_ _ _ _ _ h=>h) (h K hK G S w h3 h2) a h1
end
def Pz:aq->Bool
  | .q (.c (.v (.tuple ⟨[]⟩)))=>true
  | _=>false
def Mn(ops:aZ)(N:Nat):aN->aG->aN×aG
  | [],E=>([],E)
  | o::l,E=>match o.guard,o.dst with
    | some (j,_),some k=>match (ops[j]?).bind (·.dst),aW k N with
      | some t,true=>match aW t N,dG E t with
        | true,some v=>match Pz v with
          | true=>Mn ops N l ((k,.v undef)::E)
          | false=>(o::l,E)
        | _,_=>(o::l,E)
      | _,_=>(o::l,E)
    | _,_=>(o::l,E)
def Mo(ops:aZ)(N:Nat):List (Nat×yk)->aG->List (Nat×yk)×aG
  | [],E=>([],E)
  | (i,o)::l,E=>match o.guard,o.dst with
    | some (j,_),some k=>match (ops[j]?).bind (·.dst),aW k N with
      | some t,true=>match aW t N,dG E t with
        | true,some v=>match Pz v with
          | true=>Mo ops N l ((k,.v undef)::E)
          | false=>((i,o)::l,E)
        | _,_=>((i,o)::l,E)
      | _,_=>((i,o)::l,E)
    | _,_=>((i,o)::l,E)
def aiH{ops:aZ}{N:Nat}{G:aK}{E:aG}{a:Act}{o:yk}{j t:Nat}{q:Bool}{v:aq}(h1:Fr N (bG G E) a)(kN:o.guard=some (j,q))(hj:(ops[j]?).bind (·.dst)=some t)(hN:aW t N=true)(ht:dG E t=some v)(ab:Pz v=true):aU o (yielded ops a.tmps)=false:=by
 have ab:v = .v undef:=by
  unfold Pz at ab;split at ab
  .rfl
  .cases ab
 subst ab;have h4:=h1.get t undef (by rw [ou,ht];rfl);have E7:t<a.tmps.size:=by rw [h1.size];simpa using hN
 simp only [Act.eval,wv] at h4;have h5:a.tmps[t]?=some undef:=by rw [xt E7] at h4 ⊢;simpa using h4
 unfold aU;rw [kN];simp [yielded,hj,h5,undef]
section
variable{P:ym}{b:bO}{ops:aZ}{Q:bK}{N:Nat}{R:bF}{L:aH}{F M:aE}{T':aN}{G:aK}{w0:yp}
theorem agM:∀{l:aN} {E:aG},a9 P b ops Q N (Mn ops N l E).1 ⟨(Mn ops N l E).2,L,R,F,M⟩->a9 P b ops Q N l ⟨E,L,R,F,M⟩
 | [],_,h=>h
 | o::l,E,h=>by
  unfold Mn at h;split at h
  .rename_i j q k hg hd
   split at h
   .rename_i t hj hk
    split at h
    .rename_i v hN ht
     split at h
     .rename_i ab;intro a w ⟨G,S,h1,h2,h3⟩;unfold wpList;rw [aiH h1 hg hj hN ht ab,if_neg (by decide),hd];exact agM h _ w ⟨G,S,h1.put hk undef,h2.cons trivial,h3⟩
     .exact h
    .exact h
   .exact h
  .exact h
theorem agL:∀{l:List (Nat×yk)} {E:aG},kc P b ops Q N T' G w0 (Mo ops N l E).1 (Mo ops N l E).2->kc P b ops Q N T' G w0 l E
 | [],_,h=>h
 | (i,o)::l,E,h=>by
  unfold Mo at h;split at h
  .rename_i j q k hg hd
   split at h
   .rename_i t hj hk
    split at h
    .rename_i v hN ht
     split at h
     .rename_i ab;intro hE a Fa ha hF;unfold gO;rw [aiH ha hg hj hN ht ab,if_neg (by decide)];dsimp only;rw [hd];exact agL h (hE.cons (v:=.v undef) trivial) _ _ (ha.put hk undef) (hF.up rfl)
     .exact h
    .exact h
   .exact h
  .exact h
def atD{l l':aN}{E E':aG}(h:Mn ops N l E=(l',E'))(hn:a9 P b ops Q N l' ⟨E',L,R,F,M⟩):a9 P b ops Q N l ⟨E,L,R,F,M⟩:=agM (by rw [h];exact hn)
def YV{l l':List (Nat×yk)}{E E':aG}(h:Mo ops N l E=(l',E'))(hn:kc P b ops Q N T' G w0 l' E'):kc P b ops Q N T' G w0 l E:=agL (by rw [h];exact hn)
end
def bm(P:ym)(ops:aZ)(Q:bK)(N:Nat)(T':aN)(G:aK)(w0:yp)(l:List (Nat×yk))(E:aG)(Fa:Told):Prop:=jK E->sk P zQ ops (cA w0) (xC P ops Q (cA w0) T') l N (bG G E) Fa
section
variable{P:ym}{T:eG}{b:bO}{ops:aZ}{Q:bK}{N:Nat}{G:aK}{S:cn}{E:aG}{L:aH}{R:bF}{F M:aE}{w0:yp}{T':aN}{Fa:Told}{i k:Nat}{o:yk}{rest:List (Nat×yk)}{l:aN}{id:Nat}{y:Code}
def nw(n:Nat)
 (h:∀K:fg,(∀e',cN P b y Q N e'->cl b K N e')->∀G S w0,bj b G S L R F M w0->bm P l.toArray (Exit.then K Q) N (l.drop n) G w0 (idx 0 (l.take n)) E [])(aF:D3 l.toArray n (l.drop n).length=true:=by kernel_rfl)(hm:P.follows .mixedOrders=true:=by kernel_rfl)(hn:n<=l.length:=by decide):cN P b (.seq (.region id l.toArray true) y) Q N ⟨E,L,R,F,M⟩ :=
 rT n (hn:=hn) (hm:=hm) (aF:=aF) λK hK G S w0 aa=>h K hK G S w0 aa
def G1(aa:bj b G S L R F M w0)(v:aq)(ab:v.aI)(hf:mw i Fa=true)(h:∀(C0:aE) (Q':Act->Prop),(∀w,C0 w->View G S L R F M w/\Uses o Fa w)->jc P ops C0 Q' [] N ((k,v.den G)::bG G E)->jc P ops C0 Q' [o] N (bG G E))(hn:bm P ops Q N T' G w0 rest ((k,v)::E) Fa):bm P ops Q N T' G w0 ((i,o)::rest) E Fa:=λhE =>
 yO hf (h _ _ (λ_ hw=>⟨(aa.later hw.1).view,hw.2⟩) (yN (o:=o) (hn (hE.cons ab))))
def ni(aa:bj b G S L R F M w0)(v:aq)(hf:mw i Fa=true)(hq:di o k N)(h:∀(G:aK) (a:Act) (w:yp),Fr N (bG G E) a->(execOp a.eval o).run P w = .ok (.value (v.den G)) w)(hn:bm P ops Q N T' G w0 rest ((k,v)::E) Fa)(ab:v.aI:=by exact trivial):bm P ops Q N T' G w0 ((i,o)::rest) E Fa :=
 G1 aa v ab hf (λ_ _ _ hQ=>yL _ (eB hq) (eC hq) (dQ hq) (λ_ ha w _=>h G _ w ha) hQ) hn
def G3(aa:bj b G S L R F M w0)(v:aq)(hf:mw i Fa=true)(hq:di o k N)(h:∀(G:aK) (S:cn) (a:Act) (w:yp),Fr N (bG G E) a->View G S L R F M w->(execOp a.eval o).run P w = .ok (.value (v.den G)) w)(hn:bm P ops Q N T' G w0 rest ((k,v)::E) Fa)(ab:v.aI:=by exact trivial):bm P ops Q N T' G w0 ((i,o)::rest) E Fa :=
 G1 aa v ab hf (λ_ _ hC hQ=>yL _ (eB hq) (eC hq) (dQ hq) (λ_ ha w hw=>h G S _ w ha (hC w hw).1) hQ) hn
def apV{v:aq}(hT:fh P T)(aa:bj b G S L R F M w0)(hE:jK E)(hf:mw i Fa=true)(hq:di o k N)(h:nz T E L o.op=some v)(hn:bm P ops Q N T' G w0 rest ((k,v)::E) Fa):bm P ops Q N T' G w0 ((i,o)::rest) E Fa :=
 G1 aa v (zH hT (N:=N) (o:=o) hE aa.zu h).1 hf (λ_ _ hC hQ=>yL _ (eB hq) (eC hq) (dQ hq) (λ_ ha w hw=>(zH hT hE aa.zu h).2 ha λx hx=>((hC w hw).1.var x hx).1) hQ) hn
def CU(T:eG)(ops:aZ)(N:Nat)(L:aH)(Fa:Told):List (Nat×yk)->aG->List (Nat×yk)×aG
  | [],E=>([],E)
  | (i,o)::l,E=>match vR ops N E o,mw i Fa,o.dst with
    | some false,true,some k=>match aW k N with
      | true=>CU T ops N L Fa l ((k,.v undef)::E)
      | false=>((i,o)::l,E)
    | some true,true,some k=>match aW k N with
      | true=>match nz T E L o.op with
        | some v=>CU T ops N L Fa l ((k,v)::E)
        | none=>((i,z6 o)::l,E)
      | false=>((i,o)::l,E)
    | some true,true,none=>((i,z6 o)::l,E)
    | _,_,_=>((i,o)::l,E)
def SN(hw:vR ops N E o=some true)(h:bm P ops Q N T' G w0 ((i,z6 o)::rest) E Fa):bm P ops Q N T' G w0 ((i,o)::rest) E Fa:=λhE a F ha hF=>by have qh:=Gk ha hw;have h1:=h hE a F ha hF;obtain⟨dst,op,ty,pos,af,gd⟩:=o;unfold gO at h1 ⊢;rw [if_pos qh];rw [if_pos (by rfl)] at h1;exact h1
def apW(hw:vR ops N E o=some false)(hf:mw i Fa=true)(hd:o.dst=some k)(hk:aW k N=true)(h:bm P ops Q N T' G w0 rest ((k,.v undef)::E) Fa):bm P ops Q N T' G w0 ((i,o)::rest) E Fa:=λhE a F ha hF=>by have qh:=Gk ha hw;unfold gO;rw [qh,if_neg (by decide)];dsimp only;rw [hd];exact h (hE.cons (v:=.v undef) trivial) _ _ (ha.put hk undef) (hF.up hf)
theorem RM(hT:fh P T)(aa:bj b G S L R F M w0):∀{l:List (Nat×yk)} {E:aG},jK E->bm P ops Q N T' G w0 (CU T ops N L Fa l E).1 (CU T ops N L Fa l E).2 Fa->bm P ops Q N T' G w0 l E Fa
 | [],_,_,h=>h
 | (i,o)::l,E,hE,h=>by
  unfold CU at h;split at h
  .rename_i k hw hf hd
   split at h
   .rename_i hk;exact apW hw hf hd hk (RM hT aa (hE.cons (v:=.v undef) trivial) h)
   .exact h
  .rename_i k hw hf hd
   split at h
   .rename_i hk
    split at h
    .rename_i v ab;have h2:=RM hT aa (hE.cons (zH hT (N:=N) (o:=z6 o) hE aa.zu ab).1) h;exact SN hw (apV hT aa hE hf (lu rfl hd hk) ab h2)
    .exact SN hw h
   .exact h
  .rename_i hw hf hd;exact SN hw h
  .exact h
def J7{l l':List (Nat×yk)}{E':aG}(hT:fh P T)(aa:bj b G S L R F M w0)(h:CU T ops N L Fa l E=(l',E'))(hn:bm P ops Q N T' G w0 l' E' Fa):bm P ops Q N T' G w0 l E Fa:=λhE=>RM hT aa hE (by rw [h];exact hn) hE
def SP{l:List (Nat×yk)}(k:Nat){K:yj}{m:Int}(n:Int)(h:dG E k=some (.v (.int K m)))(he:m=n)(hn:bm P ops Q N T' G w0 l ((k,.v (.int K n))::E) Fa):bm P ops Q N T' G w0 l E Fa:=λhE=>by subst he;intro a F ha hF;exact hn (hE.cons trivial) a F (ha.more (ha.get k _ (by rw [ou,h];rfl))) hF
def qO{l:List (Nat×yk)}(k:Nat){t:Bool}(q:Bool)(h:dG E k=some (.b t))(he:t=q)(hn:bm P ops Q N T' G w0 l ((k,.v (.bool q))::E) Fa):bm P ops Q N T' G w0 l E Fa:=λhE=>by subst he;intro a F ha hF;exact hn (hE.cons trivial) a F (ha.more (ha.get k _ (by rw [ou,h];rfl))) hF
def jR(aa:bj b G S L R F M w0)(h:a9 P b ops Q N T' ⟨E,L,R,F,M⟩):bm P ops Q N T' G w0 [] E Fa:=λhE=>NH λw hw _=>λa ha=>h a w ⟨G,S,ha,hE,aa.later hw⟩
end
section
variable{T:eG}{b:bO}{ops:aZ}{Q:bK}{N:Nat}{G:aK}{S:cn}{E:aG}{L:aH}{R:bF}{F M:aE}{w0:yp}{T':aN}{Fa:Told}{i k e bs:Nat}{o:yk}{rest:List (Nat×yk)}
def Zm{α:Type}{sz:Nat}(fe:α->aL){t n:Nat}{parts:Array (Nat×yo)}(hT:fh prog T)(l:List α)(bx:jL sz fe l)(hq:di o k N)(hf:mw i Fa=true)(ho:o.op = .buildSlice t n parts)(hs:uU T t=some (e,sz,bs))
 (hp:∀G:aK,parts.toList.map (λp=>(p.1,(aP E p.2).map (aq.den G)))=((l.map λx=>(fe x).den).zipIdx 0).map λx=>(x.2,some x.1))(hn:l.length=n)(h0:0<n*sz)(h24:n*sz<=16777216)
 (hc:∀g,bm prog ops Q N T' G w0 rest ((k,.v (cj g n n))::E) ((i,λw=>ar sz fe (some ⟨g,0,none⟩) n l w)::Fa)):bm prog ops Q N T' G w0 ((i,o)::rest) E Fa:=λhE=>by
 refine NI (λv w=>∃g,v = .slice (some ⟨g,0,none⟩) n n/\ar sz fe (some ⟨g,0,none⟩) n l w) (eB hq) (eC hq) (dQ hq) hf (by rw [ho];rfl) (λv w w' ⟨g,h1,h2⟩ hb=>⟨g,h1,h2.later hb⟩) (λa ha w _ _=>?_) λv w _ ab=>?_
 .obtain⟨ht,ie,z,hi,hz,gT,_⟩:=Bi hT hs
  have iy:=Qw (P:=prog) ht hi hz gT (l.map λx=>(fe x).den) n (parts.map λ(i,x)=>(i,a.eval x)) (by rw [Fp];exact O9 ha _ _ (hp G)) (by rw [dL,hn]) h0 h24 (λv ab=>by
   obtain⟨x,hx,rfl⟩:=dv.1 ab;have:=(bx x hx).2
   rwa [aL.cp,kD] at this) w
  have e1:((l.map λx=>(fe x).den).flatMap λv=>v.cells.toList)=de fe l:=by rw [de,List.flatMap_map];rfl
  rw [e1] at iy;have h1:(execOp a.eval o).run prog w = .ok (.value (cj w.heap.size n n)) (w.alloc (.cells (de fe l).toArray e)):=by unfold execOp;simp only [ho,bI,iy,bS,bM]
  rw [h1];refine⟨(Below.refl w.heap.size w).alloc (aQ _) _,w.heap.size,rfl,?_⟩;subst hn;have hm:l.length<=l.length*sz:=vK _ (Nat.pos_of_ne_zero λe=>by rw [e] at h0;omega);exact bL.rd (bL.new (lo:=0) w (bl _) bx (by omega))
 .obtain⟨g,rfl,h2⟩:=ab
  intro a F ha hF;refine hc g (hE.cons trivial) a F ha λx hx w hw=>?_;rcases bT.1 hx with rfl|hx
  .obtain⟨g',e,h3⟩:=hF _ eh w hw;cases e;exact h3
  .exact hF x (dS _ hx) w hw
def G2{t n:Nat}{parts:Array (Nat×yo)}(hT:fh prog T)(l:ae)(hq:di o k N)(hf:mw i Fa=true)(ho:o.op = .buildSlice t n parts)(hs:uU T t=some (e,1,bs))
 (hp:∀G:aK,parts.toList.map (λp=>(p.1,(aP E p.2).map (aq.den G)))=((l.map λx=>(aY x).den).zipIdx 0).map λx=>(x.2,some x.1))(hn:l.length=n)
 (hc:∀g,bm prog ops Q N T' G w0 rest ((k,.v (cj g n n))::E) ((i,λw=>ar 1 aY (some ⟨g,0,none⟩) n l w)::Fa))(h0:0<n:=by decide)(h24:n<=16777216:=by decide):bm prog ops Q N T' G w0 ((i,o)::rest) E Fa :=
 Zm aY hT l (mK l) hq hf ho hs hp hn (by omega) (by omega) hc
def Dc{n:Nat}{parts:Array (Nat×yo)}(vs:cU)(ls:aX)(aa:bj b G S L R F M w0)(hq:di o k N)(hf:mw i Fa=true)(ho:o.op = .buildSlice 37 n parts)
 (ab:parts.toList.map (λp=>(p.1,(aP E p.2).map (aq.den G)))=(vs.zipIdx 0).map λx=>(x.2,some x.1))(hn:vs.length=n)(h0:0<n)(h24:n<=16777216)(h:∀w,View G S L R F M w->Uses o Fa w->jH w vs ls)
 (hc:∀g,bm prog ops Q N T' G w0 rest ((k,.v (cj g n n))::E) ((i,λw=>lX w (some ⟨g,0,none⟩) ls)::Fa)):bm prog ops Q N T' G w0 ((i,o)::rest) E Fa:=λhE=>by
 have tz:parts.toList.map (λp=>(p.1,dy (bG G E) p.2))=(vs.zipIdx 0).map λx=>(x.2,some x.1):=by
  have key:∀(l:List (Nat×yo)) (m:List (yl×Nat)),l.map (λp=>(p.1,(aP E p.2).map (aq.den G)))=m.map (λx=>(x.2,some x.1))->l.map (λp=>(p.1,dy (bG G E) p.2))=m.map λx=>(x.2,some x.1):=by
   intro l;induction l with
   | nil=>intro m h;cases m with
    | nil=>rfl
    | cons=>cases h
   | cons p l ih=>intro m h;cases m with
    | nil=>cases h
    | cons u m =>
     simp only [eZ,BM,nS] at h ⊢;refine⟨⟨h.1.1,?_⟩,ih m h.2⟩
     cases hx:aP E p.2 with
     | none=>rw [hx] at h;cases h.1.2
     | some v =>
      rw [hx] at h;rw [bH hx];exact h.1.2
  exact key _ _ ab
 refine YW vs ls 0 hq hf ho tz hn h0 h24 (λ_ _=>bl _) (λw hw hu=>h w (aa.later hw).view hu) λg w _ _=>?_
 intro a F ha hF
 refine hc g (hE.cons trivial) a F ha λx hx w hw=>?_
 rcases bT.1 hx with rfl|hx
 .exact(hF _ eh w hw).zy
 .exact hF x (dS _ hx) w hw
def EB{f:yi}{xs:na}{ats:mX}{svs:nH}{r:cM}(aa:bj b G S L R F M w0)(args:cU)(hf:mw i Fa=true)(hq:di o k N)(how:Own f)(ho:o.op = .call { callee:=.value (.func f),args:=xs,argTypes:=ats })(hx:lg E xs.toList=some svs)
 (ha:(∀x∈L,∀g,x.g=some g->G x.j=g)->svs.map (aq.den G)=args)(hr:r.eJ.aI)(hs:∀w,View G S L R F M w->Uses o Fa w->Calls prog f args.toArray w λe w'=>e = .returned r.den/\Below w.heap.size w w')
 (hn:bm prog ops Q N T' G w0 rest ((k,r.eJ)::E) Fa):bm prog ops Q N T' G w0 ((i,o)::rest) E Fa:=by
 refine G1 aa r.eJ hr hf (λC0 Q' hC hQ=>?_) hn;rw [cM.ql] at hQ;exact GR args.toArray r.den (eB hq) (eC hq) (dQ hq) how (λw hw=>hs w (hC w hw).1 (hC w hw).2) ho (by rw [vh hx,ha λx hx=>(aa.var x hx).2.2]) hQ
def wL{α:Type}{post:fm α}{F':aE}[dc F'][hP:∀x,dc (post.p x)]{f:yi}{xs:na}{ats:mX}{svs:nH}(aa:bj b G S L R F M w0)(args:cU)(hf:mw i Fa=true)(hq:di o k N)(ho:o.op = .call { callee:=.value (.func f),args:=xs,argTypes:=ats })(hx:lg E xs.toList=some svs)
 (ha:(∀x∈L,∀g,x.g=some g->G x.j=g)->svs.map (aq.den G)=args)(hs:Spec f args [] F' post)(hF:∀w,View G S L R F M w->Uses o Fa w->F' w)
 (hn:∀x,(post.ret x).eJ.aI->bm prog ops Q N T' G w0 rest ((k,(post.ret x).eJ)::E) ((i,λw=>∃y,(post.ret x).den=(post.ret y).den/\post.p y w)::Fa))(how:Own f:=by exact λ_ _=>by go_simp):bm prog ops Q N T' G w0 ((i,o)::rest) E Fa:=λhE=>by
 refine aoM args.toArray (λv w=>∃x,v=(post.ret x).den/\(post.ret x).eJ.aI/\post.p x w) hq hf (λv w w' ⟨x,h1,h2,h3⟩ hb=>⟨x,h1,h2,(hP x).later _ _ h3 hb⟩) how (λw hw hu=>?_) ho (by rw [vh hx,ha λx hx=>(aa.var x hx).2.2]) λv w _ ab=>?_
 .refine(hs w (λ_=>False) (λ_=>False) (λ_ h=>h) (λ_ h=>h.elim) (iu.DM (hF w (aa.later hw).view hu) λ_ _ h=>h.elim id id)).mono ?_;rintro e w' ⟨x,S',h1,h2,h3,h4,h5,h6,h7⟩;exact⟨_,h1,⟨x,rfl,h2,h6.now⟩,h3.up λ_ _ h=>h⟩
 .obtain⟨x,rfl,bx,_⟩:=ab
  intro a F ha hF;refine hn x bx (hE.cons bx) a F (by rw [bG,cM.ql];exact ha) λy hy w hw=>?_;rcases bT.1 hy with rfl|hy
  .obtain⟨z,e,_,h3⟩:=hF _ eh w hw;exact⟨z,e,h3⟩
  .exact hF y (dS _ hy) w hw
def vp{F':aE}{f:yi}{xs:na}{ats:mX}{svs:nH}{r:cM}[dc F'](aa:bj b G S L R F M w0)(args:cU)(hf:mw i Fa=true)(hq:di o k N)(ho:o.op = .call { callee:=.value (.func f),args:=xs,argTypes:=ats })(hx:lg E xs.toList=some svs)
 (ha:(∀x∈L,∀g,x.g=some g->G x.j=g)->svs.map (aq.den G)=args)(hr:r.eJ.aI)(hs:Spec f args [] F' (one r))(hF:∀G S w,View G S L R F M w->F' w)
 (hn:bm prog ops Q N T' G w0 rest ((k,r.eJ)::E) Fa)(how:Own f:=by exact λ_ _=>by go_simp):bm prog ops Q N T' G w0 ((i,o)::rest) E Fa :=
 EB aa args hf hq how ho hx ha hr (λw ab _=>(hs w (λ_=>False) (λ_=>False) (λ_ h=>h) (λ_ h=>h.elim) (iu.DM (hF _ _ _ ab) λ_ _ h=>h.elim id id)).mono λ_ _ ⟨_,_,h1,_,h2,_⟩=>⟨h1,h2.up λ_ _ h=>h⟩) hn
def Zn{x:yo}{A:aO}{c:Nat}(l:ae)(aa:bj b G S L R F M w0)(hf:mw i Fa=true)(hq:di o k N)(ho:o.op = .convert 39 9 x)(hx:aP E x=some (.v (.slice A l.length c)))
 (h:∀w,View G S L R F M w->Uses o Fa w->ar 1 aY A c l w)(hn:bm prog ops Q N T' G w0 rest ((k,Q9 l)::E) Fa):bm prog ops Q N T' G w0 ((i,o)::rest) E Fa :=
 G1 aa (Q9 l) trivial hf (λ_ _ hC hQ=>ao5 (.slice A l.length c) l hq ho (bH hx) (λw' hw'=>(h w' (hC w' hw').1 (hC w' hw').2).dw) hQ) hn
end
section
variable{P:ym}{Q:bK}
def Mu(P:ym)(Q:bK)(w:yp)(t t2:Tmp)(ty:yn)(x y:yo)(n:Nat)(a':Act):Prop :=
  ∃(cells:ct) (v2:yl),(∀v,(a'.put (some t) v).eval (.tmp t)=v)/\(∀v,(a'.put (some t) v).eval x = .agg cells)/\(∀v,(a'.put (some t) v).eval y=v2)/\n=cells.size/\(P.info? ty).map (·.size)=some cells.size/\(∀v∈cells.toList,v.oneCell'=true) /\
    ∀g w',w.heap.size<=g->cA w w'->bB w' g ty cells->Q .normal ((a'.put (some t) (eE g)).put (some t2) v2) w'
def ayS{id:Nat}{a:Act}{w:yp}{l:aN}{oa os ot:yk}(n:Nat)(t t2:Tmp)(ty:yn)(x y:yo)(zs:ct)(hl:l=l.take n++[oa,os,ot])(hn:(l.take n).length=n)
 (As:os.op = .store ty (.tmp t) x)(TC:ot.op = .assign y)(qf:os.guard=none)(TP:ot.guard=none)(TG:os.dst=none)(TN:ot.dst=some t2)(SS:oa.guard=none)(SQ:oa.dst=some t)(hm:P.follows .mixedOrders=true)
 (hs:iK l.toArray=true)(hh:EK .any l.toArray n l 0=true)(fX:chainB .any l 0 none=true)
 (Av:bC .any l.toArray (marks n 0 (bD l.toArray.size false))=[n])
 (lG:bC .any l.toArray ((marks n 0 (bD l.toArray.size false)).setIfInBounds n true)=[n+1])
 (dU:bC .any l.toArray (((marks n 0 (bD l.toArray.size false)).setIfInBounds n true).setIfInBounds (n+1) true)=[n+2])
 (vC:bC .any l.toArray ((((marks n 0 (bD l.toArray.size false)).setIfInBounds n true).setIfInBounds (n+1) true).setIfInBounds (n+2) true)=[])
 (hQ:∀c a d v w,Q (.panic c) (a.put d v) w->Q (.panic c) a w)
 (iy:∀(a:Act) w,(execOp a.eval oa).run P w = .ok (.value (eE w.heap.size)) (w.alloc (.cells zs ty)))
 (h:fQ P l.toArray (cA w) (Mu P Q w t t2 ty x y zs.size) (l.take n) a):(Code.region id l.toArray true).wp P Q a w:=by
 have aF:EJ .any l.toArray n 0 (bD l.toArray.size false)=true:=Th (by simpa using fX) n l 0 _ Inv.start (by simp) hh;generalize l.take n=L at *;subst hl;subst hn;refine wp_region_any hm ?_
 have Tz:(L++[oa,os,ot]).toArray[L.length]?=some oa:=by simp
 have EV:(L++[oa,os,ot]).toArray[L.length+1]?=some os:=by simp
 have hoT:(L++[oa,os,ot]).toArray[L.length+2]?=some ot:=by simp
 have hz:(L++[oa,os,ot]).toArray.size=3+L.length:=by simp;omega
 have hG:tZ P .any (L++[oa,os,ot]).toArray (cA w) Q (3+L.length) 0 (3+L.length) w.drew (bD (L++[oa,os,ot]).toArray.size false) a:=by
  refine Rg (λ_ _ h k=>h.step k) hs hQ 3 w.drew (cA.drew w) L 0 _ a (nI.none _) (by omega) (λj hj=>by simp [uk hj]) aF ?_;refine MH (λa' h'=>⟨by rw [Av];exact rM _ _,λi hi=>?_⟩) L a h;rw [Av,bU] at hi;subst hi;obtain⟨cells,v2,h1,h2,h2y,gT,hi,ho,hk⟩:=h';refine aiP (base:=w.heap.size) Tz SS iy (λ_ _ h k=>h.step k) (λ_ h=>h.size) (cA.drew w) λw1 fy BP hp=>⟨by rw [lG];exact rM _ _,λi hi=>?_⟩;have jy:bB (w1.alloc (.cells zs ty)) w1.heap.size ty zs:=bB.new w1 _ _;rw [lG,bU] at hi;subst hi;rw [SQ];generalize w1.heap.size=g at *;intro w2 ln;have jz:=jy.later ln;have hC2:cA w w2:=(BP.alloc _).step ln;unfold wpOp;simp only [EV];rw [if_pos (by simp [aU,qf])];refine .inl ?_;have aa:=afP (P:=P) w2 ty g cells zs ty jz (by rw [hi]) gT ho;unfold fW execOp;simp only [As,h1,h2,bI,aa,bS,bM,fE];rw [TG];have Y8:cA w (w2.setRow g cells):=Ww hC2 hp _;have Zt:bB (w2.setRow g cells) g ty cells:=jz.row _;refine⟨Y8,by rw [dU];exact rM _ _,λi hi=>?_⟩;rw [dU,bU] at hi;subst hi;intro w4 Ch;have hb4:=Zt.later Ch;have Y9:cA w w4:=Y8.step Ch;unfold wpOp;simp only [hoT];rw [if_pos (by simp [aU,TP])];refine .inl ?_;unfold fW execOp;simp only [TC,bM,fE];refine⟨Y9,?_⟩;refine⟨λj hj=>?_,λw5 hw5=>⟨vC,?_⟩⟩
  .rw [vC] at hj;cases hj
  rw [TN];have e:(Act.put (Act.put a' (some t) (eE g)) none undef).eval y=v2:=h2y _;rw [e];exact hk g w5 hp (Y9.step hw5) (hb4.later hw5)
 have h2:=Rh (3+L.length) _ a w.drew hG;rw [dI,<-hz] at h2;exact h2
end
section
variable{P:ym}{Q:bK}{N:Nat}{E:List (Nat×yl)}{w:yp}
def am7{id:Nat}{l:aN}{oa os ot:yk}(n:Nat)(t t2:Tmp)(ty:yn)(x y:yo)(zs:ct)(hl:l=l.take n++[oa,os,ot])(hn:(l.take n).length=n)
 (As:os.op = .store ty (.tmp t) x)(TC:ot.op = .assign y)(qf:os.guard=none)(TP:ot.guard=none)(TG:os.dst=none)(TN:ot.dst=some t2)(SS:oa.guard=none)(SQ:oa.dst=some t)(hm:P.follows .mixedOrders=true)
 (hs:iK l.toArray=true)(hh:EK .any l.toArray n l 0=true)(fX:chainB .any l 0 none=true)
 (Av:bC .any l.toArray (marks n 0 (bD l.toArray.size false))=[n])
 (lG:bC .any l.toArray ((marks n 0 (bD l.toArray.size false)).setIfInBounds n true)=[n+1])
 (dU:bC .any l.toArray (((marks n 0 (bD l.toArray.size false)).setIfInBounds n true).setIfInBounds (n+1) true)=[n+2])
 (vC:bC .any l.toArray ((((marks n 0 (bD l.toArray.size false)).setIfInBounds n true).setIfInBounds (n+1) true).setIfInBounds (n+2) true)=[])
 (hQ:∀c a d v w,Q (.panic c) (a.put d v) w->Q (.panic c) a w)(Tz:oa.op = .alloc ty)(hz:(P.info? ty).bind (λi=>i.zero.map (·.cells))=some zs)
 (h:jc P l.toArray (cA w) (Mu P Q w t t2 ty x y zs.size) (l.take n) N E):tf P (.region id l.toArray true) Q N E w:=λa ha =>
 ayS n t t2 ty x y zs hl hn As TC qf TP TG TN SS SQ hm hs hh fX Av lG dU vC hQ (GQ Tz hz) (h a ha)
def ao7{ops:aZ}{t t2:Tmp}{ty:yn}{x y:yo}{n:Nat}(cells:ct)(v2:yl)(ht:aW t N=true)(TM:aW t2 N=true)(hx:∀v,dy ((t,v)::E) x=some (.agg cells))(hy:∀v,dy ((t,v)::E) y=some v2)(hn:n=cells.size)
 (hi:(P.info? ty).map (·.size)=some cells.size)(h1:∀v∈cells.toList,v.oneCell'=true)(h:∀g w',w.heap.size<=g->cA w w'->bB w' g ty cells->HT (Q .normal) N ((t2,v2)::(t,.pointer (some ⟨g,0,none⟩))::E) w') :
  jc P ops (cA w) (Mu P Q w t t2 ty x y n) [] N E:=λa ha=>Gm ⟨cells,v2,λv=>(ha.put ht v).get t v (by rw [uK,if_pos rfl]),λv=>(ha.put ht v).eval (hx v),λv=>(ha.put ht v).eval (hy v),hn,hi,h1,
   λg w' hg hU hb=>h g w' hg hU hb _ ((ha.put ht _).put TM _)⟩
end
def azV{P:ym}{t:yn}{K:yj}{m n:Int}{w:yp}:(binOp .and t (.int K m) (.int K n)).run P w = .ok (.int K (bits .and K m n)) w:=by cases K<;>go_simp
def aAC{P:ym}{t:yn}{K:yj}{m n:Int}{w:yp}:(binOp .or t (.int K m) (.int K n)).run P w = .ok (.int K (bits .or K m n)) w:=by cases K<;>go_simp
def aAL{P:ym}{t:yn}{K:yj}{m n:Int}{w:yp}:(binOp .xor t (.int K m) (.int K n)).run P w = .ok (.int K (bits .xor K m n)) w:=by cases K<;>go_simp
def rX(t:yn)(n:Nat):Prop:=∃e,prog.underlying t=some (.array n e)/\(prog.info? e).map (·.size)=some 1
def BA:rX 47 32:=⟨_,dp,by kernel_rfl⟩
def AZ:=@underlying66
def BB:rX 66 64:=⟨_,AZ,by kernel_rfl⟩
def M5(t u:yn)(n:Nat):j5:=match b9 t u with
  | true=>some n
  | false=>none
def U0:j5->j5->j5
  | some n,_=>some n
  | none,b=>b
def O1(t:yn):j5 :=
  U0 (M5 t 47 32) <|
  U0 (M5 t 66 64) <|
  (match b9 t 0 with|true=>none|false=>none)
def XA{t u:yn}{n m:Nat}(h:M5 t u n=some m):t=u/\n=m:=by
 unfold M5 at h;split at h
 .rename_i e;cases h;exact⟨gq e,rfl⟩
 .cases h
def acW{a b:j5}{m:Nat}(h:U0 a b=some m):a=some m\/b=some m:=by
 cases a
 .exact .inr h
 .exact .inl h
def abC{t:yn}{n:Nat}(h:O1 t=some n):rX t n:=by
 unfold O1 at h
 rcases acW h with h|h
 · obtain⟨rfl,rfl⟩:=XA h;exact⟨_,dp,by kernel_rfl⟩
 rcases acW h with h|h
 · obtain⟨rfl,rfl⟩:=XA h;exact⟨_,AZ,by kernel_rfl⟩
 split at h<;>cases h
def Jw(E:aG)(x:Option yo)(n:Nat):j5:=match x with
  | none=>some n
  | some y=>match aP E y with
    | some (.q (.c (.v (.int _ (.ofNat k)))))=>some k
    | _=>none
def VN{P:ym}{K:yj}{i y:Nat}{code:BoundsCode}(h:i<=y)(w:yp):(Instr.sliceBound (.int K (i:Int)) y code).run P w = .ok i w:=by
 have h1:(0:Int)<=i/\(i:Int)<=y:=by omega
 simp only [Instr.sliceBound,asIntOf,bI,bM,bS,h1,and_self,if_true,Int.toNat_natCast]
def alS{E:aG}{x:Option yo}{n m:Nat}(h:Jw E x n=some m):x=none/\m=n\/∃y K,x=some y/\aP E y=some (.v (.int K (m:Int))):=by
 unfold Jw at h;split at h
 .cases h;exact .inl ⟨rfl,rfl⟩
 .split at h
  .rename_i y _ K k hy;cases h;exact .inr ⟨y,K,rfl,hy⟩
  .cases h
def afF{P:ym}{t e:yn}{g off n l h:Nat}{lo hi:Option yl}(ht:P.underlying t=some (.array n e))(he:(P.info? e).map (·.size)=some 1)(hl:lo=none/\l=0\/∃K,lo=some (.int K (l:Int)))(hh:hi=none/\h=n\/∃K,hi=some (.int K (h:Int)))(h1:l<=h)(h2:h<=n)(h3:l<n)(w:yp) :
  (tN t (.pointer (some ⟨g,off,none⟩)) lo hi none).run P w = .ok (.slice (some ⟨g,off+l,none⟩) (h-l) (n-l)) w:=by
 have h5:=run_sizeOf he w
 have h6:¬n=l:=by omega
 have hu:=run_underlying (P:=P) ht (w:=w);have hb:=λc=>VN (P:=P) (K:=.i64) (i:=h) (y:=n) (code:=c) h2 w
 rcases hl with⟨rfl,rfl⟩|⟨K,rfl⟩<;>rcases hh with⟨rfl,rfl⟩|⟨K2,rfl⟩ <;>
  simp [tN,gG,hu,Instr.sliceBounds,h5,VN h2,VN h1,bI,lf,h6]
def Pg(E:aG):Op->Option aq
  | .binOp op _ x y _=>match aP E x,aP E y with
    | some (.q (.c (.v (.int K m)))),some (.q (.c (.v (.int K' n))))=>match op,Ud K K',n with
      | .and,true,_=>some (.v (.int K (bits .and K m n)))
      | .or,true,_=>some (.v (.int K (bits .or K m n)))
      | .xor,true,_=>some (.v (.int K (bits .xor K m n)))
      | .shl,_,.ofNat c=>some (.v (.int K (K.wrap (m*2^min c K.bits))))
      | .shr,_,.ofNat c=>some (.v (.int K (m.fdiv (2^min c K.bits))))
      | _,_,_=>none
    | _,_=>none
  | .unOp .xor _ x=>match aP E x with
    | some (.q (.c (.v (.int K n))))=>some (.v (.int K (bits .xor K (if K.signed then -1 else K.max) n)))
    | _=>none
  | .slice t x lo hi none=>match aP E x,O1 t with
    | some (.a j off),some n=>match Jw E lo 0,Jw E hi n with
      | some l,some h=>match uF l h,uF h n,aW l n with
        | true,true,true=>some (.s j (off+l) (h-l) (n-l))
        | _,_,_=>none
      | _,_=>none
    | _,_=>none
  | .sliceToArrayPointer t x=>match aP E x,O1 t with
    | some (.s j off n _),some m=>match uF m n with
      | true=>some (.a j off)
      | false=>none
    | _,_=>none
  | _=>none
def Io{E:aG}{N:Nat}{o:yk}{v:aq}(h:Pg E o.op=some v):v.aI/\∀(G:aK) (a:Act) (w:yp),Fr N (bG G E) a->(execOp a.eval o).run prog w = .ok (.value (v.den G)) w:=by
 obtain⟨dst,op,ty,pos,af,gd⟩:=o;dsimp only at h;unfold Pg at h;split at h
 .rename_i op t x y _
  split at h
  .rename_i K m K' n hx hy
   have go:∀u:yl,(∀w,(binOp op t (.int K m) (.int K' n)).run prog w = .ok u w)->op ≠ .eql->op ≠ .neq->∀(G:aK) (a:Act) (w:yp),Fr N (bG G E) a->(execOp a.eval (⟨dst,.binOp op t x y ‹_›,ty,pos,af,gd⟩:yk)).run prog w = .ok (.value ((aq.v u).den G)) w:=λu hu h1 h2 G a w ha=>by have e1:=ha.eval (bH (G:=G) hx);have e2:=ha.eval (bH (G:=G) hy);unfold execOp;simp only [e1,e2,aq.den,aL.den,eK.den];cases op<;>first|(exact absurd rfl h1)|(exact absurd rfl h2)|simp [eqGuard,hu]
   split at h
   .rename_i h1;cases h;obtain rfl:=OJ h1;exact⟨trivial,go _ (λw=>azV) (by simp) (by simp)⟩
   .rename_i h1;cases h;obtain rfl:=OJ h1;exact⟨trivial,go _ (λw=>aAC) (by simp) (by simp)⟩
   .rename_i h1;cases h;obtain rfl:=OJ h1;exact⟨trivial,go _ (λw=>aAL) (by simp) (by simp)⟩
   .cases h;exact⟨trivial,go _ (λw=>by simp only [binOp,Op.shift];rw [if_neg (by simp)];rfl) (by simp) (by simp)⟩
   .cases h;exact⟨trivial,go _ (λw=>by simp only [binOp,Op.shift];rw [if_neg (by simp)];rfl) (by simp) (by simp)⟩
   .cases h
  .cases h
 .rename_i t x
  split at h
  .rename_i K n hx;cases h;refine⟨trivial,λG a w ha=>?_⟩;have e1:=ha.eval (bH (G:=G) hx);unfold execOp;simp only [e1,aq.den,aL.den,eK.den];cases K<;>go_simp
  .cases h
 .rename_i t x lo hi
  split at h
  .rename_i j off n hx hn
   split at h
   .rename_i l m hl hm
    split at h
    .rename_i c1 c2 c3
     cases h;refine⟨trivial,λG a w ha=>?_⟩;obtain⟨e,ht,he⟩:=abC hn;have e1:a.eval x = .pointer (some ⟨G j,off,none⟩):=ha.eval (bH hx);have go:∀{y:Option yo} {q d:Nat},Jw E y d=some q->y.map a.eval=none/\q=d\/∃K,y.map a.eval=some (.int K (q:Int)):=λh=>by
      rcases alS h with⟨rfl,h9⟩|⟨u,K,rfl,h9⟩
      .exact .inl ⟨rfl,h9⟩
      .exact .inr ⟨K,congrArg some (ha.eval (bH h9))⟩
     have hr:=afF (P:=prog) (g:=G j) (off:=off) ht he (go hl) (go hm) (cL c1) (cL c2) (cL c3) w;unfold execOp;simp only [e1,Option.map_none,hr,bI,bM,bS];rfl
    .cases h
   .cases h
  .cases h
 .rename_i t x
  split at h
  .rename_i j off n c m hx hm
   split at h
   .rename_i c1;cases h;refine⟨trivial,λG a w ha=>?_⟩;obtain⟨e,ht,he⟩:=abC hm;have e1:a.eval x = .slice (some ⟨G j,off,none⟩) n c:=ha.eval (bH hx);have hu:=run_underlying (P:=prog) ht (w:=w);unfold execOp;simp only [e1,Instr.arrayAt,bI,hu,bS];rw [if_neg (Nat.not_lt.2 (cL c1))];rfl
   .cases h
  .cases h
 .cases h
def z5(ops:aZ)(N:Nat):Nat->aN->aG->aH->aN×aG×aH
  | 0,l,E,L=>oL jx ops N l E L
  | f+1,l,E,L=>match oL jx ops N l E L with
    | (o::l',E',L')=>match o.guard,o.dst,Pg E' o.op with
      | none,some k,some v=>match aW k N with
        | true=>z5 ops N f l' ((k,v)::E') L'
        | false=>(o::l',E',L')
      | _,_,_=>(o::l',E',L')
    | ([],E',L')=>([],E',L')
def BC(ops:aZ)(N:Nat)(L:aH):Nat->aN->aG->aN×aG
  | 0,l,E=>Ei jx ops N L l E
  | f+1,l,E=>match Ei jx ops N L l E with
    | (o::l',E')=>match o.guard,o.dst,Pg E' o.op with
      | none,some k,some v=>match aW k N with
        | true=>BC ops N L f l' ((k,v)::E')
        | false=>(o::l',E')
      | _,_,_=>(o::l',E')
    | ([],E')=>([],E')
section
variable{b:bO}{ops:aZ}{Q:bK}{N:Nat}{G:aK}{S:cn}{R:bF}{F M:aE}{w0:yp}{Z:Act->Prop}
theorem XC:∀{f:Nat} {l:aN} {E:aG} {L:aH},a9 prog b ops Q N (z5 ops N f l E L).1 ⟨(z5 ops N f l E L).2.1,(z5 ops N f l E L).2.2,R,F,M⟩->a9 prog b ops Q N l ⟨E,L,R,F,M⟩
 | 0,_,_,_,h=>CV an h
 | f+1,l,E,L,h=>by
  unfold z5 at h;refine CV an ?_;split at h
  .rename_i o l' E' L' e
   rw [e];split at h
   .rename_i k v hg hd ab
    split at h
    .rename_i hk;exact b6 v (ab:=(Io (N:=N) ab).1) (lu hg hd hk) (Io ab).2 (XC h)
    .exact h
   .exact h
  .rename_i E' L' e;rw [e];exact h
theorem XD{L:aH}(aa:bj b G S L R F M w0):∀{f:Nat} {l:aN} {E:aG},jK E->gB prog ops N w0 Z G (BC ops N L f l E).1 (BC ops N L f l E).2->gB prog ops N w0 Z G l E
 | 0,_,_,hE,h=>RN an aa hE h
 | f+1,l,E,hE,h=>by
  unfold BC at h;refine AQ an aa rfl ?_;split at h
  .rename_i o l' E' e
   rw [e];split at h
   .rename_i k v hg hd ab
    split at h
    .rename_i hk;exact vH aa v (ab:=(Io (N:=N) ab).1) (lu hg hd hk) (Io ab).2 λhE'=>XD aa hE' h hE'
    .exact h
   .exact h
  .rename_i E' e;rw [e];exact h
def dP{l l':aN}{E E':aG}{L L':aH}(h:z5 ops N l.length l E L=(l',E',L'))(hn:a9 prog b ops Q N l' ⟨E',L',R,F,M⟩):a9 prog b ops Q N l ⟨E,L,R,F,M⟩:=XC (by rw [h];exact hn)
def cw{L:aH}(aa:bj b G S L R F M w0){l l':aN}{E E':aG}(h:BC ops N L l.length l E=(l',E'))(hn:gB prog ops N w0 Z G l' E'):gB prog ops N w0 Z G l E:=λhE=>XD aa hE (by rw [h];exact hn) hE
end
def Jy(N:Nat)(E:aG)(o:yk):Option (Nat×yi×nH):=match o.guard,o.dst,o.op with
  | none,some k,.call { callee:=.value (.func f),args:=xs,argTypes:=_ }=>match aW k N with
    | true=>match lg E xs.toList with
      | some vs=>some (k,f,vs)
      | none=>none
    | false=>none
  | _,_,_=>none
def Jz{N:Nat}{E:aG}{o:yk}{k:Nat}{f:yi}{vs:nH}(h:Jy N E o=some (k,f,vs)):o.guard=none/\o.dst=some k/\aW k N=true/\∃xs ats,o.op = .call { callee:=.value (.func f),args:=xs,argTypes:=ats }/\lg E xs.toList=some vs:=by
 unfold Jy at h;split at h
 .rename_i k' f' xs ats hg hd ho
  split at h
  .rename_i hk
   split at h
   .rename_i us hu;injection h with h;injection h with h1 h;injection h with h2 h3;subst h1 h2 h3;exact⟨hg,hd,hk,xs,ats,ho,hu⟩
   .cases h
  .cases h
 .cases h
def Px(ops:aZ)(N:Nat)(L:aH)(l:aN)(E:aG):Option (aN×aG×Nat×yi×nH):=match BC ops N L l.length l E with
  | (o::l',E')=>match Jy N E' o with
    | some (k,f,vs)=>some (l',E',k,f,vs)
    | none=>none
  | _=>none
def Pw(ops:aZ)(N:Nat)(l:aN)(E:aG)(L:aH):Option (aN×aG×aH×Nat×yi×nH):=match z5 ops N l.length l E L with
  | (o::l',E',L')=>match Jy N E' o with
    | some (k,f,vs)=>some (l',E',L',k,f,vs)
    | none=>none
  | _=>none
structure cV{α:Type}(F:aE)(f:yi)(qs:oG)(post:fm α):Prop where
  own:Own f
  spec:Spec f (qs.map aL.den) [] F post
section
variable{b:bO}{ops:aZ}{Q:bK}{N:Nat}{G:aK}{S:cn}{E E':aG}{L L':aH}{R:bF}{F M:aE}{w0:yp}{Z:Act->Prop}{l l':aN}{k:Nat}{α:Type}{post:fm α}{f:yi}{qs:oG}
def Sb(qs:oG)(G:aK):(qs.map aq.q).map (aq.den G)=qs.map aL.den:=by rw [List.map_map];rfl
def bR[dc F](aa:bj b G S L R F M w0)(c:cV F f qs post)(h:Px ops N L l E=some (l',E',k,f,qs.map aq.q))(hn:∀x,gB prog ops N w0 Z G l' ((k,(post.ret x).eJ)::E')):gB prog ops N w0 Z G l E:=by
 unfold Px at h;split at h
 .rename_i o l2 E2 h2
  split at h
  .rename_i k2 f2 v2 h3
   simp only [iv,nS] at h;obtain⟨rfl,rfl,rfl,rfl,rfl⟩:=h;obtain⟨hg,hd,hk,xs,ats,ho,hx⟩:=Jz h3;refine cw aa h2 λhE=>?_;refine ao1 (qs.map aL.den).toArray (λv=>∃x,(post.ret x).eJ.aI/\v=(post.ret x).den) (lu hg hd hk) c.own (λw hw=>(c.spec w (λ_=>False) (λ_=>False) (λ_ h=>h) (λ_ h=>h.elim) (iu.DM (aa.later hw).view.fact λ_ _ h=>h.elim id id)).mono ?_) ho (by rw [vh hx,Sb]) ?_
   .rintro e w2 ⟨x,_,h1,h2,h3,_⟩;exact⟨_,h1,⟨x,h2,rfl⟩,h3.up λ_ _ h=>h⟩
   .rintro _ ⟨x,hx,rfl⟩;have h:=hn x (hE.cons hx);rw [show bG G ((k2,(post.ret x).eJ)::E2)=(k2,(post.ret x).den)::bG G E2 by rw [bG,cM.ql]] at h;exact h
  .cases h
 .cases h
def cX(c:cV F f qs post)(ho:∀x,post.own x=[])(h:Pw ops N l E L=some (l',E',L',k,f,qs.map aq.q))(hn:∀x,a9 prog b ops Q N l' ⟨(k,(post.ret x).eJ)::E',L',R,F,M⟩):a9 prog b ops Q N l ⟨E,L,R,F,M⟩:=by
 unfold Pw at h;split at h
 .rename_i o l2 E2 L2 h2
  split at h
  .rename_i k2 f2 v2 h3;simp only [iv,nS] at h;obtain⟨rfl,rfl,rfl,rfl,rfl,rfl⟩:=h;obtain⟨hg,hd,hk,xs,ats,ho',hx⟩:=Jz h3;refine dP h2 (Uq (own:=[]) (qs.map aL.den) hg hd hk c.own ho' hx (λG _=>Sb qs G) c.spec (λw h _=>h) λx=>?_);rw [ho x];exact λa w ⟨G,S,h1,h2,h3⟩=>hn x a w ⟨G,S,h1,h2,{ h3 with fact:=h3.fact.imp λ_ h=>h.2,fresh:=h3.fresh.imp λ_ h=>h.2 }⟩
  .cases h
 .cases h
end
def zO(t:yn):cJ:=match ka jx t with
  | some r=>r.zero
  | none=>[]
def tT(us:List (Nat×yn)):lV:=us.map λu=>⟨u.1,u.2,a7 (zO u.2)⟩
def PB(N:Nat):aN->List (Nat×yn)->Bool
  | _,[]=>true
  | [],_::_=>false
  | o::l,u::us=>match o.guard,o.dst,o.op with
    | none,some k,.alloc t=>b9 k u.1&&aW k N&&b9 t u.2&&(ka jx t).isSome&&PB N l us
    | _,_,_=>false
theorem Rp{t:yn}(h:(ka jx t).isSome=true):∃r,ka jx t=some r/\r.ok prog/\r.t=t/\zO t=r.zero:=by
 unfold zO;cases hr:ka jx t with
 | none=>rw [hr] at h;cases h
 | some r=>exact⟨r,rfl,(oX an hr).1,(oX an hr).2,rfl⟩
theorem UR{N:Nat}:∀{l:aN} {us:List (Nat×yn)},PB N l us=true->Iq prog N l (tT us)
 | _,[],_=>by unfold tT;simp [Iq]
 | [],_::_,h=>by cases h
 | o::l,u::us,h=>by
  unfold PB at h;split at h
  .rename_i k t hg hd ho;simp only [dJ] at h;obtain⟨⟨⟨⟨h1,h2⟩,h3⟩,h4⟩,h5⟩:=h;obtain rfl:=gq h1;obtain rfl:=gq h3;obtain⟨r,hr,bx,ht,hz⟩:=Rp h4;obtain⟨it,d,h6,h7,h8,h9,_⟩:=bx.info;refine⟨⟨hg,hd,h2,ho,?_⟩,UR h5⟩;show(prog.info? u.2).bind _=some (a7 (zO u.2));rw [hz,<-ht,h6,Option.bind_some,h9]
  .cases h
def Pt(N n:Nat)(l:aN)(us:List (Nat×yn)):Bool:=uF (n+us.length) l.length&&vO (tT us)&&PB N (l.drop n) us&&Bj l.toArray n us.length (l.drop (n+us.length)).length&&FJ l.toArray n (marks us.length n (marks n 0 (bD l.toArray.size false))) us.length (dV us.length) (marks n 0 (bD l.toArray.size false))
def QK:List (Nat×yn)->aN->Option (List yo×aN)
  | [],T=>some ([],T)
  | u::us,o::T=>match o.guard,o.dst,o.op with
    | none,none,.store t (.tmp k) y=>match b9 t u.2,b9 k u.1,QK us T with
      | true,true,some (xs,T2)=>some (y::xs,T2)
      | _,_,_=>none
    | _,_,_=>none
  | _,[]=>none
theorem agR:∀{us:List (Nat×yn)} {T T2:aN} {xs:List yo},QK us T=some (xs,T2)->Mp (tT us) xs T T2
 | [],_,_,_,h=>by cases h;rfl
 | _::_,[],_,_,h=>by cases h
 | u::us,o::T,T2,xs,h=>by
  unfold QK at h;split at h
  .rename_i t k y hg hd ho
   split at h
   .rename_i ys T3 h1 h2 h3;cases h;obtain rfl:=gq h1;obtain rfl:=gq h2;exact⟨⟨hg,hd,ho⟩,agR h3⟩
   .cases h
  .cases h
def Pc(E:aG):List (Nat×yn)->List yo->Option aH
  | [],[]=>some []
  | u::us,x::xs=>match aP E x,Pc E us xs with
    | some (.q (.p ai)),some vs=>match b9 (jY ai) (jY (zO u.2)),(ka jx u.2).isSome,dG E u.1 with
      | true,true,none=>some (⟨u.1,none,u.2,ai⟩::vs)
      | _,_,_=>none
    | _,_=>none
  | _,_=>none
theorem abZ{E:aG}(hE:jK E)(G:aK):∀{us:List (Nat×yn)} {xs:List yo} {vs:aH},Pc E us xs=some vs->FM vs (us.map λu=>a7 (zO u.2))=tT us/\vs.length=us.length/\(∀v∈vs,ch v.ai)/\nh (bG G E) (tT us)/\Gj prog (bG G E) (tT us) xs (vs.map λv=>a7 v.ai)
 | [],[],_,h=>by cases h;exact⟨rfl,rfl,(λ_ h=>by cases h),trivial,trivial⟩
 | [],_::_,_,h=>by cases h
 | _::_,[],_,h=>by cases h
 | u::us,x::xs,vs,h=>by
  unfold Pc at h;split at h
  .rename_i ai ws h1 h2
   split at h
   .rename_i h3 h4 h5
    cases h;obtain⟨e1,e2,e3,e4,e5⟩:=abZ hE G h2;obtain⟨r,hr,bx,ht,hz⟩:=Rp h4;obtain⟨it,d,h6,h7,h8,h9,_⟩:=bx.info;have hp:ch ai:=hE.dy h1;have hs:jY ai=jY r.zero:=hz▸gq h3;refine⟨congrArg (_ :: ·) e1,congrArg (· + 1) e2,λv ab=>?_,⟨by rw [ou,h5];rfl,e4⟩,⟨⟨bH h1,?_,?_,λv ab=>hp.one v ab⟩,e5⟩⟩
    .rcases bT.1 ab with rfl|ab
     .exact hp
     .exact e3 v ab
    .show(a7 (zO u.2)).size=(a7 ai).size;rw [hz,bx.2.size,hp.size,hs]
    .show(prog.info? u.2).map (·.size)=some (a7 ai).size;rw [<-ht,h6,hp.size,hs,<-h8];rfl
   .cases h
  .cases h
def Yq(ops:aZ)(N:Nat)(us:List (Nat×yn))(L:aH)(T' l:aN)(E:aG):Option (aG×aH):=match BC ops N L l.length l E with
  | ([],E1)=>match QK us T' with
    | some (xs,T2)=>match Pc E1 us xs with
      | some vs=>match vl E1 L vs with
        | true=>match z5 ops N T2.length T2 (IF vs E1) (vs++L) with
          | ([],E2,L2)=>some (E2,L2)
          | _=>none
        | false=>none
      | none=>none
    | none=>none
  | _=>none
section
variable{b:bO}{Q:bK}{N:Nat}{G:aK}{S:cn}{E E' E2:aG}{L L' L2:aH}{R:bF}{F M:aE}{w0:yp}{T' l:aN}{id:Nat}{y:Code}{ops:aZ}{K:fg}
def eU(n:Nat)(us:List (Nat×yn))
 (h:∀K:fg,(∀e',cN prog b y Q N e'->cl b K N e')->∀G S w0,bj b G S L R F M w0->gB prog l.toArray N w0 (DL prog l.toArray (NoPanic (Exit.then K Q)) w0 (tT us) (l.drop (n+us.length)) N) G (l.take n) E)(aF:Pt N n l us=true:=by kernel_rfl):cN prog b (.seq (.region id l.toArray true) y) Q N ⟨E,L,R,F,M⟩:=by
 unfold Pt at aF
 simp only [dJ] at aF;obtain⟨⟨⟨⟨h1,h2⟩,h3⟩,h4⟩,h5⟩:=aF
 have hl:(tT us).length=us.length:=by simp [tT]
 rw [<-hl] at h1 h4 h5 h;exact VW n (tT us) (cL h1) h2 (UR h3) rfl h4 h5 h
def fz{us:List (Nat×yn)}(aa:bj b G S L R F M w0)(iC:vO (tT us)=true)(hK:∀e',cN prog b y Q N e'->cl b K N e')(h:Yq ops N us L T' l E=some (E2,L2))(hn:cN prog b y Q N ⟨E2,L2,R,F,M⟩):gB prog ops N w0 (DL prog ops (NoPanic (Exit.then K Q)) w0 (tT us) T' N) G l E:=by
 unfold Yq at h;split at h
 .rename_i E1 h1
  split at h
  .rename_i xs T2 h2
   split at h
   .rename_i vs h3
    split at h
    .rename_i h4
     split at h
     .rename_i E3 L3 h5;cases h;refine cw aa h1 λhE=>?_;obtain⟨e1,e2,e3,e4,e5⟩:=abZ hE G h3;exact Ps aa vs _ xs e1 (by rw [e2,dL]) h4 e3 e4 iC (agR h2) e5 (dP h5 (ah (hK _ hn))) hE
     .cases h
    .cases h
   .cases h
  .cases h
 .cases h
def kz{l:aN}{ops:aZ}(h:z5 ops N l.length l E L=([],E2,L2))(hn:cl b (Q .normal) N ⟨E2,L2,R,F,M⟩):a9 prog b ops Q N l ⟨E,L,R,F,M⟩:=dP h (ah hn)
def cR(hK:∀e',cN prog b y Q N e'->cl b K N e')(h:z5 ops N l.length l E L=([],E2,L2))(hn:cN prog b y Q N ⟨E2,L2,R,F,M⟩):a9 prog b ops (Exit.then K Q) N l ⟨E,L,R,F,M⟩:=dP h (ah (hK _ hn))
end
section
variable{P:ym}{b:bO}{ops:aZ}{Q:bK}{N:Nat}{E:aG}{L:aH}{R:bF}{F M:aE}{o:yk}{rest:aN}{k:Nat}
theorem axK{G:aK}(l:List (Nat×yo))(m:List (Nat×eK))(h:l.map (λp=>(p.1,aP E p.2))=m.map λx=>(x.1,some (.q (.c x.2)))):l.map (λp=>(p.1,dy (bG G E) p.2))=(m.map λx=>(x.1,x.2.den)).map λx=>(x.1,some x.2):=by
 induction l generalizing m with
 | nil=>cases m<;>simp_all
 | cons p l ih =>
  cases m with
  | nil=>simp at h
  | cons x m =>
   simp only [eZ,BM,nS] at h ⊢;exact⟨⟨h.1.1,bH h.1.2⟩,ih m h.2⟩
def Up{t:yn}{parts:Array (Nat×yo)}(n:Nat)(l:ae)(hq:di o k N)(ho:o.op = .build t parts)(ab:parts.toList.map (λp=>(p.1,aP E p.2))=(l.zipIdx.map λx=>(x.2,eK.v (.int .u8 (x.1.toNat:Int)))).map λx=>(x.1,some (.q (.c x.2))))
 (hb:P.built t ((l.zipIdx.map λx=>(x.2,eK.v (.int .u8 (x.1.toNat:Int)))).map λx=>(x.1,x.2.den))=some (By l).toArray)(hl:l.length=n)(hn:a9 P b ops Q N rest ⟨(k,.q (aw n l))::E,L,R,F,M⟩):a9 P b ops Q N (o::rest) ⟨E,L,R,F,M⟩ :=
 zn (.q (aw n l)) (cq hl).1 (λG S w C0 Q' _ _ hQ=>C3 _ _ hq ho (axK _ _ ab) hb hQ) (by rw [ho];rfl) hn
end
structure zY where
  k1:Nat
  k2:Nat
  j:Nat
  off:Nat
  i:Nat
  t:yn
  ai:cJ
  K:yj:=.u8
  m:Int:=0
def Fk(N:Nat)(E:aG)(L:aH)(o:yk):Option zY:=match o.guard,o.dst,o.op with
  | none,some k,.indexAddr t x y=>match aP E x,aP E y,aW k N with
    | some (.a j off),some (.q (.c (.v (.int _ (.ofNat i))))),true=>match mJ L j with
      | some ai=>some { k1:=k,k2:=0,j:=j,off:=off,i:=i,t:=t,ai:=ai }
      | none=>none
    | _,_,_=>none
  | _,_,_=>none
def OO{N:Nat}{E:aG}{L:aH}{o:yk}{u:zY}(h:Fk N E L o=some u):o.guard=none/\o.dst=some u.k1/\aW u.k1 N=true/\mJ L u.j=some u.ai/\∃x y K,o.op = .indexAddr u.t x y/\aP E x=some (.a u.j u.off)/\aP E y=some (.v (.int K (u.i:Int))):=by
 unfold Fk at h;split at h
 .rename_i k t x y hg hd ho
  split at h
  .rename_i j off K i hx hy hk
   split at h
   .rename_i ai hl;cases h;exact⟨hg,hd,hk,hl,x,y,K,ho,hx,hy⟩
   .cases h
  .cases h
 .cases h
def O0(N:Nat)(E:aG)(L:aH)(o1 o2:yk):Option zY:=match Fk N E L o1,o2.guard,o2.dst,o2.op with
  | some u,none,some k,.load e (.tmp z)=>match b9 z u.k1,aW k N,ka jx e with
    | true,true,some r=>match r.kind with
      | 0=>some { u with k2:=k }
      | _=>none
    | _,_,_=>none
  | _,_,_,_=>none
def ab7{N:Nat}{E:aG}{L:aH}{o1 o2:yk}{u:zY}(h:O0 N E L o1 o2=some u):∃u0:zY,Fk N E L o1=some u0/\u={ u0 with k2:=u.k2 }/\o2.guard=none/\o2.dst=some u.k2/\aW u.k2 N=true/\∃e d,o2.op = .load e (.tmp u0.k1)/\prog.underlying e=some d/\d.isRow=false:=by
 unfold O0 at h;split at h
 .rename_i u0 k e z h0 hg hd ho
  split at h
  .rename_i r hz hk hr
   split at h
   .rename_i h9;cases h;obtain rfl:=gq hz;obtain⟨h1,h2⟩:=oX an hr;obtain⟨it,d,_,h4,_,_,h7,_⟩:=h1.info;exact⟨u0,h0,rfl,hg,hd,hk,e,d,ho,h2▸h4,aaT (h7.trans h9)⟩
   .cases h
  .cases h
 .cases h
def WW(N:Nat)(E:aG)(L:aH)(o1 o2:yk):Option zY:=match Fk N E L o1,o2.guard,o2.dst,o2.op with
  | some u,none,none,.store e (.tmp z) y=>match b9 z u.k1,aP E y,ka jx e with
    | true,some (.q (.c (.v (.int K m)))),some r=>match b9 (jY r.zero) 1,dG E u.k1 with
      | true,none=>some { u with K:=K,m:=m }
      | _,_=>none
    | _,_,_=>none
  | _,_,_,_=>none
def aFY{N:Nat}{E:aG}{L:aH}{o1 o2:yk}{u:zY}(h:WW N E L o1 o2=some u):∃u0:zY,Fk N E L o1=some u0/\u={ u0 with K:=u.K,m:=u.m }/\o2.guard=none/\o2.dst=none/\dG E u0.k1=none/\∃e y,o2.op = .store e (.tmp u0.k1) y/\aP E y=some (.v (.int u.K u.m))/\(prog.info? e).map (·.size)=some 1:=by
 unfold WW at h;split at h
 .rename_i u0 e z y h0 hg hd ho
  split at h
  .rename_i K m r hz hy hr
   split at h
   .rename_i h9 hl;cases h;obtain rfl:=gq hz;obtain⟨h1,h2⟩:=oX an hr;obtain⟨it,d,h3,_,h5,_⟩:=h1.info;exact⟨u0,h0,rfl,hg,hd,hl,e,y,ho,hy,by rw [<-h2,h3,kF,h5,gq h9]⟩
   .cases h
  .cases h
 .cases h
def auB{E:aG}{k j:Nat}{v:aq}(h:b9 k j=false):dG ((k,v)::E) j=dG E j:=by rw [dG,h]
theorem Yw{E:aG}{k:Nat}{v u:aq}{x:yo}(hk:dG E k=none)(h:aP E x=some u):aP ((k,v)::E) x=some u:=by
 cases x with
 | tmp j =>
  have h:dG E j=some u:=h
  cases hb:b9 k j with
  | false=>exact(auB hb).trans h
  | true =>
   rw [<-gq hb,hk] at h
   cases h
 | _=>exact h
section
variable{b:bO}{ops:aZ}{Q:bK}{N n:Nat}{G:aK}{S:cn}{E:aG}{L:aH}{R:bF}{F M:aE}{w0:yp}{Z:Act->Prop}{rest:aN}{o1 o2:yk}{u:zY}
def lp(h:O0 N E L o1 o2=some u)(ha:rX u.t n)(hi:u.i<n)(v:yl)(ab:(a7 u.ai)[u.off+u.i]?=some v)(hn:a9 prog b ops Q N rest ⟨(u.k2,.v v)::(u.k1,.a u.j (u.off+u.i))::E,L,R,F,M⟩):a9 prog b ops Q N (o1::o2::rest) ⟨E,L,R,F,M⟩:=by obtain⟨u0,h0,hu0,hg,hd,hk,e,d,ho,hu,hr⟩:=ab7 h;rw [hu0] at ha hi ab hn;dsimp only at ha hi ab hn;obtain⟨hg1,hd1,hk1,hl,x,y,K,ho1,hx,hy⟩:=OO h0;obtain⟨te,ht,he⟩:=ha;refine b6 (.a u0.j (u0.off+1*u0.i)) (lu hg1 hd1 hk1) (eO u0.i ho1 ht he hx hy hi) ?_;rw [qI];exact jq (.v v) (lu hg hd hk) (jV v ho (by show dG ((u0.k1,_)::E) u0.k1=_;unfold dG;rw [IH]) hl ab hu hr) hn
def g8(aa:bj b G S L R F M w0)(h:O0 N E L o1 o2=some u)(ha:rX u.t n)(hi:u.i<n)(v:yl)(ab:(a7 u.ai)[u.off+u.i]?=some v)(hn:gB prog ops N w0 Z G rest ((u.k2,.v v)::(u.k1,.a u.j (u.off+u.i))::E)):gB prog ops N w0 Z G (o1::o2::rest) E:=by obtain⟨u0,h0,hu0,hg,hd,hk,e,d,ho,hu,hr⟩:=ab7 h;rw [hu0] at ha hi ab hn;dsimp only at ha hi ab hn;obtain⟨hg1,hd1,hk1,hl,x,y,K,ho1,hx,hy⟩:=OO h0;obtain⟨te,ht,he⟩:=ha;refine vH aa (.a u0.j (u0.off+1*u0.i)) (lu hg1 hd1 hk1) (eO u0.i ho1 ht he hx hy hi) ?_;rw [qI];exact AR aa (.v v) (lu hg hd hk) (jV v ho (by show dG ((u0.k1,_)::E) u0.k1=_;unfold dG;rw [IH]) hl ab hu hr) hn
def zo(h:WW N E L o1 o2=some u)(ha:rX u.t n)(hi:u.i<n)(ps':cJ)(hp:ch ps')(al:u.off+u.i<(a7 u.ai).size)(hs:(a7 ps').toList=(a7 u.ai).toList.set (u.off+u.i) (.int u.K u.m))(hn:a9 prog b ops Q N rest ⟨(u.k1,.a u.j (u.off+u.i))::E,rj L u.j ps',R,F,M⟩):a9 prog b ops Q N (o1::o2::rest) ⟨E,L,R,F,M⟩:=by obtain⟨u0,h0,hu,hg,hd,hl,e,y',ho,hy',he1⟩:=aFY h;rw [hu] at ha hi al hs hn;dsimp only at ha hi al hs hn;obtain⟨hg1,hd1,hk1,Kw,x,y,K,ho1,hx,hy⟩:=OO h0;obtain⟨te,ht,he⟩:=ha;refine b6 (.a u0.j (u0.off+1*u0.i)) (lu hg1 hd1 hk1) (eO u0.i ho1 ht he hx hy hi) ?_;rw [qI];exact tC ps' hg hd ho (by show dG ((u0.k1,_)::E) u0.k1=_;unfold dG;rw [IH]) (Yw hl hy') Kw he1 rfl rfl al hp hs hn
def Pr(aa:bj b G S L R F M w0)(h:Fk N E L o1=some u)(ha:rX u.t n)(hi:u.i<n)(hn:gB prog ops N w0 Z G rest ((u.k1,.a u.j (u.off+u.i))::E)):gB prog ops N w0 Z G (o1::rest) E:=by obtain⟨hg1,hd1,hk1,hl,x,y,K,ho1,hx,hy⟩:=OO h;obtain⟨te,ht,he⟩:=ha;refine vH aa (.a u.j (u.off+1*u.i)) (lu hg1 hd1 hk1) (eO u.i ho1 ht he hx hy hi) ?_;rw [qI];exact hn
def stC(E:aG)(L:aH)(o:yk):Option zY:=match o.guard,o.dst,o.op with
  | none,none,.store e x y=>match aP E x,aP E y,ka jx e with
    | some (.a j off),some (.q (.c (.v (.int K m)))),some r=>match b9 (jY r.zero) 1,mJ L j with
      | true,some ai=>some { k1:=0,k2:=0,j:=j,off:=off,i:=0,t:=e,ai:=ai,K:=K,m:=m }
      | _,_=>none
    | _,_,_=>none
  | _,_,_=>none
def OY(h:stC E L o1=some u)(ps':cJ)(hp:ch ps')(al:u.off<(a7 u.ai).size)(hs:(a7 ps').toList=(a7 u.ai).toList.set u.off (.int u.K u.m))(hn:a9 prog b ops Q N rest ⟨E,rj L u.j ps',R,F,M⟩):a9 prog b ops Q N (o1::rest) ⟨E,L,R,F,M⟩:=by
 unfold stC at h;split at h
 .rename_i e x y hg hd ho
  split at h
  .rename_i j off K m r hx hy hr
   split at h
   .rename_i ai h9 hl;cases h;obtain⟨h1,h2⟩:=oX an hr;obtain⟨it,d,h3,_,h5,_⟩:=h1.info;exact tC ps' hg hd ho hx hy hl (by rw [<-h2,h3,kF,h5,gq h9]) rfl rfl al hp hs hn
   .cases h
  .cases h
 .cases h
def auS{l:aN}(k:Nat){v:aq}(v':aq)(h:dG E k=some v)(he:v=v')(hn:gB prog ops N w0 Z G l ((k,v')::E)):gB prog ops N w0 Z G l E:=λhE=>by subst he;exact λa ha=>hn (hE.cons (hE.get h)) a (ha.more (ha.get k _ (by rw [ou,h];rfl)))
def fb{l:aN}(k:Nat){K:yj}{m:Int}(n:Int)(h:dG E k=some (.v (.int K m)))(he:m=n)(hn:gB prog ops N w0 Z G l ((k,.v (.int K n))::E)):gB prog ops N w0 Z G l E:=auS k _ h (by rw [he]) hn
def w7{l:aN}{id:Nat}(n:Nat)(h:∀G S w0,bj b G S L R F M w0->gB prog l.toArray N w0 (DL prog l.toArray (NoPanic Q) w0 (tT []) (l.drop n) N) G (l.take n) E)(aF:Pt N n l []=true:=by kernel_rfl):cN prog b (.region id l.toArray true) Q N ⟨E,L,R,F,M⟩:=by unfold Pt at aF;simp only [dJ] at aF;obtain⟨⟨⟨⟨h1,_⟩,h3⟩,h4⟩,h5⟩:=aF;exact λa w ⟨G,S,g1,g2,g3⟩=>wp_region_noPanic (XO n (tT []) (cL h1) rfl (UR h3) rfl h4 h5 (λ_ _ _ _ _ h=>h) (h G S w g3 g2) a g1)
def sS(aa:bj b G S L R F M w0){T':aN}{l:aN}{E2:aG}(h:BC ops N L l.length l E=([],E2))(hn:a9 prog b ops Q N T' ⟨E2,L,R,F,M⟩):gB prog ops N w0 (DL prog ops Q w0 (tT []) T' N) G l E :=
 cw aa h (Ps aa [] [] [] rfl rfl rfl (λ_ h=>by cases h) trivial rfl rfl trivial hn)
end
def ahF(N n:Nat)(t:Tmp)(t2:Tmp)(ty:yn)(l:aN):Option (yo×yo):=match l.drop n with
  | [oa,os,ot]=>match oa.guard,oa.dst,oa.op,os.guard,os.dst,os.op with
    | none,some k,.alloc ty1,none,none,.store ty2 (.tmp k2) x=>match ot.guard,ot.dst,ot.op with
      | none,some k3,.assign y=>match b9 k t&&b9 ty1 ty&&b9 ty2 ty&&b9 k2 t&&b9 k3 t2&&uF n l.length&&aW t N&&aW t2 N&&(ka jx ty).isSome&&iK l.toArray&&EK .any l.toArray n l 0&&chainB .any l 0 none&&decide (bC .any l.toArray (marks n 0 (bD l.toArray.size false))=[n])&&decide (bC .any l.toArray ((marks n 0 (bD l.toArray.size false)).setIfInBounds n true)=[n+1])&&decide (bC .any l.toArray (((marks n 0 (bD l.toArray.size false)).setIfInBounds n true).setIfInBounds (n+1) true)=[n+2])&&decide (bC .any l.toArray ((((marks n 0 (bD l.toArray.size false)).setIfInBounds n true).setIfInBounds (n+1) true).setIfInBounds (n+2) true)=[]) with
        | true=>some (x,y)
        | false=>none
      | _,_,_=>none
    | _,_,_,_,_,_=>none
  | _=>none
section
variable{b:bO}{Q:bK}{N:Nat}{G:aK}{S:cn}{E E':aG}{L:aH}{R:bF}{F M:aE}{w0:yp}{l:aN}{id:Nat}{y:Code}{ops:aZ}{K:fg}{t t2:Tmp}{ty:yn}{x z:yo}{ai:cJ}{q:aL}
def s_T(n:Nat)(t t2:Tmp)(ty:yn)(aF:ahF N n t t2 ty l=some (x,z))
 (h:∀K:fg,(∀e',cN prog b y Q N e'->cl b K N e')->∀G S w0,bj b G S L R F M w0->gB prog l.toArray N w0 (Mu prog (NoPanic (Exit.then K Q)) w0 t t2 ty x z (a7 (zO ty)).size) G (l.take n) E):cN prog b (.seq (.region id l.toArray true) y) Q N ⟨E,L,R,F,M⟩:=by
 unfold ahF at aF
 split at aF
 .rename_i oa os ot hl
  split at aF
  .rename_i k ty1 ty2 k2 x1 h1 h2 h3 h4 h5 h6
   split at aF
   .rename_i k3 y1 h7 h8 h9
    split at aF
    .rename_i hc
     simp only [iv,nS] at aF;obtain⟨rfl,rfl⟩:=aF;simp only [dJ,decide_eq_true_eq] at hc;obtain⟨⟨⟨⟨⟨⟨⟨⟨⟨⟨⟨⟨⟨⟨⟨e1,e2⟩,e3⟩,e4⟩,e5⟩,e6⟩,_⟩,_⟩,e9⟩,e10⟩,e11⟩,e12⟩,e13⟩,e14⟩,e15⟩,e16⟩:=hc;obtain rfl:=gq e1;obtain rfl:=gq e2;obtain rfl:=gq e3;obtain rfl:=gq e4;obtain rfl:=gq e5;have Ap:l=l.take n++[oa,os,ot]:=by rw [<-hl,oN]
     obtain⟨r,hr,bx,ht,hz⟩:=Rp e9;obtain⟨it,d,i6,_,_,i9,_⟩:=bx.info;refine ao λK hK a w ⟨G,S,g1,g2,g3⟩=>wp_region_noPanic ?_;exact am7 n _ _ _ _ _ (a7 (zO ty2)) Ap (by rw [du];have:=cL e6;omega) h6 h9 h4 h7 h5 h8 h1 h2 rfl e10 e11 e12 e13 e14 e15 e16 (λ_ _ _ _ _ h=>h) h3 (by rw [hz,<-ht,i6,Option.bind_some,i9]) (h K hK G S w g3 g2) a g1
    .cases aF
   .cases aF
  .cases aF
 .cases aF
def Yr(ops:aZ)(N:Nat)(t t2:Tmp)(ty:yn)(x z:yo)(L:aH)(l:aN)(E:aG):Option (aG×cJ×aL):=match BC ops N L l.length l E with
  | ([],E1)=>match aP E1 x,aP E1 z with
    | some (.q (.p ai)),some (.q q)=>match b9 (jY ai) (jY (zO ty))&&(ka jx ty).isSome&&tq t L&&xE t E1&&aW t N&&aW t2 N,dG E1 t with
      | true,none=>some (E1,ai,q)
      | _,_=>none
    | _,_=>none
  | _=>none
def n_T(aa:bj b G S L R F M w0)(hK:∀e',cN prog b y Q N e'->cl b K N e')(h:Yr ops N t t2 ty x z L l E=some (E',ai,q))(hn:cN prog b y Q N ⟨(t2,.q q)::(t,.a t 0)::E',⟨t,none,ty,ai⟩::L,R,F,M⟩):gB prog ops N w0 (Mu prog (NoPanic (Exit.then K Q)) w0 t t2 ty x z (a7 (zO ty)).size) G l E:=by
 unfold Yr at h;split at h
 .rename_i E1 h1
  split at h
  .rename_i ps1 q1 h2 h3
   split at h
   .rename_i hc hl
    cases h;simp only [dJ] at hc;obtain⟨⟨⟨⟨⟨c1,c2⟩,c3⟩,c4⟩,c5⟩,c6⟩:=hc;refine cw aa h1 λhE=>?_;obtain⟨r,hr,bx,ht,hz⟩:=Rp c2;obtain⟨it,d,i6,_,i8,_⟩:=bx.info;have hp:ch ai:=hE.dy h2;have hs:jY ai=jY r.zero:=hz▸gq c1;have kj:∀{u:yo} {s:aq},aP E' u=some s->∀v,dy ((t,v)::bG G E') u=some (s.den G):=λ{u s} hu v=>by
     cases u with
     | tmp j =>
      have hu:dG E' j=some s:=hu
      show look ((t,v)::bG G E') j=_
      by_cases e:t=j
      .rw [<-e,hl] at hu;cases hu
      .rw [uK,if_neg e,ou,hu];rfl
     | _=>exact bH (E:=E') hu
    refine ao7 (a7 ai) (q.den) c5 c6 (λv=>kj h2 v) (λv=>kj h3 v) (by rw [hz,bx.2.size,hp.size,hs]) (by rw [<-ht,i6,hp.size,hs,<-i8];rfl) (λv ab=>hp.one v ab) λg w' hg hU hb a ha=>?_;have KN:=aa.news (E:=E') (gs:=λ_=>g) hU [⟨t,none,ty,ai⟩] (by simp [vl,c3,c4,tq]) (λu hu=>by rw [bU.1 hu];exact hp) (λ_ _=>hg) (λi j hi hj b8=>absurd (show i=j by simp at hi hj;omega) b8) λu hu=>by rw [bU.1 hu];show bB w' (if t=t then g else G t) ty (a7 ai);rw [if_pos rfl];exact hb
    refine hK _ hn a w' ⟨_,S,?_,(jK.cons hE (v:=.a t 0) trivial).cons (hE.dy h3),KN⟩;have e1:bG (l4 [⟨t,none,ty,ai⟩] 0 (λ_=>g) G) E'=bG G E':=Nq (j:=t) (g:=g) c4;show Fr N ((t2,q.den)::(t,.pointer (some ⟨if t=t then g else G t,0,none⟩))::bG (l4 [⟨t,none,ty,ai⟩] 0 (λ_=>g) G) E') a;rw [if_pos rfl,e1];exact ha
   .cases h
  .cases h
 .cases h
end
def cV.imp{α:Type}{F F':aE}{f:yi}{qs:oG}{post:fm α}(c:cV F f qs post)(h:∀w,F' w->F w):cV F' f qs post:=⟨c.own,c.spec.imp h⟩
section
variable{P:ym}{N:Nat}{E:aG}{o:yk}{x:yo}{t:yn}{d:TypeDesc}{L:aH}{R:bF}{F M:aE}
def afI{a0:Addr}{v:yl}(ho:o.op = .load t x)(hx:aP E x=some (.v (.pointer (some a0))))(hu:P.underlying t=some d)(hr:d.isRow=false)(hc:∀G S w,View G S L R F M w->w.cell? a0=some v):∀(G:aK) (S:cn) (a:Act) (w:yp),Fr N (bG G E) a->View G S L R F M w->(execOp a.eval o).run P w = .ok (.value ((aq.v v).den G)) w:=λG S a w ha hw=>by have h1:=ha.eval (bH (G:=G) hx);have h2:=Mg (P:=P) (t:=t) hu hr (hc G S w hw);unfold execOp;simp only [ho,h1,aq.den,aL.den,eK.den,h2,bI,bM,bS]
def afJ{g off:Nat}{q:aL}{cs:ct}(ho:o.op = .load t x)(hx:aP E x=some (.v (.pointer (some ⟨g,off,none⟩))))(hu:P.underlying t=some d)(hr:d.isRow=true)(hi:(P.info? t).map (·.size)=some cs.size)(hq:q.den = .agg cs)(hc:∀G S w,View G S L R F M w->w.rangeAt g off cs.toList):∀(G:aK) (S:cn) (a:Act) (w:yp),Fr N (bG G E) a->View G S L R F M w->(execOp a.eval o).run P w = .ok (.value ((aq.q q).den G)) w:=λG S a w ha hw=>by have h1:=ha.eval (bH (G:=G) hx);have h2:=VQ (P:=P) (t:=t) hu hr hi (hc G S w hw);rw [show(aq.q q).den G = .agg cs from hq];unfold execOp;simp only [ho,h1,aq.den,aL.den,eK.den,h2,bI,bM,bS]
end
def acA(ops:aZ)(N:Nat)(L:aH)(Fa:Told)(l:List (Nat×yk))(E:aG):Option (List (Nat×yk)×aG×Nat×Nat×yi×nH):=match CU jx ops N L Fa l E with
  | ((i,o)::l',E')=>match Jy N E' o,mw i Fa with
    | some (k,f,vs),true=>some (l',E',i,k,f,vs)
    | _,_=>none
  | _=>none
def SM{α:Type}{post:fm α}{F F' M:aE}[dc F'][hP:∀x,dc (post.p x)]{b:bO}{G:aK}{S:cn}{L:aH}{R:bF}{w0:yp}{ops:aZ}{Q:bK}{N:Nat}{T':aN}{Fa:Told}{l l':List (Nat×yk)}{E E':aG}{i k:Nat}{f:yi}{qs:oG}(aa:bj b G S L R F M w0)(c:cV F' f qs post)(h:acA ops N L Fa l E=some (l',E',i,k,f,qs.map aq.q))
 (hF:∀w o,View G S L R F M w->Uses o Fa w->F' w)
 (hn:∀x,bm prog ops Q N T' G w0 l' ((k,(post.ret x).eJ)::E') ((i,λw=>∃y,(post.ret x).den=(post.ret y).den/\post.p y w)::Fa)):bm prog ops Q N T' G w0 l E Fa:=by
 unfold acA at h
 split at h
 .rename_i i2 o l2 E2 h2
  split at h
  .rename_i k2 f2 v2 h3 hf;simp only [iv,nS] at h;obtain⟨rfl,rfl,rfl,rfl,rfl,rfl⟩:=h;obtain⟨hg,hd,hk,xs,ats,ho,hx⟩:=Jz h3;exact J7 an aa h2 (wL aa (qs.map aL.den) hf (lu hg hd hk) (how:=c.own) ho hx (λ_=>Sb qs G) c.spec (λw hw hu=>hF w _ hw hu) λx _=>hn x)
  .cases h
 .cases h
instance{α:Type}{f:α->cM}{x:α}:dc (({ ret:=f }:fm α).p x):=⟨λ_ _ _ _=>trivial⟩
section
variable{α:Type}{fe:α->aL}{b:bO}{ops:aZ}{Q:bK}{N:Nat}{E:aG}{L:aH}{R:bF}{F M:aE}{rest:aN}{o:yk}
theorem atF{t:yn}{x z:yo}{j n k i:Nat}{l:List α}{ai:cJ}(y:α)(ho:(o.guard,o.dst,o.op)=(none,none,.store t x z))(hx:aP E x=some (.a j (k*i)))(hz:aP E z=some (.q (fe y)))(hl:mJ L j=some (.agg n (de fe l).toArray::ai))(ht:(ka jx t).map (λr=>jY r.zero)=some k)(bx:jL k fe l)(hy:ch (fe y).fA/\(fe y).cp.length=k)(hi:i<l.length)
 (hn:a9 prog b ops Q N rest ⟨E,rj L j (.agg n (de fe (l.set i y)).toArray::ai),R,F,M⟩):a9 prog b ops Q N (o::rest) ⟨E,L,R,F,M⟩:=λa w ⟨G,S,f1,f2,f3⟩=>by
 simp only [nS] at ho;obtain⟨hg,hd,ho⟩:=ho;obtain⟨u,hu,rfl,hps⟩:=tR hl;have e1:=f1.eval (bH hx);have e2:=f1.eval (bH hz);obtain⟨x0,np⟩:∃x0,l[i]?=some x0:=⟨_,da hi⟩;obtain⟨A,Z,h1,h2,h3⟩:=C5 bx np;have SE:=(f3.var u hu).2.1;rw [hps] at SE;have Am:(fe x0).cp.length=k:=(bx x0 (eg np)).2
 have hlen:(de fe (l.set i y)).length=(de fe l).length:=by rw [h1,h3];simp [hy.2,Am]
 have dN:(fe y).den.cells.size=k:=by have:=hy.2;simpa [aL.cp] using this
 have ZA:(a7 (.agg n (de fe l).toArray::ai)).toList=A++((fe x0).cp++(Z++(a7 ai).toList)):=by rw [lE,wC,bz.cells,h1];simp
 have aq4:(a7 (.agg n (de fe (l.set i y)).toArray::ai)).toList=A++((fe y).cp++(Z++(a7 ai).toList)):=by rw [lE,wC,bz.cells,h3];simp
 cases hr:ka jx t with
 | none=>rw [hr] at ht;cases ht
 | some r =>
  rw [hr] at ht;obtain⟨g1,g2⟩:=oX an hr;obtain⟨it,d,g3,_,g5,_⟩:=g1.info
  have ht:jY r.zero=k:=by injection ht
  have Zw:=f3.at u hu;rw [hps] at Zw;have aa:=D0 (P:=prog) (t:=t) (v:=(fe y).den) (off:=k*i) Zw (by rw [<-g2,g3,dN,kF,g5,ht]) (by rw [dN,<-kD,ZA,aV,aV,Am,h2];omega) (aL.GK hy.1)
  have e3:((a7 (.agg n (de fe l).toArray::ai)).toList.take (k*i)++(fe y).den.cells.toList++(a7 (.agg n (de fe l).toArray::ai)).toList.drop (k*i+(fe y).den.cells.size)).toArray=a7 (.agg n (de fe (l.set i y)).toArray::ai):=by
   apply Mz;rw [aq4,ZA,dN,<-h2];have e4:A++((fe x0).cp++(Z++(a7 ai).toList))=(A++(fe x0).cp)++(Z++(a7 ai).toList):=by rw [ei]
   have e5:(A++((fe x0).cp++(Z++(a7 ai).toList))).drop (A.length+k)=Z++(a7 ai).toList:=by rw [e4];exact List.drop_left' (by rw [aV,Am])
   rw [LV,e5,ei];rfl
  rw [e3] at aa
  refine CI (w':=w.setRow (G u.j) (a7 (.agg n (de fe (l.set i y)).toArray::ai))) (lr hg) (by unfold execOp;simp only [ho,e1,e2,aq.den,aa,bI,bM,bS]) ?_
  rw [hd];refine hn _ _ ⟨G,S,f1,f2,f3.set (Ic hl) λq hq=>?_⟩
  rcases bT.1 hq with rfl|hq
  .have h6:=SE (.agg n (de fe l).toArray) eh;refine⟨?_,λv ab=>St (bx.set hy) v ab⟩;have h7:(de fe l).toArray.size=n:=h6.1;rw [fx] at h7 ⊢;rw [hlen,h7]
  .exact SE q (dS _ hq)
end
def aIR:∀u∈([]:oG),u.aI:=λ_ h=>by cases h
section
variable{b:bO}{Q:Exit → Act → yp → Prop}{ops:aZ}{N:Nat}{E E':aG}{L L':aH}{R:bF}{F M:yp → Prop}{id:Nat}{l l':aN}{y:Code}
def ag(h:oL jx l.toArray N l E L=([], E', L'))(hn:cN prog b y Q N ⟨E', L', R, F, M⟩):cN prog b (.seq (.region id l.toArray false) y) Q N ⟨E, L, R, F, M⟩ := aAS an h hn
def aj{l0:aN}(h:oL jx ops N l0 E L=(l', E', L'))(hn:a9 prog b ops Q N l' ⟨E', L', R, F, M⟩):a9 prog b ops Q N l0 ⟨E, L, R, F, M⟩ := FB an h hn
def aA(h:oL jx l.toArray N l E L=(l', E', L'))(hn:∀K:Act → yp → Prop, (∀e', cN prog b y Q N e' → cl b K N e') → a9 prog b l.toArray (Exit.then K Q) N l' ⟨E', L', R, F, M⟩):cN prog b (.seq (.region id l.toArray false) y) Q N ⟨E, L, R, F, M⟩ := aAV an h hn
def cE(h:oL jx l.toArray N l E L=([], E', L'))(hn:cl b (Q .normal) N ⟨E', L', R, F, M⟩):cN prog b (.region id l.toArray false) Q N ⟨E, L, R, F, M⟩ := aAT an h hn
theorem aD{α:Sort _}{β:α->Sort _}{γ:∀a,β a->Sort _}(a:α)(b:β a)(_:γ a b):True:=trivial
def au{α:Sort _}{β:α → Sort _}(a:α)(_:β a):True := trivial
def dB{E:aG}:∀{l:aG}, l.map (fun p => dG E p.1)=l.map (fun p => some p.2) → wh l E
  | [], _ => trivial
  | _::_, h => ⟨(List.cons.inj h).1, dB (List.cons.inj h).2⟩
def Ro:aH → Bool
  | [] => true
  | x::r => tq x.j r&&Ro r
def c8{L:aH}:∀{l:aH}, l.map (fun x => BL L x.j)=l.map some → Ro l=true → xm l L
  | [], _, _ => trivial
  | _::_, h, hf => ⟨(List.cons.inj h).1, (Bool.and_eq_true_iff.1 hf).1, c8 (List.cons.inj h).2 (Bool.and_eq_true_iff.1 hf).2⟩
end
section
variable{b:bO}{Q:Exit → Act → yp → Prop}{ops:aZ}{N:Nat}{G:Nat → Nat}{S:Nat → Prop}{E E':aG}{L:aH}{R:bF}{F M:yp → Prop}{w0:yp}{T':aN}{Fa:Told}
def dC{l l':List (Nat×yk)}(aa:bj b G S L R F M w0)(h:CU jx ops N L Fa l E=(l', E'))(hn:bm prog ops Q N T' G w0 l' E' Fa):bm prog ops Q N T' G w0 l E Fa := J7 an aa h hn
end
section
variable{b:bO}{fn:Func}{N:Nat}{E:aG}{L:aH}{R:bF}{F M:yp → Prop}{α:Type}{post:fm α}{rs:List ResultVar}{qs:oG}
def bE(x:α)(h:(fn.results, Nat.ble rs.length 3, yf jx E L rs, post.ret x, post.own x)=(rs.toArray, true, some qs, CD qs, R))(hp:∀w, F w → M w → post.p x w)(hn:∀w, M w → post.n x w):cl b (bodyPost prog fn (tk b post) .ret) N ⟨E, L, R, F, M⟩ := by simp only [Prod.mk.injEq] at h;obtain⟨h1, h2, h3, h4, h5⟩ := h;exact dk an x h1 (hs:=Nat.le_of_ble_eq_true h2) h3 h4 h5 hp hn
end
section
variable{b:bO}{Q:Exit → Act → yp → Prop}{ops:aZ}{N fuel i k:Nat}{E:aG}{L L0:aH}{R R' own:bF}{F M F' Inv:yp → Prop}{o:yk}{rest:aN}{p:Nat → Bool}{Fin:et → Act → yp → Prop}{listed:et}{v:aq}
variable{α:Type}{post:fm α}{f:yi}{xs:na}{ats:mX}{svs:nH}
def bY(args:cU)(h:(o.guard, o.dst, Nat.blt k N, o.op, lg E xs.toList, fun G:Nat → Nat => svs.map (aq.den G))=(none, some k, true, .call { callee := .value (.func f), args := xs, argTypes := ats }, some svs, fun _ => args))(hs:Spec f args [] F' post)(hF:∀w, F w → M w → F' w)(hn:∀x, a9 prog b ops Q N rest ⟨(k, (post.ret x).eJ)::E, L, post.own x++R, fun w => post.p x w ∧ F w, fun w => post.n x w ∧ M w⟩)(hf:Own f:=by exact λ_ _=>by go_simp):a9 prog b ops Q N (o::rest) ⟨E, L, R, F, M⟩ := by simp only [Prod.mk.injEq] at h;obtain⟨h1, h2, h3, h4, h5, h6⟩ := h;exact asV args (lu h1 h2 h3) hf h4 h5 (fun G _ => congrFun h6 G) hs hF hn
def er(args:cU)(h:(o.guard, o.dst, Nat.blt k N, o.op, lg E xs.toList, fun G:Nat → Nat => svs.map (aq.den G))=(none, some k, true, .call { callee := .value (.func f), args := xs, argTypes := ats }, some svs, fun _ => args))(hs:Spec f args own F' post)(hF:∀w, F w → M w → F' w)(hn:∀x, a9 prog b ops Q N rest ⟨(k, (post.ret x).eJ)::E, L, post.own x++R', fun w => post.p x w ∧ F w, fun w => post.n x w ∧ M w⟩)(hf:Own f:=by exact λ_ _=>by go_simp):a9 prog b ops Q N (o::rest) ⟨E, L, own++R', F, M⟩ := by simp only [Prod.mk.injEq] at h;obtain⟨h1, h2, h3, h4, h5, h6⟩ := h;exact Uq args h1 h2 h3 hf h4 h5 (fun G _ => congrFun h6 G) hs hF hn
end
section
variable{b:bO}{Q:Exit → Act → yp → Prop}{ops:aZ}{N fuel i k:Nat}{E:aG}{L L0:aH}{R R' own:bF}{F M F' Inv:yp → Prop}{o:yk}{rest:aN}{p:Nat → Bool}{Fin:et → Act → yp → Prop}{listed:et}{v:aq}
variable{t ty:yn}{x:yo}{g off:Nat}{ai:cJ}{q:aL}
def gE(h:(o.guard, o.dst, Nat.blt k N, o.op, aP E x, tE jx ai t off)=(none, some k, true, .load t x, some (.v (.pointer (some ⟨g, off, none⟩))), some q))(h0:∀G S w, View G S L R F M w → ij g ty ai w)
   (hn:a9 prog b ops Q N rest ⟨(k, .q q)::E, L, R, F, M⟩):a9 prog b ops Q N (o::rest) ⟨E, L, R, F, M⟩ := by
  simp only [Prod.mk.injEq] at h;obtain⟨h1, h2, h3, h4, h5, h6⟩ := h;exact at2 an (lu h1 h2 h3) h4 h5 h6 h0 hn
end
section
variable{E E2:aG}{L L2:List mn}{R:List fS}{F F2 M:World->Prop}
theorem hv(h:E2.map (λp=>dG E p.1)=E2.map (λp=>some p.2))(h2:L2.map (λx=>BL L x.j)=L2.map some)(h3:Ro L2=true):gj ⟨E,L,R,F,M⟩ ⟨E2,L2,R,F,M⟩:=⟨dB h,c8 h2 h3,.refl _,λ_ h _=>h,λ_ h=>h⟩
theorem fC(h:E2.map (λp=>dG E p.1)=E2.map (λp=>some p.2))(h2:L2.map (λx=>BL L x.j)=L2.map some)(h3:Ro L2=true)(hF:∀w,F w->M w->F2 w):gj ⟨E,L,R,F,M⟩ ⟨E2,L2,R,F2,λ_=>True⟩:=⟨dB h,c8 h2 h3,.refl _,hF,λ_ _=>trivial⟩
end
theorem pC{m:Int}(h1:-9223372036854775808<=m)(h2:m<=9223372036854775807):some (aq.v (.int .i64 (IntKind.i64.wrap m)))=some (aq.v (.int .i64 m)):=congrArg (λx=>some (aq.v (.int .i64 x))) (jv rfl h1 h2)
end Go.Proofs.Q
