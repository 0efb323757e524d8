import Derived.Test.YtlhlkofpjhpaoaaGreatDoorMc
import Derived.Laws.MakeOwn
import Derived.Maps.AppendAt
import Derived.Great.BuildSlice
import Derived.Test.YtlhlkofpjhpaoaaGreatDoorMa
import Derived.Lib.SlBytesConst
import Derived.Test.YtlhlkofpjhpaoaaGreatDoorMb
import Derived.Laws.IdiomStrings
import Derived.Laws.BytesArg
set_option maxRecDepth 100000
open Array renaming length_toList->a9,toArray_toList->dZ,size_range->pF,size_map->qV
open Go.Addr renaming add_mid->dA
open Go.Oper renaming upon->fT
open Go.Region renaming wanted->aO
open Go.Result renaming andThen_ok->aD
open Go.Sem renaming run_bind->aG,run_pure->aH
open Iff renaming rfl->jO
open List renaming replicate->aA,length_append->aB,mem_singleton->aE,mem_cons_of_mem->aJ,getElem?_eq_getElem->aK,mem_cons->aL,mem_cons_self->aP,mem_of_getElem?->aR,size_toArray->aT,length_take->aU,append_assoc->a6,getElem?_eq_some_iff->bA,length_cons->bD,mem_map->bP,length_set->bQ,eq_nil_of_length_eq_zero->bV,map_cons->bX,take_append_drop->cW,length_drop->dC,getElem?_take->dE,nil_append->gJ,map_toArray->jU,map_nil->oI,flatMap_cons->pA
open List.cons renaming injEq->iZ
open Nat renaming le_refl->aF,eq_of_beq_eq_true->aM,blt->aQ,zero_add->aZ,beq->bN,le_trans->b8,lt_of_lt_of_le->b9,mul_comm->eN,add_zero->eX,lt_irrefl->gI,le_of_eq->nI,add_mul->o6
open Option renaming map_some->bI
open Option.some renaming injEq->aW,inj->cR
open Prod.mk renaming injEq->cY
namespace Go.Proofs.YtlhlkofpjhpaoaaGreatDoor
open Go.RowKit Go.IntWalk
structure View(G:Nat->Nat)(S:Nat->Prop)(L:List LV)(R:List Res)(F M:World->Prop)(w:World):Prop where
  var:∀x∈L,Blk w (G x.j) x.t (catP x.ps)/\OkP x.ps/\∀g,x.g=some g->G x.j=g
  res:starL R w S
  fact:F w
  fresh:M w
section
variable{b:Base}{G:Nat->Nat}{S:Nat->Prop}{L:List LV}{R R' own:List Res}{F M F':World->Prop}{w w':World}{α:Type}{post:Post α}{f:FuncId}{args:List Value}
theorem StW.view(h:StW b G S L R F M w):View G S L R F M w:=⟨h.var,h.res,h.fact.now,h.all.now.2⟩
theorem StW.split(h:StW b G S L (own++R') F M w):∃S1 S2,starL own w S1/\starL R' w S2/\(∀k,S k↔S1 k\/S2 k)/\∀k,S1 k->¬S2 k:=starL.app.1 h.res
theorem StW.chgd(h:StW b G S L R F M w){S1 S2 S':Nat->Prop}(hS:∀k,S k↔S1 k\/S2 k)(hc:Chg S1 w w')(hr:starL R' w' λk=>S' k\/S2 k)(hS':∀k,S' k->k<w.heap.size->S1 k):StW b G (λk=>S' k\/S2 k) L R' F M w':=by
 have hSm:∀k,S1 k->Mine S G L k:=λk hk=>.inl ((hS k).2 (.inl hk));have hM:∀k,k<w.heap.size->Mine (λk=>S' k\/S2 k) G L k->Mine S G L k:=λk hlt hk=>hk.imp (λhk=>(hS k).2 (hk.imp (λh=>hS' k h hlt) id)) id;refine⟨λx hx=>⟨(hc.block _ (h.var x hx).1.lt λhs=>h.sep x.j (bP.2 ⟨x,hx,rfl⟩) ((hS _).2 (.inl hs))).trans (h.var x hx).1,(h.var x hx).2⟩,h.apart,hr,λj hj hs=>?_,?_,?_,h.chg.step hc λi hi hs=>h.mine i (hSm i hs) hi,λk hk hlt=>h.mine k (hM k (b9 hlt h.chg.size) hk) hlt,h.old⟩
 ·have hlt:=h.lt (G j) (.inr ⟨j,hj,rfl⟩)
  exact h.sep j hj ((hS _).2 (hs.imp (λh=>hS' _ h hlt) id))
 ·exact h.fact.past (D':=Dof b.X (λk=>S' k\/S2 k) G L) (hc.mono (D':=Dof b.X S G L) λi _ hs=>.inr (hSm i hs)) λi hi hd=>hd.imp id (hM i hi)
 ·exact h.fresh.past (D':=Nof b (λk=>S' k\/S2 k) G L) (hc.mono (D':=Nof b S G L) λi _ hs=>.inr (hSm i hs)) λi hi hd=>hd.imp id (hM i hi)
theorem StW.lent(h:StW b G S L (own++R') F M w){S1 S2 S':Nat->Prop}{own':List Res}(h2:starL R' w S2)(hS:∀k,S k↔S1 k\/S2 k)(hd:∀k,S1 k->¬S2 k)(hc:Chg S1 w w')(h1':starL own' w' S')(hS':∀k,S' k->k<w.heap.size->S1 k) :
  StW b G (λk=>S' k\/S2 k) L (own'++R') F M w':=h.chgd hS hc (starL.app.2 ⟨S',S2,h1',h2.keep λk hk=>hc.block k (h2.lt k hk) λhs=>hd k hs hk,λ_=>jO,λk hk hk2=>hd k (hS' k hk (h2.lt k hk2)) hk2⟩) hS'
theorem StW.put(h:StW b G S L R F M w){i:Nat}{r:Res}(hi:R[i]?=some r):∃S1,r.holds w S1/\∀(r':Res) (w':World) (S':Nat->Prop),Chg S1 w w'->r'.holds w' S'->(∀k,S' k->k<w.heap.size->S1 k)->∃S'',StW b G S'' L (R.set i r') F M w':=by
 obtain⟨S1,S2,h1,h2,h3,h4,h5⟩:=h.res.at hi;refine⟨S1,h1,λr' w' S' hc hr hS'=>⟨_,h.chgd h2 hc (h5 r' w' S' hr (λk hk=>hc.block k (h4.lt k hk) λhs=>h3 k hs hk) λk hk hk2=>h3 k (hS' k hk (h4.lt k hk2)) hk2) hS'⟩⟩
theorem StW.gain(h:StW b G S L R F M w)(k:Below w.heap.size w w'){r:Res}{S':Nat->Prop}(hr:r.holds w' S')(hn:∀k,S' k->w.heap.size<=k):∃S'',StW b G S'' L (r::R) F M w':=by
 refine⟨_,h.chgd (S1:=λ_=>False) (S2:=S) (S':=S') (λk=>⟨.inr,λh=>h.elim False.elim id⟩) (Chg.of_up k) ⟨S',S,hr,h.res.keep λi hi=>k.block i (h.res.lt i hi),λ_=>jO,λi hi hs=>?_⟩ λi hi hlt=>?_⟩
 ·exact gI _ (b9 (h.res.lt i hs) (hn i hi))
 ·exact gI _ (b9 hlt (hn i hi))
theorem StW.let(h:StW b G S L R F M w){i:Nat}{r:Res}(hi:R[i]?=some r):∃S1 S2,r.holds w S1/\(∀k,S1 k->¬S2 k)/\(∀k,S k↔S1 k\/S2 k)/\StW b G S2 L (R.eraseIdx i) F M w:=by
 obtain⟨S1,S2,h1,h2,h3,h4,_⟩:=h.res.at hi;have hM:∀k,Mine S2 G L k->Mine S G L k:=λk hk=>hk.imp (λh=>(h2 k).2 (.inr h)) id;exact⟨S1,S2,h1,h3,h2,{ h with res:=h4,sep:=λj hj hs=>h.sep j hj ((h2 _).2 (.inr hs)),fact:=h.fact.less λk _ hk=>hk.imp id (hM k),fresh:=h.fresh.less λk _ hk=>hk.imp id (hM k),mine:=λk hk=>h.mine k (hM k hk) }⟩
theorem StW.callA(h:StW b G S L (own++R') F M w)(hs:Spec f args own F' post)(hF:∀w,F w->M w->F' w) :
  Calls Tryz.prog f args.toArray w λe w'=>∃x S',e = .returned (post.ret x).den/\(post.ret x).sv.Ok/\StW b G S' L (post.own x++R') (λw=>post.p x w/\F w) (λw=>post.n x w/\M w) w':=by
 obtain⟨S1,S2,h1,h2,hS,hd⟩:=h.split
 have hX:∀k,b.X k\/(S2 k\/∃j∈namesL L,G j=k)->k<w.heap.size/\¬S1 k:=λk hk=>by
  rcases hk with hk|hk|⟨j,hj,rfl⟩
  ·exact⟨b9 (h.old k hk).1 h.chg.size,λhs=>(h.old k hk).2 (h.mine k (.inl ((hS k).2 (.inl hs))) (h.old k hk).1)⟩
  ·exact⟨h2.lt k hk,λhs=>hd k hs hk⟩
  ·exact⟨h.lt _ (.inr ⟨j,hj,rfl⟩),λhs=>h.sep j hj ((hS _).2 (.inl hs))⟩
 refine(hs w S1 (λk=>b.X k\/(S2 k\/∃j∈namesL L,G j=k)) h1 hX ((h.all.imp λw hw=>hF w hw.1 hw.2).less λk _ hk=>?_)).mono ?_
 ·rcases hk with(hk|hk|hk)|hk
  ·exact .inl hk
  ·exact .inr (.inl ((hS k).2 (.inr hk)))
  ·exact .inr (.inr hk)
  ·exact .inr (.inl ((hS k).2 (.inl hk)))
 ·rintro e w' ⟨x,S',he,hok,hc,h1',hS',hp,hn⟩
  have h3:=h.lent h2 hS hd hc h1' hS';refine⟨x,_,he,hok,(h3.and (p:=post.p x) (hp.less λk _ hk=>?_)).andM (p:=post.n x) (hn.less λk _ hk=>?_)⟩
  ·rcases hk with hk|(hk|hk)|hk
   ·exact .inl (.inl hk)
   ·exact .inr hk
   ·exact .inl (.inr (.inl hk))
   ·exact .inl (.inr (.inr hk))
  ·rcases hk with hk|(hk|hk)|⟨j,hj,rfl⟩
   ·exact .inl (b9 hk h.chg.size)
   ·exact .inr hk
   ·exact .inl (h2.lt k hk)
   ·exact .inl (h.lt _ (.inr ⟨j,hj,rfl⟩))
end
section
variable{b:Base}{ops:Array Oper}{Q:Exit->Act->World->Prop}{N:Nat}{E:SE}{L:List LV}{R R' own:List Res}{F M F':World->Prop}{o:Oper}{rest:List Oper}{k:Nat}{α:Type}{post:Post α}{f:FuncId}{xs:Array Operand}{ats:Array TypeId}{svs:List SV}
theorem call_run{G:Nat->Nat}{a:Act}{w:World}(hf:Own f)(ho:o.op = .call { callee:=.value (.func f),args:=xs,argTypes:=ats })(hx:evSs E xs.toList=some svs)(ha:Fr N (denE G E) a) :
  (execOp a.eval o).run Tryz.prog w = .ok (.enter f (svs.map (SV.den G)).toArray) w:=by
 rw [run_call_fn hf ho,map_eval (ha.evals _ _ (by rw [evSs_ok hx]))]
theorem l_callA(args:List Value)(hg:o.guard=none)(hd:o.dst=some k)(hk:aQ k N=true)(hf:Own f)(ho:o.op = .call { callee:=.value (.func f),args:=xs,argTypes:=ats })(hx:evSs E xs.toList=some svs)
 (ha:∀G:Nat->Nat,(∀x∈L,∀g,x.g=some g->G x.j=g)->svs.map (SV.den G)=args)(hs:Spec f args own F' post)(hF:∀w,F w->M w->F' w)
 (hn:∀x,lS Tryz.prog b ops Q N rest ⟨(k,(post.ret x).sv)::E,L,post.own x++R',λw=>post.p x w/\F w,λw=>post.n x w/\M w⟩):lS Tryz.prog b ops Q N (o::rest) ⟨E,L,own++R',F,M⟩:=λa w ⟨G,S,h1,h2,h3⟩=>by
 have hr:=call_run (w:=w) hf ho hx h1;rw [ha G λx hx=>(h3.var x hx).2.2] at hr
 unfold wpList
 rw [if_pos (by simp [aO,hg])];refine .inl ?_
 unfold Oper.wp
 rw [hr];simp only [fT,hd];refine(h3.callA hs hF).mono ?_
 rintro e w' ⟨x,S',rfl,hok,h4⟩
 have h5:=h1.put hk (post.ret x).den;rw [<-RV.sv_den _ G] at h5;have h6:=hn x _ w' ⟨G,S',h5,h2.cons hok,h4⟩;rw [RV.sv_den] at h6;exact h6
theorem l_call1{r:RV}(args:List Value)(hg:o.guard=none)(hd:o.dst=some k)(hk:aQ k N=true)(hf:Own f)(ho:o.op = .call { callee:=.value (.func f),args:=xs,argTypes:=ats })(hx:evSs E xs.toList=some svs)
 (ha:∀G:Nat->Nat,(∀x∈L,∀g,x.g=some g->G x.j=g)->svs.map (SV.den G)=args)(hr:r.sv.Ok)(hs:∀G S w,View G S L R F M w->Calls Tryz.prog f args.toArray w λe w'=>e = .returned r.den/\Below w.heap.size w w')
 (hn:lS Tryz.prog b ops Q N rest ⟨(k,r.sv)::E,L,R,F,M⟩):lS Tryz.prog b ops Q N (o::rest) ⟨E,L,R,F,M⟩:=λa w ⟨G,S,h1,h2,h3⟩=>by
 have hr':=call_run (w:=w) hf ho hx h1;rw [ha G λx hx=>(h3.var x hx).2.2] at hr'
 unfold wpList
 rw [if_pos (by simp [aO,hg])];refine .inl ?_
 unfold Oper.wp
 rw [hr'];simp only [fT,hd];refine(hs G S w h3.view).mono ?_
 rintro e w' ⟨rfl,hb⟩
 have h5:=h1.put hk r.den;rw [<-RV.sv_den _ G] at h5;have h6:=hn _ w' ⟨G,S,h5,h2.cons hr,h3.later hb⟩;rw [RV.sv_den] at h6;exact h6
theorem l_f{P:Program}(v:SV)(hv:v.Ok)(h:∀(G:Nat->Nat) (S:Nat->Prop) (w:World) (C0:World->Prop) (Q':Act->Prop),View G S L R F M w->(∀w',C0 w'->w'=w)->bF P ops C0 Q' [] N ((k,v.den G)::denE G E)->bF P ops C0 Q' [o] N (denE G E))(hs:stillG o.op=true)
 (hn:lS P b ops Q N rest ⟨(k,v)::E,L,R,F,M⟩):lS P b ops Q N (o::rest) ⟨E,L,R,F,M⟩:=λa w ⟨G,S,h1,h2,h3⟩=>by
 refine wpList_of_Bs [o] a w (by simp [hs]) (h G S w (· = w) _ h3.view (λ_ h=>h) (λa' ha'=>wpB_nil ?_) a h1);exact hn a' w ⟨G,S,ha',h2.cons hv,h3⟩
theorem l_eq{P:Program}{l:List Oper}(k:Nat){v:SV}(v':SV)(h:lookS E k=some v)(he:v=v')(hn:lS P b ops Q N l ⟨(k,v')::E,L,R,F,M⟩):lS P b ops Q N l ⟨E,L,R,F,M⟩:=λa w ⟨G,S,h1,h2,h3⟩=>by
 subst he;exact hn a w ⟨G,S,h1.more (h1.get k _ (by rw [look_den,h];rfl)),h2.cons (h2.get h),h3⟩
theorem l_is{P:Program}{l:List Oper}(k:Nat){t:Bool}(q:Bool)(h:lookS E k=some (.b t))(he:t=q)(hn:lS P b ops Q N l ⟨(k,.v (.bool q))::E,L,R,F,M⟩):lS P b ops Q N l ⟨E,L,R,F,M⟩:=λa w ⟨G,S,h1,h2,h3⟩=>by
 subst he;exact hn a w ⟨G,S,h1.more (h1.get k _ (by rw [look_den,h];rfl)),h2.cons trivial,h3⟩
theorem l_num{P:Program}{l:List Oper}(k:Nat){K:IntKind}{m:Int}(n:Int)(h:lookS E k=some (.v (.int K m)))(he:m=n)(hn:lS P b ops Q N l ⟨(k,.v (.int K n))::E,L,R,F,M⟩):lS P b ops Q N l ⟨E,L,R,F,M⟩:=l_eq k _ h (by rw [he]) hn
end
def gS(P:Program)(_b:Base)(ops:Array Oper)(Q:Exit->Act->World->Prop)(N:Nat)(T:List Oper)(G:Nat->Nat)(w0:World)(l:List (Nat×Oper))(E:SE):Prop:=OkE E->gF P Bel ops (Up w0) (endG P ops Q (Up w0) T) l N (denE G E) []
section
variable{P:Program}{b:Base}{Q:Exit->Act->World->Prop}{N:Nat}{E:SE}{L:List LV}{R:List Res}{F M:World->Prop}{id:Nat}{l:List Oper}
theorem s_drawn(n:Nat)(hn:n<=l.length)(hm:P.follows .mixedOrders=true)(hB:tailH l.toArray n (l.drop n).length=true)
 (h:∀G S w0,StW b G S L R F M w0->gS P b l.toArray Q N (l.drop n) G w0 (idx 0 (l.take n)) E):cS P b (.region id l.toArray true) Q N ⟨E,L,R,F,M⟩:=λa w ⟨G,S,h1,h2,h3⟩ =>
 c_g n hn hm hB (h G S w h3 h2) a h1
theorem s_regD{y:Code}(n:Nat)(hn:n<=l.length)(hm:P.follows .mixedOrders=true)(hB:tailH l.toArray n (l.drop n).length=true)
 (h:∀K:Act->World->Prop,(∀e',cS P b y Q N e'->kS b K N e')->∀G S w0,StW b G S L R F M w0->gS P b l.toArray (Exit.then K Q) N (l.drop n) G w0 (idx 0 (l.take n)) E):cS P b (.seq (.region id l.toArray true) y) Q N ⟨E,L,R,F,M⟩:=zM λK hK=>s_drawn n hn hm hB (h K hK)
end
def autoD(T:List TyR)(ops:Array Oper)(N:Nat)(L:List LV):List (Nat×Oper)->SE->List (Nat×Oper)×SE
  | [],E=>([],E)
  | (i,o)::l,E=>match wantS ops N E o with
    | none=>((i,o)::l,E)
    | some false=>match o.dst with
      | some k=>match aQ k N with
        | true=>autoD T ops N L l ((k,.v undef)::E)
        | false=>((i,o)::l,E)
      | none=>((i,o)::l,E)
    | some true=>match o.dst with
      | some k=>match aQ k N with
        | true=>match stepS T E L o.op with
          | some v=>autoD T ops N L l ((k,v)::E)
          | none=>((i,bareO o)::l,E)
        | false=>((i,o)::l,E)
      | none=>((i,bareO o)::l,E)
section
variable{P:Program}{b:Base}{T:List TyR}{ops:Array Oper}{Q:Exit->Act->World->Prop}{N:Nat}{T':List Oper}{G:Nat->Nat}{S:Nat->Prop}{L:List LV}{R:List Res}{F M:World->Prop}{w0:World}
theorem autoD_ok(hT:OkT P T)(hst:StW b G S L R F M w0):∀{l:List (Nat×Oper)} {E:SE},gS P b ops Q N T' G w0 (autoD T ops N L l E).1 (autoD T ops N L l E).2->gS P b ops Q N T' G w0 l E
 | [],_,h=>h
 | (i,o)::l,E,h=>by
  unfold autoD at h
  cases hw:wantS ops N E o with
  | none=>rw [hw] at h;exact h
  | some q =>
   rw [hw] at h
   intro hE a Fa ha hF
   have hwt:=wantS_ok ha hw
   cases q with
   | false =>
    dsimp only at h
    cases hd:o.dst with
    | none=>rw [hd] at h;exact h hE a Fa ha hF
    | some k =>
     rw [hd] at h
     dsimp only at h
     cases hk:aQ k N with
     | false=>rw [hk] at h;exact h hE a Fa ha hF
     | true =>
      rw [hk] at h
      unfold wpG
      rw [hwt,if_neg (by decide)]
      dsimp only
      rw [hd];exact autoD_ok hT hst h (hE.cons (v:=.v undef) trivial) _ _ (ha.put hk undef) (hF.up rfl)
   | true =>
    dsimp only at h
    have hgd:gS P b ops Q N T' G w0 ((i,bareO o)::l) E->wpG P Bel ops (Up w0) (endG P ops Q (Up w0) T') ((i,o)::l) Fa a:=λh1=>by
     have h1:=h1 hE a Fa ha hF;obtain⟨dst,op,ty,pos,af,gd⟩:=o
     unfold wpG at h1 ⊢
     rw [if_pos hwt];rw [if_pos (by rfl)] at h1;exact h1
    cases hd:o.dst with
    | none=>rw [hd] at h;exact hgd h
    | some k =>
     rw [hd] at h
     dsimp only at h
     cases hk:aQ k N with
     | false=>rw [hk] at h;exact h hE a Fa ha hF
     | true =>
      rw [hk] at h
      dsimp only at h
      cases hv:stepS T E L o.op with
      | none=>rw [hv] at h;exact hgd h
      | some v =>
       rw [hv] at h;obtain⟨h1,h2⟩:=stepS_ok hT hE hst.okL hv;refine g_op rfl (λa ha=>b_val (wantS_ok ha hw) (λw hw=>h2 ha (hst.later hw.1).at) ?_) a Fa ha hF;rw [hd];exact g_go (o:=o) (autoD_ok hT hst h (hE.cons h1)) _ (ha.put hk _)
theorem g_autoS(hT:OkT P T)(hst:StW b G S L R F M w0){l l':List (Nat×Oper)}{E E':SE}(h:autoD T ops N L l E=(l',E'))(hn:gS P b ops Q N T' G w0 l' E'):gS P b ops Q N T' G w0 l E:=autoD_ok hT hst (by rw [h];exact hn)
theorem g_endS(hst:StW b G S L R F M w0){E:SE}(h:lS P b ops Q N T' ⟨E,L,R,F,M⟩):gS P b ops Q N T' G w0 [] E:=λhE=>g_end λw hw _ a ha=>h a w ⟨G,S,ha,hE,hst.later hw⟩
variable{E:SE}{o:Oper}{rest:List (Nat×Oper)}{i k:Nat}
theorem g_f(hst:StW b G S L R F M w0)(v:SV)(hv:v.Ok)(h:∀(C0:World->Prop) (Q':Act->Prop),(∀w,C0 w->View G S L R F M w)->bF P ops C0 Q' [] N ((k,v.den G)::denE G E)->bF P ops C0 Q' [o] N (denE G E))(hn:gS P b ops Q N T' G w0 rest ((k,v)::E)):gS P b ops Q N T' G w0 ((i,o)::rest) E:=λhE =>
 g_op rfl (h _ _ (λ_ hw=>(hst.later hw.1).view) (g_go (o:=o) (hn (hE.cons hv))))
theorem g_eq{l:List (Nat×Oper)}(k:Nat){v:SV}(v':SV)(h:lookS E k=some v)(he:v=v')(hn:gS P b ops Q N T' G w0 l ((k,v')::E)):gS P b ops Q N T' G w0 l E:=λhE=>by
 subst he
 intro a Fa ha hF
 exact hn (hE.cons (hE.get h)) a Fa (ha.more (ha.get k _ (by rw [look_den,h];rfl))) hF
theorem g_is{l:List (Nat×Oper)}(k:Nat){t:Bool}(q:Bool)(h:lookS E k=some (.b t))(he:t=q)(hn:gS P b ops Q N T' G w0 l ((k,.v (.bool q))::E)):gS P b ops Q N T' G w0 l E:=λhE=>by
 subst he
 intro a Fa ha hF
 exact hn (hE.cons trivial) a Fa (ha.more (ha.get k _ (by rw [look_den,h];rfl))) hF
theorem g_num{l:List (Nat×Oper)}(k:Nat){K:IntKind}{m:Int}(n:Int)(h:lookS E k=some (.v (.int K m)))(he:m=n)(hn:gS P b ops Q N T' G w0 l ((k,.v (.int K n))::E)):gS P b ops Q N T' G w0 l E:=g_eq k _ h (by rw [he]) hn
end
theorem g_call1{b:Base}{ops:Array Oper}{Q:Exit->Act->World->Prop}{N:Nat}{T':List Oper}{G:Nat->Nat}{S:Nat->Prop}{L:List LV}{R:List Res}{F M:World->Prop}{w0:World}{E:SE}{o:Oper}{rest:List (Nat×Oper)}{i k:Nat}{f:FuncId}{xs:Array Operand}{ats:Array TypeId}{svs:List SV}{r:RV}
 (hst:StW b G S L R F M w0)(args:List Value)(hg:o.guard=none)(hd:o.dst=some k)(hk:aQ k N=true)(hf:Own f)(ho:o.op = .call { callee:=.value (.func f),args:=xs,argTypes:=ats })(hx:evSs E xs.toList=some svs)
 (ha:(∀x∈L,∀g,x.g=some g->G x.j=g)->svs.map (SV.den G)=args)(hr:r.sv.Ok)(hs:∀w,View G S L R F M w->Calls Tryz.prog f args.toArray w λe w'=>e = .returned r.den/\Below w.heap.size w w')
 (hn:gS Tryz.prog b ops Q N T' G w0 rest ((k,r.sv)::E)):gS Tryz.prog b ops Q N T' G w0 ((i,o)::rest) E:=by
 refine g_f hst r.sv hr (λC0 Q' hC hQ=>?_) hn;rw [RV.sv_den] at hQ;exact f_call args.toArray r.den hg hd hk hf (λw hw=>hs w (hC w hw)) ho (by rw [evSs_ok hx,ha λx hx=>(hst.var x hx).2.2]) hQ
def SQ.cl(q:SQ):List Value:=q.den.cells.toList
def SQ.parts1:SQ->List Pt
  | .c s=>[.one s]
  | .p ps=>ps
def OkF{α:Type}(k:Nat)(fe:α->SQ)(l:List α):Prop:=∀x∈l,OkP (fe x).parts1/\(fe x).cl.length=k
theorem SQ.cl_parts{q:SQ}(h:OkP q.parts1):q.cl=(catP q.parts1).toList:=by
 cases q with
 | c s=>exact congrArg Array.toList (h _ aP).2.2
 | p ps=>rfl
theorem SQ.ok_parts{q:SQ}(h:OkP q.parts1):q.Ok:=by
 cases q with
 | c s=>exact(h _ aP).1
 | p ps=>exact h
theorem SQ.cl_one{q:SQ}(h:OkP q.parts1):∀v∈q.cl,v.oneCell'=true:=by
 rw [SQ.cl_parts h];exact h.one
def Rd{α:Type}(k:Nat)(fe:α->SQ)(A:Option Addr)(c:Nat)(l:List α)(w:World):Prop :=
  l.length<=c/\c<=9223372036854775807/\(A=none->c=0)/\OkF k fe l/\(0<l.length->∃b o,A=some ⟨b,o,none⟩/\b<w.heap.size/\∀(i:Nat) x,l[i]?=some x->w.rangeAt b (o+k*i) (fe x).cl)
section
variable{α:Type}{k c:Nat}{fe:α->SQ}{A:Option Addr}{l:List α}{w w':World}
theorem Rd.keep(h:Rd k fe A c l w)(hs:w.heap.size<=w'.heap.size)(hk:∀b,A.map (·.block)=some b->b<w.heap.size->w'.heap[b]?=w.heap[b]?):Rd k fe A c l w':=by
 obtain⟨h1,h2,h3,h4,h5⟩:=h;refine⟨h1,h2,h3,h4,λhl=>?_⟩;obtain⟨b,o,e,hb,hr⟩:=h5 hl;subst e;exact⟨b,o,rfl,b9 hb hs,λi x hi j v hj=>(World.cell?_of_block (w:=w) (w':=w') (a:=⟨b,o+k*i+j,none⟩) (hk b rfl hb)).trans (hr i x hi j v hj)⟩
instance:Pst (Rd k fe A c l):=⟨λ_ _ h hb=>h.keep hb.size λb _ hlt=>hb.block b hlt⟩
theorem Rd.later(h:Rd k fe A c l w)(hb:Below w.heap.size w w'):Rd k fe A c l w':=h.keep hb.size λb _ hlt=>hb.block b hlt
theorem Rd.nil(k:Nat)(fe:α->SQ)(w:World):Rd k fe none 0 [] w:=⟨aF _,by decide,λ_=>rfl,λ_ h=>(by cases h),λh=>absurd h (gI _)⟩
theorem Rd.take(h:Rd k fe A c l w)(n:Nat):Rd k fe A c (l.take n) w:=by
 obtain⟨h1,h2,h3,h4,h5⟩:=h;refine⟨b8 (List.length_take_le' _ _) h1,h2,h3,λx hx=>h4 x (List.mem_of_mem_take hx),λhl=>?_⟩;obtain⟨b,o,e,hb,hr⟩:=h5 (by rw [aU] at hl;omega);refine⟨b,o,e,hb,λi x hi=>hr i x ?_⟩;rw [dE] at hi
 split at hi
 ·exact hi
 ·cases hi
end
def ptrAt(A:Option Addr)(n:Nat):Value:=match A with
  | some a=>.pointer (some ⟨a.block,a.off+n,none⟩)
  | none=>.pointer none
structure EL where
  k1:Nat
  k2:Nat
  sz:Nat
  t:TypeId
  A:Option Addr
  n:Nat
  c:Nat
  i:Int
def elemS(T:List TyR)(N:Nat)(E:SE)(o1 o2:Oper):Option EL:=match o1.dst,o2.dst,o1.op,o2.op with
  | some k1,some k2,.indexAddr t x y,.load t' (.tmp z)=>match bN z k1,aQ k1 N,aQ k2 N,findT T t with
    | true,true,true,some r=>match r.el with
      | some e=>match findT T e,evS E x,evS E y with
        | some re,some (.q (.c (.v (.slice A n c)))),some (.q (.c (.v (.int _ i))))=>some ⟨k1,k2,sizeP re.zero,t',A,n,c,i⟩
        | _,_,_=>none
      | none=>none
    | _,_,_,_=>none
  | _,_,_,_=>none
theorem el_of{P:Program}{r:TyR}(h:r.ok P){e:TypeId}(he:r.el=some e):P.underlying r.t=some (.slice e):=by
 obtain⟨it,d,h5,h6, -, -, -, -,h7, -⟩:=h.info;rw [he] at h7
 cases d<;>first|(cases h7;done)|skip
 injection h7 with h7
 subst h7;exact h6
theorem run_index{P:Program}{t e:TypeId}{k:Nat}(ht:P.underlying t=some (.slice e))(he:(P.info? e).map (·.size)=some k)(b o n c:Nat)(K:IntKind)(i:Nat)(hi:i<n)(w:World) :
  (Instr.indexAt t (.slice (some ⟨b,o,none⟩) n c) (.int K (i:Int))).run P w = .ok (.pointer (some ⟨b,o+k*i,none⟩)) w:=by
 cases hq:P.info? e with
 | none=>simp [hq] at he
 | some ie =>
  have hs:ie.size=k:=by simpa [hq] using he
  have h1:(i:Int)<(n:Int):=by omega
  have h2:(0:Int)<=(i:Int):=by omega
  simp [Instr.indexAt,asIntOf,run_underlying ht,sizeOf,typeInfo,hq,hs,dA,eN,hi]
theorem elemS_ok{P:Program}{T:List TyR}(hT:OkT P T){N:Nat}{E:SE}{o1 o2:Oper}{u:EL}(h:elemS T N E o1 o2=some u) :
  o1.dst=some u.k1/\o2.dst=some u.k2/\aQ u.k1 N=true/\aQ u.k2 N=true/\o2.op = .load u.t (.tmp u.k1)/\∃t e x y K,o1.op = .indexAddr t x y/\P.underlying t=some (.slice e)/\(P.info? e).map (·.size)=some u.sz/\evS E x=some (.v (.slice u.A u.n u.c))/\evS E y=some (.v (.int K u.i)):=by
 unfold elemS at h
 split at h
 ·rename_i k1 k2 t x y t' z e1 e2 e3 e4
  split at h
  ·rename_i r e5 e6 e7 hr
   split at h
   ·rename_i e he
    split at h
    ·rename_i re A n c K i hre hx hy
     injection h with h
     subst h;obtain⟨h1,rfl⟩:=findT_ok hT hr;have h2:=findT_ok hT hre;clear hre;obtain⟨h2,rfl⟩:=h2;obtain⟨it,d,h5,_,h6, -⟩:=h2.info;have e5:=aM e5;subst e5;exact⟨e1,e2,e6,e7,e4,_,_,x,y,K,e3,el_of h1 he,by rw [h5,bI,h6],hx,hy⟩
    ·cases h
   ·cases h
  ·cases h
 ·cases h
section
variable{α:Type}{fe:α->SQ}{l:List α}{P:Program}{T:List TyR}{b:Base}{ops:Array Oper}{Q:Exit->Act->World->Prop}{N:Nat}{E:SE}{L:List LV}{R:List Res}{F M:World->Prop}{o1 o2:Oper}{u:EL}
theorem elem_run(hT:OkT P T)(h:elemS T N E o1 o2=some u)(j:Nat){x:α}(hj:u.i=(j:Int))(hx:l[j]?=some x)(hn:u.n=l.length)(hl:loadS T (fe x).parts1 u.t 0=some (fe x)) :
  ∀{G:Nat->Nat} {a:Act} {w:World},Rd u.sz fe u.A u.c l w->Fr N (denE G E) a->(execOp a.eval o1).run P w = .ok (.value (ptrAt u.A (u.sz*j))) w/\(fe x).Ok /\
   ∀a':Act,a'.eval (.tmp u.k1)=ptrAt u.A (u.sz*j)->(execOp a'.eval o2).run P w = .ok (.value (fe x).den) w:=by
 intro G a w hrd ha
 obtain⟨h1,h2,h3,h4,h5,t,e,y1,y2,K,h6,h7,h8,h9,h10⟩:=elemS_ok hT h;have hlt:=(bA.1 hx).1;obtain⟨_,_,_,hok,hr⟩:=hrd;obtain⟨bk,o,hA,hb,hr⟩:=hr (by omega);obtain⟨hp,hsz⟩:=hok x (aR hx);have e1:=ha.eval (evS_ok h9);have e2:=ha.eval (evS_ok h10)
 have hq:ptrAt u.A (u.sz*j) = .pointer (some ⟨bk,o+u.sz*j,none⟩):=by rw [hA];rfl
 refine⟨?_,SQ.ok_parts hp,λa' ha'=>?_⟩
 ·have hi:=run_index (P:=P) h7 h8 bk o u.n u.c K j (by omega) w
  rw [<-hA,<-hj] at hi
  unfold execOp
  simp only [h6,e1,e2,SV.den,SQ.den,SC.den,hi,aG,aH,aD,hq]
 ·obtain⟨_,h12⟩:=loadS_at hT hp hl
  have h13:=h12 (w:=w) (g:=bk) (base:=o+u.sz*j) (by rw [<-SQ.cl_parts hp];exact hr j x hx);rw [eX] at h13
  unfold execOp
  simp only [h5,ha',hq,h13,aG,aH,aD]
theorem ptrAt_ok(A:Option Addr)(n:Nat):(SV.o (ptrAt A n)).Ok:=by
 cases A<;>exact⟨rfl,rfl⟩
theorem want_any{ops:Array Oper}{N k:Nat}{E:SE}{o:Oper}{v:SV}{q:Bool}(h:wantS ops N ((k,.v undef)::E) o=some q):wantS ops N ((k,v)::E) o=some q:=by
 unfold wantS at h ⊢
 cases hgd:o.guard with
 | none=>rw [hgd] at h;exact h
 | some jb =>
  obtain⟨j,b⟩:=jb;rw [hgd] at h
  dsimp only at h ⊢
  cases ht:(ops[j]?).bind (·.dst) with
  | none=>rw [ht] at h;cases h
  | some t =>
   rw [ht] at h
   dsimp only at h ⊢
   cases hN:aQ t N with
   | false=>rw [hN] at h;cases h
   | true =>
    rw [hN] at h;simp only [lookS] at h ⊢
    cases he:bN k t with
    | true=>rw [he] at h;cases h
    | false=>rw [he] at h;exact h
theorem l_elem{rest:List Oper}(hT:OkT P T)(h:elemS T N E o1 o2=some u)(hg:o1.guard=none)(hw:wantS ops N ((u.k1,.v undef)::E) o2=some true)(j:Nat){x:α}(hj:u.i=(j:Int))(hx:l[j]?=some x)(hn:u.n=l.length)(hl:loadS T (fe x).parts1 u.t 0=some (fe x))
 (hrd:∀G S w,View G S L R F M w->Rd u.sz fe u.A u.c l w)(hk:lS P b ops Q N rest ⟨(u.k2,.q (fe x))::(u.k1,.o (ptrAt u.A (u.sz*j)))::E,L,R,F,M⟩):lS P b ops Q N (o1::o2::rest) ⟨E,L,R,F,M⟩:=λa w ⟨G,S,h1,h2,h3⟩=>by
 obtain⟨d1,d2,n1,n2,ho2, -⟩:=elemS_ok hT h;obtain⟨r1,hok,r2⟩:=elem_run hT h j hj hx hn hl (hrd G S w h3.view) h1
 have hw1:aO o1 (yielded ops a.tmps)=true:=by simp [aO,hg]
 refine wpl_go hw1 r1 ?_;rw [d1];have f1:Fr N (denE G ((u.k1,.o (ptrAt u.A (u.sz*j)))::E)) (a.put (some u.k1) (ptrAt u.A (u.sz*j))):=h1.put n1 _;refine wpl_go (wantS_ok (E:=(u.k1,.o (ptrAt u.A (u.sz*j)))::E) f1 (want_any hw)) (r2 _ (eval_put_same h1 n1 _)) ?_;rw [d2];exact hk _ w ⟨G,S,f1.put n2 _,(h2.cons (ptrAt_ok _ _)).cons hok,h3⟩
theorem g_elem{T':List Oper}{G:Nat->Nat}{S:Nat->Prop}{w0:World}{rest:List (Nat×Oper)}{i1 i2:Nat}(hT:OkT P T)(hst:StW b G S L R F M w0)(h:elemS T N E o1 o2=some u)(hg:o1.guard=none)(hw:wantS ops N ((u.k1,.v undef)::E) o2=some true)(j:Nat){x:α}(hj:u.i=(j:Int))(hx:l[j]?=some x)(hn:u.n=l.length)(hl:loadS T (fe x).parts1 u.t 0=some (fe x))
 (hrd:∀G S w,View G S L R F M w->Rd u.sz fe u.A u.c l w)(hk:gS P b ops Q N T' G w0 rest ((u.k2,.q (fe x))::(u.k1,.o (ptrAt u.A (u.sz*j)))::E)):gS P b ops Q N T' G w0 ((i1,o1)::(i2,o2)::rest) E:=λhE=>by
 obtain⟨d1,d2,n1,n2,ho2, -⟩:=elemS_ok hT h;have hv:=λw (hw:Up w0 w)=>hrd G S w (hst.later hw).view
 have hok:(fe x).Ok:=by
  obtain⟨_,_,_,h4,_⟩:=hv w0 (Up.refl _);exact SQ.ok_parts (h4 x (aR hx)).1
 refine g_op rfl (λa ha=>b_val (v:=ptrAt u.A (u.sz*j)) (by simp [aO,hg]) (λw hw=>(elem_run hT h j hj hx hn hl (hv w hw.1) ha).1) ?_);rw [d1];have f1:Fr N (denE G ((u.k1,.o (ptrAt u.A (u.sz*j)))::E)) (a.put (some u.k1) (ptrAt u.A (u.sz*j))):=ha.put n1 _;refine g_go (o:=o1) (E:=denE G ((u.k1,.o (ptrAt u.A (u.sz*j)))::E)) (g_op rfl (λa2 ha2=>b_val (v:=(fe x).den) (wantS_ok (E:=(u.k1,.o (ptrAt u.A (u.sz*j)))::E) ha2 (want_any hw)) (λw hw=>?_) ?_)) _ f1
 ·have hev:a2.eval (.tmp u.k1)=ptrAt u.A (u.sz*j):=ha2.get u.k1 _ (by rw [denE,look_cons,if_pos rfl];rfl)
  exact(elem_run hT h j hj hx hn hl (hv w hw.1) ha).2.2 a2 hev
 ·rw [d2]
  exact g_go (o:=o2) (hk ((hE.cons (ptrAt_ok _ _)).cons hok)) _ (ha2.put n2 _)
end
def flatF{α:Type}(fe:α->SQ)(l:List α):List Value:=l.flatMap λx=>(fe x).cl
section
variable{α:Type}{k:Nat}{fe:α->SQ}{l m:List α}
theorem flatF_app:flatF fe (l++m)=flatF fe l++flatF fe m:=List.flatMap_append
theorem flatF_len(h:OkF k fe l):(flatF fe l).length=l.length*k:=by
 induction l with
 | nil=>simp [flatF]
 | cons x l ih =>
  have h1:=ih λy hy=>h y (by simp [hy]);have h2:=(h x (by simp)).2;simp only [flatF,pA,aB,bD] at h1 ⊢;rw [h1,h2,o6]
  omega
theorem flatF_one(h:OkF k fe l):∀v∈flatF fe l,v.oneCell'=true:=λv hv=>by
 obtain⟨x,hx,hv⟩:=List.mem_flatMap.1 hv;exact SQ.cl_one (h x hx).1 v hv
theorem flatF_split(h:OkF k fe l){i:Nat}{x:α}(hi:l[i]?=some x):∃A Z,flatF fe l=A++((fe x).cl++Z)/\A.length=k*i/\∀y:α,flatF fe (l.set i y)=A++((fe y).cl++Z):=by
 induction l generalizing i with
 | nil=>simp at hi
 | cons y l ih =>
  cases i with
  | zero =>
   simp only [List.getElem?_cons_zero,aW] at hi;subst hi;exact⟨[],flatF fe l,by simp [flatF],rfl,λz=>by simp [flatF]⟩
  | succ i =>
   obtain⟨A,Z,h1,h2,h3⟩:=ih (λz hz=>h z (by simp [hz])) (by simpa using hi);refine⟨(fe y).cl++A,Z,?_,?_,λz=>?_⟩
   ·rw [a6,<-h1]
    simp [flatF]
   ·rw [aB,h2,(h y (by simp)).2,Nat.mul_succ]
    omega
   ·rw [a6,<-h3 z]
    simp [flatF]
theorem OkF.app(h:OkF k fe l)(h':OkF k fe m):OkF k fe (l++m):=λx hx=>(List.mem_append.1 hx).elim (h x) (h' x)
theorem OkF.set(h:OkF k fe l){i:Nat}{y:α}(hy:OkP (fe y).parts1/\(fe y).cl.length=k):OkF k fe (l.set i y):=λx hx=>(List.mem_or_eq_of_mem_set hx).elim (h x) λe=>e▸hy
end
def OwnS{α:Type}(lo:Nat)(e:TypeId)(k:Nat)(fe:α->SQ)(A:Option Addr)(c:Nat)(l:List α):Res where
  holds w S:=OkF k fe l/\w.ownsRow lo e k (.slice A l.length c) l.length (flatF fe l)/\∀j,S j↔A.map (·.block)=some j
  keep:=λ{w w' S} ⟨h1,h2,h3⟩ hk=>by
    refine⟨h1,⟨h2.1,?_⟩,h3⟩
    rcases h2.2 with h4|⟨g,cap,cur,hv,hb,hg,hr⟩
    · exact .inl h4
    · injection hv with h5 h6 h7
      refine .inr ⟨g,cap,cur,by rw [h5,h7],hb,?_,hr⟩
      rw [hk g ((h3 g).2 (by rw [h5];rfl))]
      exact hg
  lt:=λ{w S} ⟨_,h2,h3⟩ j hj=>by
    have h4:=(h3 j).1 hj
    cases A with
    | none=>cases h4
    | some a =>
      have:=(h2.lt a.block rfl).2
      simp only [bI,aW] at h4
      rw [<-h4]
      exact this
section
variable{α:Type}{lo e k c:Nat}{fe:α->SQ}{A:Option Addr}{l:List α}{w:World}{S:Nat->Prop}
theorem OwnS.rd(h:(OwnS lo e k fe A c l).holds w S):Rd k fe A c l w:=by
 obtain⟨h1,h2,h3⟩:=h
 rcases h2.2 with⟨h4,h5⟩|⟨g,cap,cur,hv,hb,hg,hn,hm,hs,ht⟩
 ·injection h4 with h6 h7 h8
  have:=bV h5;subst h6 h8 this;exact Rd.nil _ _ _
 ·injection hv with h6 h7 h8
  subst h6 h8;refine⟨hn,by simp only [maxLen] at hm;omega,λh=>(by cases h),h1,λ_=>⟨g,0,rfl,(Array.getElem?_eq_some_iff.1 hg).1,λi x hi j v hj=>?_⟩⟩;obtain⟨B,Z,h9,h10,_⟩:=flatF_split h1 hi;have hB:Blk w g e cur:=hg;rw [hB.cell,aZ];have hlt:=(bA.1 hj).1
  have h11:(flatF fe l)[k*i+j]?=some v:=by
   rw [h9,List.getElem?_append_right (by omega),h10,Nat.add_sub_cancel_left,List.getElem?_append_left hlt];exact hj
  rw [<-ht,dE] at h11
  split at h11
  ·simpa using h11
  ·cases h11
theorem OwnS.nil(lo e k:Nat)(fe:α->SQ)(w:World):(OwnS lo e k fe none 0 []).holds w λ_=>False :=
 ⟨λ_ h=>(by cases h),⟨by simp [flatF],.inl ⟨rfl,rfl⟩⟩,λj=>⟨False.elim,λh=>(by cases h)⟩⟩
theorem OwnS.inb(h:(OwnS lo e k fe A c l).holds w S):∀a,A=some a->lo<=a.block/\a.block<w.heap.size:=λa ha=>h.2.1.lt a.block (by rw [ha];rfl)
end
theorem fill_row{k:Nat}:∀(vs:List Value) (A Z:List Value) (i:Nat),A.length=i*k->Z.length=k*vs.length->(∀v∈vs,v.cells.size=k) ->
  Instr.fill (λi=>some (i*k,k)) (A++Z).toArray ((vs.zipIdx i).map λx=>(x.2,x.1))=some (A++vs.flatMap λv=>v.cells.toList).toArray
 | [],A,Z,i,_,hZ,_=>by
  obtain rfl:=bV (show Z.length=0 by simpa using hZ)
  rfl
 | v::vs,A,Z,i,hA,hZ,hl=>by
  rw [bD,Nat.mul_succ] at hZ;have hk:=hl v (by simp);have e:Z=Z.take k++Z.drop k:=(cW k Z).symm
  have tk:(Z.take k).length=k:=by rw [aU];omega
  rw [e,List.zipIdx_cons,bX];rw [fill_cells (λi=>some (i*k,k)) i k A (Z.take k) (Z.drop k) v.cells.toList _ v (by rw [hA]) (by rw [a9,hk]) tk (by simp),<-a6];rw [fill_row vs (A++v.cells.toList) (Z.drop k) (i+1) (by rw [aB,show v.cells.toList.length=k from by rw [a9,hk],hA,Nat.succ_mul]) (by rw [dC];omega) (λu hu=>hl u (by simp [hu]))];rw [pA,a6]
theorem run_lit{P:Program}{t e:TypeId}{ie:TypeInfo}{z:Value}{k:Nat}(ht:P.underlying t=some (.slice e))(hi:P.info? e=some ie)(hz:ie.zero=some z)(hs:ie.size=k)(vs:List Value)(n:Nat)(parts:Array (Nat×Value))(hp:parts.toList=(vs.zipIdx 0).map λx=>(x.2,x.1))(hn:vs.length=n)(h0:0<n*k)(h24:n*k<=16777216)(hl:∀v∈vs,v.cells.size=k)(w:World) :
  (Instr.buildSlice t n parts).run P w = .ok (.slice (some ⟨w.heap.size,0,none⟩) n n) (w.alloc (.cells (vs.flatMap λv=>v.cells.toList).toArray e)):=by
 subst hs;refine run_buildSlice w t e n parts _ ie z ht hi hz (by omega) (by omega) ?_;rw [hp]
 have hsz:((Array.range (n*ie.size)).map (z.cells[· % z.cells.size]!)).size=n*ie.size:=by simp
 generalize (Array.range (n*ie.size)).map (z.cells[· % z.cells.size]!)=Z at *;have:=fill_row (k:=ie.size) vs [] Z.toList 0 (by simp) (by rw [a9,hsz,hn,eN]) hl
 rwa [gJ,gJ,dZ] at this
def slS(T:List TyR)(t:TypeId):Option (TypeId×Nat×Nat):=match findT T t with
  | some r=>match r.el with
    | some e=>match findT T e with
      | some re=>some (e,sizeP re.zero,re.w)
      | none=>none
    | none=>none
  | none=>none
theorem slS_ok{P:Program}{T:List TyR}(hT:OkT P T){t e:TypeId}{k bs:Nat}(h:slS T t=some (e,k,bs)):P.underlying t=some (.slice e)/\∃ie z,P.info? e=some ie/\ie.zero=some z/\ie.size=k/\ie.bytes=bs/\z.cells.size=k/\∃zs,OkP zs/\z.cells=catP zs/\∃r,findT T e=some r/\r.zero=zs:=by
 unfold slS at h
 split at h
 ·rename_i r hr
  split at h
  ·rename_i e' he
   split at h
   ·rename_i re hre
    injection h with h
    injection h with e1 h
    injection h with e2 e3
    subst e1 e2 e3;obtain⟨h1,rfl⟩:=findT_ok hT hr;have hre':=hre;have h2:=findT_ok hT hre;clear hre;obtain⟨h2,rfl⟩:=h2;obtain⟨it,d,h5,_,h6,h7,_,_,_,_,_,h8⟩:=h2.info
    cases hz:it.zero with
    | none=>rw [hz] at h7;cases h7
    | some z =>
     rw [hz] at h7;simp only [bI,aW] at h7;exact⟨el_of h1 he,it,z,h5,hz,h6,h8,by rw [h7,h2.2.size],re.zero,h2.2,h7,re,hre',rfl⟩
   ·cases h
  ·cases h
 ·cases h
theorem OwnS.new{α:Type}{lo e k:Nat}{fe:α->SQ}{l:List α}(w:World)(hlo:lo<=w.heap.size)(h:OkF k fe l)(hm:l.length<=9223372036854775807):(OwnS lo e k fe (some ⟨w.heap.size,0,none⟩) l.length l).holds (w.alloc (.cells (flatF fe l).toArray e)) λj=>j=w.heap.size :=
 ⟨h,⟨flatF_len h,.inr ⟨w.heap.size,l.length,(flatF fe l).toArray,rfl,hlo,heap_alloc_new w _,aF _,by simp only [maxLen];omega,by simp [flatF_len h],List.take_of_length_le (nI (flatF_len h))⟩⟩,λj=>by simp [eq_comm]⟩
section
variable{α:Type}{fe:α->SQ}{l:List α}{P:Program}{T:List TyR}{b:Base}{ops:Array Oper}{Q:Exit->Act->World->Prop}{N:Nat}{E:SE}{L:List LV}{R:List Res}{F M:World->Prop}{o o2:Oper}{rest:List Oper}{k e sz bs:Nat}{t:TypeId}
theorem oneS(hg:o.guard=none){a:Act}:aO o (yielded ops a.tmps)=true:=by simp [aO,hg]
theorem map_parts{G:Nat->Nat}{a:Act}(ha:Fr N (denE G E) a):∀(l:List (Nat×Operand)) (m:List (Value×Nat)),l.map (λp=>(p.1,(evS E p.2).map (SV.den G)))=m.map (λx=>(x.2,some x.1))->l.map (λ(i,x)=>(i,a.eval x))=m.map λx=>(x.2,x.1)
 | [],[],_=>rfl
 | [],_::_,h=>by cases h
 | _::_,[],h=>by cases h
 | p::l,u::m,h=>by
  simp only [bX,iZ,cY] at h ⊢;refine⟨⟨h.1.1,?_⟩,map_parts ha l m h.2⟩
  cases hx:evS E p.2 with
  | none=>rw [hx] at h;cases h.1.2
  | some v =>
   rw [hx] at h;simp only [bI,aW] at h;exact(ha.eval (evS_ok hx)).trans h.1.2
theorem l_list{n:Nat}{parts:Array (Nat×Operand)}(hT:OkT P T)(lo:Nat)(l:List α)(hg:o.guard=none)(hd:o.dst=some k)(hk:aQ k N=true)(ho:o.op = .buildSlice t n parts)(hs:slS T t=some (e,sz,bs))
 (hp:∀G:Nat->Nat,parts.toList.map (λp=>(p.1,(evS E p.2).map (SV.den G)))=((l.map λx=>(fe x).den).zipIdx 0).map λx=>(x.2,some x.1))(hn:l.length=n)(h0:0<n*sz)(h24:n*sz<=16777216)(hok:OkF sz fe l)(hlo:lo<=b.B.heap.size)
 (hc:∀A,lS P b ops Q N rest ⟨(k,.v (.slice A n n))::E,L,OwnS lo e sz fe A n l::R,F,M⟩):lS P b ops Q N (o::rest) ⟨E,L,R,F,M⟩:=λa w ⟨G,S,h1,h2,h3⟩=>by
 obtain⟨ht,ie,z,hi,hz,hsz,hbs,hzs,_⟩:=slS_ok hT hs
 have hr:=run_lit (P:=P) ht hi hz hsz (l.map λx=>(fe x).den) n (parts.map λ(i,x)=>(i,a.eval x)) (by rw [Array.toList_map];exact map_parts h1 _ _ (hp G)) (by rw [List.length_map,hn]) h0 h24 (λv hv=>by
  obtain⟨x,hx,rfl⟩:=bP.1 hv;have:=(hok x hx).2
  rwa [SQ.cl,a9] at this) w
 have e1:((l.map λx=>(fe x).den).flatMap λv=>v.cells.toList)=flatF fe l:=by rw [List.flatMap_map];rfl
 rw [e1] at hr;subst hn
 refine wpl_go (v:=.slice (some ⟨w.heap.size,0,none⟩) l.length l.length) (w':=w.alloc (.cells (flatF fe l).toArray e)) (oneS hg) (by
  unfold execOp
  simp only [ho,aG,hr,aD,aH]) ?_
 rw [hd];have hsz':0<sz:=Nat.pos_of_mul_pos_left h0
 obtain⟨S',h4⟩:=h3.gain ((Below.refl w.heap.size w).alloc (aF _) _) (OwnS.new (lo:=lo) w (b8 hlo h3.chg.size) hok (by
  have:=Nat.le_mul_of_pos_right l.length hsz'
  omega)) (λj hj=>nI hj.symm)
 exact hc _ _ _ ⟨G,S',h1.put hk _,h2.cons trivial,h4⟩
theorem l_nil0{l':List Oper}(lo e sz:Nat)(fe:α->SQ)(h:lS P b ops Q N l' ⟨E,L,OwnS lo e sz fe none 0 []::R,F,M⟩):lS P b ops Q N l' ⟨E,L,R,F,M⟩:=λa w ⟨G,S,h1,h2,h3⟩=>by
 obtain⟨S',h4⟩:=h3.gain (Below.refl _ _) (OwnS.nil lo e sz fe w) (λ_ h=>h.elim);exact h a w ⟨G,S',h1,h2,h4⟩
theorem s_nil0{c:Code}(lo e sz:Nat)(fe:α->SQ)(h:cS P b c Q N ⟨E,L,OwnS lo e sz fe none 0 []::R,F,M⟩):cS P b c Q N ⟨E,L,R,F,M⟩:=λa w ⟨G,S,h1,h2,h3⟩=>by
 obtain⟨S',h4⟩:=h3.gain (Below.refl _ _) (OwnS.nil lo e sz fe w) (λ_ h=>h.elim);exact h a w ⟨G,S',h1,h2,h4⟩
end
structure PU where
  k1:Nat
  k2:Nat
  t:TypeId
  A:Option Addr
  n:Nat
  c:Nat
  q:SQ
def pushS(N:Nat)(E:SE)(o1 o2:Oper):Option PU:=match o1.dst,o2.dst,o1.op,o2.op with
  | some k1,some k2,.buildSlice t 1 ⟨[(0,z)]⟩,.call { callee:=.builtin .append,args:=⟨[s,.tmp y]⟩,argTypes:=⟨[t1,t2]⟩ }=>match bN y k1,bN t1 t,bN t2 t,aQ k1 N,aQ k2 N with
    | true,true,true,true,true=>match evS E z,evS E s,lookS E k1 with
      | some (.q q),some (.q (.c (.v (.slice A n c)))),none=>some ⟨k1,k2,t,A,n,c,q⟩
      | _,_,_=>none
    | _,_,_,_,_=>none
  | _,_,_,_=>none
theorem pushS_ok{N:Nat}{E:SE}{o1 o2:Oper}{u:PU}(h:pushS N E o1 o2=some u):o1.dst=some u.k1/\o2.dst=some u.k2/\aQ u.k1 N=true/\aQ u.k2 N=true/\lookS E u.k1=none /\
  ∃z s,o1.op = .buildSlice u.t 1 #[(0,z)]/\o2.op = .call { callee:=.builtin .append,args:=#[s,.tmp u.k1],argTypes:=#[u.t,u.t] }/\evS E z=some (.q u.q)/\evS E s=some (.v (.slice u.A u.n u.c)):=by
 unfold pushS at h
 split at h
 ·rename_i k1 k2 t z s y t1 t2 e1 e2 e3 e4
  split at h
  ·rename_i e5 e6 e7 e8 e9
   split at h
   ·rename_i q A n c e10 e11 e12
    injection h with h
    subst h;obtain rfl:=aM e5;obtain rfl:=aM e6;obtain rfl:=aM e7;exact⟨e1,e2,e8,e9,e12,z,s,e3,e4,e10,e11⟩
   ·cases h
  ·cases h
 ·cases h
theorem slice_of{w:World}{lo e k n:Nat}{v:Value}{xs:List Value}(h:w.ownsRow lo e k v n xs):∃A c,v = .slice A n c:=by
 rcases h.2 with⟨h1,h2⟩|⟨g,cap,cur,hv,_⟩
 ·exact⟨none,0,by rw [h1,h2]⟩
 ·exact⟨_,_,hv⟩
theorem ownBlock_slice(A:Option Addr)(n c:Nat):(Value.slice A n c).ownBlock=A.map (·.block):=by cases A<;>rfl
theorem OwnS.grow{α:Type}{P:Program}{T:List TyR}(hT:OkT P T){t e:TypeId}{lo sz bs c d:Nat}{fe:α->SQ}{A:Option Addr}{l m:List α}{ad:Addr}{w:World}{S:Nat->Prop}(ty:TypeId)(hs:slS T t=some (e,sz,bs))(h0:0<sz)(h:(OwnS lo e sz fe A c l).holds w S)(hok:OkF sz fe m)
 (hcells:∀j u,(flatF fe m)[j]?=some u->w.cell? (ad.add j)=some u)(hb:(l.length+m.length)*bs<=140737488355328)(hm:l.length+m.length<=9223372036854775807-64)(hlo:lo<=w.heap.size) :
  ∃A' c' w' S',(Builtin.append_ #[t,t] ty #[.slice A l.length c,.slice (some ad) m.length d]).run P w = .ok (.slice A' (l++m).length c') w'/\Chg S w w'/\(OwnS lo e sz fe A' c' (l++m)).holds w' S'/\∀k,S' k->k<w.heap.size->S k:=by
 obtain⟨ht,ie,z,hi,hz,hsz,hbs,hzs,_⟩:=slS_ok hT hs;obtain⟨h1,h2,h3⟩:=h;obtain⟨v',w',hr,ho,hg,_,hat⟩:=run_append_own_at (P:=P) w lo t ty e ie z sz bs ht hi hz hsz hbs hzs h0 _ l.length (flatF fe l) h2 ad m.length d (flatF fe m) (flatF_len hok) hcells (flatF_one hok) (by simp only [maxLen];omega) hb hlo;rw [<-flatF_app] at ho;obtain⟨A',c',rfl⟩:=slice_of ho;rw [ownBlock_slice] at hg hat;rw [ownBlock_slice] at hat;rw [<-aB] at hr ho;refine⟨A',c',w',λj=>A'.map (·.block)=some j,hr,(Chg.of_grown hg).mono λi _ hi=>(h3 i).2 hi,⟨h1.app hok,ho,λ_=>jO⟩,λj hj hlt=>?_⟩
 rcases hat with e1|e1
 ·exact(h3 j).2 (e1.symm.trans hj)
 ·rw [hj] at e1
  injection e1 with e1
  omega
section
variable{α:Type}{fe:α->SQ}{l:List α}{P:Program}{T:List TyR}{b:Base}{ops:Array Oper}{Q:Exit->Act->World->Prop}{N:Nat}{E:SE}{L:List LV}{R:List Res}{F M:World->Prop}{o1 o2:Oper}{rest:List Oper}{e sz bs lo:Nat}{u:PU}
theorem l_push(hT:OkT P T)(i:Nat)(x:α)(h:pushS N E o1 o2=some u)(hg:o1.guard=none)(hg2:o2.guard=none)(hs:slS T u.t=some (e,sz,bs))(hq:fe x=u.q)(hi:R[i]?=some (OwnS lo e sz fe u.A u.c l))(hn:u.n=l.length)(hx:OkP (fe x).parts1/\(fe x).cl.length=sz)(h0:0<sz)(h24:sz<=16777216)
 (hb:(l.length+1)*bs<=140737488355328)(hm:l.length<9223372036854775000)(hlo:lo<=b.B.heap.size)
 (hc:∀A' c',lS P b ops Q N rest ⟨(u.k2,.v (.slice A' (l++[x]).length c'))::E,L,R.set i (OwnS lo e sz fe A' c' (l++[x])),F,M⟩):lS P b ops Q N (o1::o2::rest) ⟨E,L,R,F,M⟩:=λa w ⟨G,S,h1,h2,h3⟩=>by
 obtain⟨d1,d2,n1,n2,hf,z,s,p1,p2,p3,p4⟩:=pushS_ok h;obtain⟨ht,ie,zz,hie,hz,hsz,hbs,hzs,_⟩:=slS_ok hT hs
 have hok:OkF sz fe [x]:=λy hy=>by rw [aE.1 hy];exact hx
 have hfl:flatF fe [x]=(fe x).cl:=by simp [flatF]
 have e1:=h1.eval (evS_ok p3)
 have hr:=run_lit (P:=P) ht hie hz hsz [(fe x).den] 1 #[(0,a.eval z)] (by rw [e1,hq];rfl) rfl (by omega) (by omega) (λv hv=>by
  rw [aE.1 hv];have:=hx.2
  rwa [SQ.cl,a9] at this) w
 have e2:([(fe x).den].flatMap λv=>v.cells.toList)=flatF fe [x]:=by simp [flatF,SQ.cl]
 rw [e2] at hr;have hal:=(Below.refl w.heap.size w).alloc (aF _) (.cells (flatF fe [x]).toArray e)
 refine wpl_go (v:=.slice (some ⟨w.heap.size,0,none⟩) 1 1) (w':=w.alloc (.cells (flatF fe [x]).toArray e)) (oneS hg) (by
  unfold execOp
  simp only [p1,jU,bX,oI,aG,hr,aD,aH]) ?_
 rw [d1];have hnew:=Blk.new w e (flatF fe [x]).toArray;have h4:=h3.later hal;generalize w.alloc (.cells (flatF fe [x]).toArray e)=w1 at *;have f1:=h1.putFar (k:=u.k1) (by rw [look_den,hf];rfl) (.slice (some ⟨w.heap.size,0,none⟩) 1 1);have e3:=f1.eval (evS_ok p4);have e4:(a.put (some u.k1) (.slice (some ⟨w.heap.size,0,none⟩) 1 1)).eval (.tmp u.k1) = .slice (some ⟨w.heap.size,0,none⟩) 1 1:=eval_put_same h1 n1 _;obtain⟨S1,h5,hput⟩:=h4.put hi
 obtain⟨A',c',w',S',hr2,hch,ho,hS'⟩:=OwnS.grow hT (d:=1) (ad:=⟨w.heap.size,0,none⟩) o2.type hs h0 h5 hok (λj v hj=>by
  rw [dA,hnew.cell,aZ]
  simpa using hj) hb (by simp;omega) (b8 hlo h4.chg.size)
 obtain⟨S'',h6⟩:=hput _ _ _ hch ho hS'
 have hr3:(Builtin.append_ #[u.t,u.t] o2.type #[.slice u.A u.n u.c,.slice (some ⟨w.heap.size,0,none⟩) 1 1]).run P w1 = .ok (.slice A' (l++[x]).length c') w':=by rw [hn];exact hr2
 refine wpl_go (v:=.slice A' (l++[x]).length c') (w':=w') (oneS hg2) (by
  unfold execOp
  simp only [p2,resolve,invoke,builtin,aG,aH,aD,jU,bX,oI,e3,e4,SV.den,SQ.den,SC.den,hr3]) ?_
 rw [d2];exact hc A' c' _ _ ⟨G,S'',f1.put n2 _,h2.cons trivial,h6⟩
end
theorem rd_own{α:Type}{lo e k c:Nat}{fe:α->SQ}{A:Option Addr}{l:List α}{L:List LV}{R:List Res}{F M:World->Prop}(i:Nat)(hi:R[i]?=some (OwnS lo e k fe A c l)):∀G S w,View G S L R F M w->Rd k fe A c l w:=λ_ _ _ h=>by
 obtain⟨S1,_,h1,_⟩:=h.res.at hi;exact OwnS.rd h1
theorem rd_fact{α:Type}{k c:Nat}{fe:α->SQ}{A:Option Addr}{l:List α}{L:List LV}{R:List Res}{F M:World->Prop}(h:∀w,F w->M w->Rd k fe A c l w):∀G S w,View G S L R F M w->Rd k fe A c l w:=λ_ _ w hv=>h w hv.fact hv.fresh
section
variable{α:Type}{fe:α->SQ}{b:Base}{G:Nat->Nat}{S:Nat->Prop}{L:List LV}{R:List Res}{F M:World->Prop}{w:World}{lo e k c:Nat}{A:Option Addr}{l:List α}
theorem StW.free(h:StW b G S L R F M w){i:Nat}(hi:R[i]?=some (OwnS lo e k fe A c l)):∃S',StW b G S' L (R.eraseIdx i) (λw=>Rd k fe A c l w/\F w) M w:=by
 obtain⟨S1,S2,h1,h2,h3,h4⟩:=h.let hi;refine⟨S2,h4.and λw' hw=>OwnS.rd h1 |>.keep hw.size λg hg hlt=>hw.block g hlt ?_⟩;have hS1:S1 g:=(h1.2.2 g).2 hg
 rintro(hx|hx|⟨j,hj,rfl⟩)
 ·exact(h.old g hx).2 (h.mine g (.inl ((h3 g).2 (.inl hS1))) (h.old g hx).1)
 ·exact h2 g hS1 hx
 ·exact h.sep j hj ((h3 _).2 (.inl hS1))
theorem StW.freeM(h:StW b G S L R F M w){i:Nat}(hi:R[i]?=some (OwnS lo e k fe A c l))(hlo:b.B.heap.size<=lo):∃S',StW b G S' L (R.eraseIdx i) F (λw=>Rd k fe A c l w/\M w) w:=by
 obtain⟨S1,S2,h1,h2,h3,h4⟩:=h.let hi;refine⟨S2,h4.andM λw' hw=>OwnS.rd h1 |>.keep hw.size λg hg hlt=>hw.block g hlt ?_⟩;have hS1:S1 g:=(h1.2.2 g).2 hg
 rintro(hx|hx|⟨j,hj,rfl⟩)
 ·cases A with
  | none=>cases hg
  | some a =>
   have:=(OwnS.inb h1 a rfl).1;simp only [bI,aW] at hg
   omega
 ·exact h2 g hS1 hx
 ·exact h.sep j hj ((h3 _).2 (.inl hS1))
end
section
variable{α:Type}{fe:α->SQ}{P:Program}{b:Base}{ops:Array Oper}{Q:Exit->Act->World->Prop}{N:Nat}{E:SE}{L:List LV}{R:List Res}{F M:World->Prop}{lo e k c:Nat}{A:Option Addr}{l:List α}
theorem l_free{l':List Oper}(i:Nat)(hi:R[i]?=some (OwnS lo e k fe A c l))(h:lS P b ops Q N l' ⟨E,L,R.eraseIdx i,λw=>Rd k fe A c l w/\F w,M⟩):lS P b ops Q N l' ⟨E,L,R,F,M⟩:=λa w ⟨G,S,h1,h2,h3⟩=>by
 obtain⟨S',h4⟩:=h3.free hi;exact h a w ⟨G,S',h1,h2,h4⟩
theorem l_freeM{l':List Oper}(i:Nat)(hi:R[i]?=some (OwnS lo e k fe A c l))(hlo:b.B.heap.size<=lo)(h:lS P b ops Q N l' ⟨E,L,R.eraseIdx i,F,λw=>Rd k fe A c l w/\M w⟩):lS P b ops Q N l' ⟨E,L,R,F,M⟩:=λa w ⟨G,S,h1,h2,h3⟩=>by
 obtain⟨S',h4⟩:=h3.freeM hi hlo;exact h a w ⟨G,S',h1,h2,h4⟩
theorem s_free{x:Code}(i:Nat)(hi:R[i]?=some (OwnS lo e k fe A c l))(h:cS P b x Q N ⟨E,L,R.eraseIdx i,λw=>Rd k fe A c l w/\F w,M⟩):cS P b x Q N ⟨E,L,R,F,M⟩:=λa w ⟨G,S,h1,h2,h3⟩=>by
 obtain⟨S',h4⟩:=h3.free hi;exact h a w ⟨G,S',h1,h2,h4⟩
theorem s_freeM{x:Code}(i:Nat)(hi:R[i]?=some (OwnS lo e k fe A c l))(hlo:b.B.heap.size<=lo)(h:cS P b x Q N ⟨E,L,R.eraseIdx i,F,λw=>Rd k fe A c l w/\M w⟩):cS P b x Q N ⟨E,L,R,F,M⟩:=λa w ⟨G,S,h1,h2,h3⟩=>by
 obtain⟨S',h4⟩:=h3.freeM hi hlo;exact h a w ⟨G,S',h1,h2,h4⟩
end
theorem made_flat{α:Type}{fe:α->SQ}{k:Nat}(z:Array Value)(x:α)(hz:z.toList=(fe x).cl)(hk:z.size=k)(n:Nat):(madeCells z (n*k)).toList=flatF fe (aA n x):=by
 induction n with
 | zero=>simp [madeCells,flatF]
 | succ n ih =>
  have e1:madeCells z ((n+1)*k)=madeCells z (n*k)++z:=by
   subst hk
   apply Array.ext
   ·simp [madeCells,o6]
   ·intro i h1 h2
    simp only [madeCells,qV,pF] at h1;rw [Array.getElem_append]
    split
    ·simp [madeCells]
    ·rename_i h3
     simp only [madeCells,qV,pF] at h3
     have hlt:i-n*z.size<z.size:=by rw [o6] at h1;omega
     have e:i%z.size=i-n*z.size:=by
      rw [show i=(i-n*z.size)+n*z.size by omega,Nat.add_mul_mod_self_right,Nat.add_sub_cancel];exact Nat.mod_eq_of_lt hlt
     simp only [madeCells,Array.getElem_map,Array.getElem_range,e,qV,pF];rw [getElem!_pos z _ hlt]
  rw [e1,Array.toList_append,ih,List.replicate_succ',flatF_app]
  simp [flatF,hz]
section
variable{α:Type}{fe:α->SQ}{P:Program}{T:List TyR}{b:Base}{ops:Array Oper}{Q:Exit->Act->World->Prop}{N:Nat}{E:SE}{L:List LV}{R:List Res}{F M:World->Prop}{o o1 o2:Oper}{rest:List Oper}{k e sz bs lo:Nat}{t:TypeId}
theorem l_makeS{x y:Operand}{K:IntKind}(hT:OkT P T)(lo:Nat)(n:Nat)(z:α)(hg:o.guard=none)(hd:o.dst=some k)(hk:aQ k N=true)(ho:o.op = .makeSlice t x y)(hs:slS T t=some (e,sz,bs))(hx:evS E x=some (.v (.int K (n:Int))))(hy:evS E y=some (.v (.int K (n:Int))))
 (hz:(findT T e).map (λr=>(catP r.zero).toList)=some (fe z).cl)(hok:OkP (fe z).parts1/\(fe z).cl.length=sz)(hb:bs*n<=281474976710656)(hm:n<=9223372036854775807)(hlo:lo<=b.B.heap.size)
 (hc:∀A,lS P b ops Q N rest ⟨(k,.v (.slice A n n))::E,L,OwnS lo e sz fe A n (aA n z)::R,F,M⟩):lS P b ops Q N (o::rest) ⟨E,L,R,F,M⟩:=λa w ⟨G,S,h1,h2,h3⟩=>by
 obtain⟨ht,ie,zz,hi,hzz,hsz,hbs,hzs,zs,_,hzc,r,hr1,hr2⟩:=slS_ok hT hs
 have hb':(ie.bytes:Int)*(n:Int)<=281474976710656:=by
  rw [hbs]
  have h:((bs*n:Nat):Int)<=281474976710656:=by omega
  rwa [Int.natCast_mul] at h
 have hr:=run_make (P:=P) w t e ie zz ht hi hzz K K n n (by omega) (Int.le_refl _) hb' (by omega);rw [hr1] at hz;simp only [bI,aW] at hz;have hfl:=made_flat (fe:=fe) zz.cells z (by rw [hzc,<-hr2];exact hz) hzs n
 have e1:madeCells zz.cells (n*ie.size)=(flatF fe (aA n z)).toArray:=by rw [hsz,<-hfl,dZ]
 simp only [Int.toNat_natCast] at hr;rw [e1] at hr;have e2:=h1.eval (evS_ok hx);have e3:=h1.eval (evS_ok hy)
 refine wpl_go (v:=.slice (some ⟨w.heap.size,0,none⟩) n n) (w':=w.alloc (.cells (flatF fe (aA n z)).toArray e)) (oneS hg) (by
  unfold execOp
  simp only [ho,e2,e3,SV.den,SQ.den,SC.den,aG,hr,aD,aH]) ?_
 rw [hd];have hnew:=OwnS.new (lo:=lo) (e:=e) (k:=sz) (fe:=fe) (l:=aA n z) w (b8 hlo h3.chg.size) (λx hx=>by rw [(List.mem_replicate.1 hx).2];exact hok) (by simpa using hm);rw [List.length_replicate] at hnew;obtain⟨S',h4⟩:=h3.gain ((Below.refl w.heap.size w).alloc (aF _) _) hnew (λj hj=>nI hj.symm);exact hc _ _ _ ⟨G,S',h1.put hk _,h2.cons trivial,h4⟩
structure PL where
  k1:Nat
  t:TypeId
  A:Option Addr
  n:Nat
  c:Nat
  i:Int
  q:SQ
def placeS(T:List TyR)(N:Nat)(E:SE)(o1 o2:Oper):Option PL:=match o1.dst,o2.dst,o1.op,o2.op with
  | some k1,none,.indexAddr t x y,.store t' (.tmp p) z=>match bN p k1,aQ k1 N,slS T t,findT T t' with
    | true,true,some (_,sz,_),some r=>match evS E x,evS E y,evS E z,bN (sizeP r.zero) sz,lookS E k1 with
      | some (.q (.c (.v (.slice A n c)))),some (.q (.c (.v (.int _ i)))),some (.q q),true,none=>some ⟨k1,t,A,n,c,i,q⟩
      | _,_,_,_,_=>none
    | _,_,_,_=>none
  | _,_,_,_=>none
theorem placeS_ok{P:Program}(hT:OkT P T){u:PL}(h:placeS T N E o1 o2=some u):o1.dst=some u.k1/\o2.dst=none/\aQ u.k1 N=true/\lookS E u.k1=none/\∃x y z t' K e sz bs,o1.op = .indexAddr u.t x y/\o2.op = .store t' (.tmp u.k1) z/\slS T u.t=some (e,sz,bs)/\(P.info? t').map (·.size)=some sz /\
  evS E x=some (.v (.slice u.A u.n u.c))/\evS E y=some (.v (.int K u.i))/\evS E z=some (.q u.q):=by
 unfold placeS at h
 split at h
 ·rename_i k1 t x y t' p z e1 e2 e3 e4
  split at h
  ·rename_i e sz bs r e5 e6 e7 e8
   split at h
   ·rename_i A n c K i q e9 e10 e11 e12 e13
    injection h with h
    subst h;obtain rfl:=aM e5;have h2:=findT_ok hT e8;clear e8;obtain⟨h2,rfl⟩:=h2;obtain⟨it,d,h5,_,h6, -⟩:=h2.info;exact⟨e1,e2,e6,e13,x,y,z,_,K,e,sz,bs,e3,e4,e7,by rw [h5,bI,h6,aM e12],e9,e10,e11⟩
   ·cases h
  ·cases h
 ·cases h
theorem l_place{u:PL}{l:List α}(hT:OkT P T)(i:Nat)(x:α)(j:Nat)(h:placeS T N E o1 o2=some u)(hg:o1.guard=none)(hg2:o2.guard=none)(hs:slS T u.t=some (e,sz,bs))(hq:fe x=u.q)(hi:R[i]?=some (OwnS lo e sz fe u.A u.c l))(hn:u.n=l.length)(hj:u.i=(j:Int))(hlt:j<l.length)(hx:OkP (fe x).parts1/\(fe x).cl.length=sz)
 (hc:lS P b ops Q N rest ⟨E,L,R.set i (OwnS lo e sz fe u.A u.c (l.set j x)),F,M⟩):lS P b ops Q N (o1::o2::rest) ⟨E,L,R,F,M⟩:=λa w ⟨G,S,h1,h2,h3⟩=>by
 obtain⟨d1,d2,n1,hf,x1,y1,z1,t',K,e',sz',bs',p1,p2,p3,p4,p5,p6,p7⟩:=placeS_ok hT h;rw [hs] at p3
 injection p3 with p3
 injection p3 with q1 p3
 injection p3 with q2 q3
 subst q1 q2 q3;obtain⟨ht,ie,zz,hie,hz,hsz,hbs,hzs,_⟩:=slS_ok hT hs;obtain⟨S1,h5,hput⟩:=h3.put hi;obtain⟨hok,hrow,hS1⟩:=h5
 rcases hrow.2 with⟨h6,h7⟩|⟨g,cap,cur,hv,hb,hg',hnc,hm,hcs,htk⟩
 ·omega
 injection hv with v1 _ v2
 have hB:Blk w g e cur:=hg';have e1:=h1.eval (evS_ok p5);have e2:=h1.eval (evS_ok p6);have hr:=run_index (P:=P) ht (by rw [hie,bI,hsz]) g 0 u.n u.c K j (by omega) w;rw [<-v1,<-hj,aZ] at hr
 refine wpl_go (v:=.pointer (some ⟨g,sz*j,none⟩)) (w':=w) (oneS hg) (by
  unfold execOp
  simp only [p1,e1,e2,SV.den,SQ.den,SC.den,aG,hr,aD,aH]) ?_
 rw [d1];have f1:=h1.putFar (k:=u.k1) (by rw [look_den,hf];rfl) (.pointer (some ⟨g,sz*j,none⟩));have e3:=f1.eval (evS_ok p7);have e4:(a.put (some u.k1) (.pointer (some ⟨g,sz*j,none⟩))).eval (.tmp u.k1) = .pointer (some ⟨g,sz*j,none⟩):=eval_put_same h1 n1 _;obtain⟨B,Z,h9,h10,h11⟩:=flatF_split hok (aK hlt)
 have hxl:(fe x).den.cells.size=sz:=by rw [<-a9];exact hx.2
 have hcl:(fe l[j]).cl.length=sz:=(hok _ (List.getElem_mem hlt)).2;have hlen:=flatF_len hok;rw [h9,aB,aB,h10,hcl] at hlen;have hle:l.length*sz<=cap*sz:=Nat.mul_le_mul_right _ hnc;have hst:=run_store_part (P:=P) (t:=t') (v:=(fe x).den) (off:=sz*j) hB (by rw [p4,hxl]) (by rw [hxl,hcs];omega) (SQ.cl_one hx.1);rw [hxl] at hst
 have hcut:cur.toList=B++((fe l[j]).cl++(Z++cur.toList.drop (l.length*sz))):=by
  have h0:=(cW (l.length*sz) cur.toList).symm;rw [htk,h9,a6,a6] at h0;exact h0
 have hnew:(cur.toList.take (sz*j)++(fe x).den.cells.toList++cur.toList.drop (sz*j+sz))=B++((fe x).cl++(Z++cur.toList.drop (l.length*sz))):=by
  generalize cur.toList.drop (l.length*sz)=D at hcut ⊢;rw [hcut,<-h10,List.take_left,a6]
  congr 2
  rw [<-hcl,<-aB,<-a6,List.drop_left]
 rw [hnew] at hst;have hB':=hB.row (B++((fe x).cl++(Z++cur.toList.drop (l.length*sz)))).toArray
 obtain⟨S'',h12⟩:=hput (OwnS lo e sz fe u.A u.c (l.set j x)) (w.setRow g (B++((fe x).cl++(Z++cur.toList.drop (l.length*sz)))).toArray) S1 ((Chg.row w g _).mono λk _ hk=>(hS1 k).2 (by rw [hk,v1];rfl))
  ⟨hok.set hx,by
   refine⟨by rw [flatF_len (hok.set hx),bQ],.inr ⟨g,cap,_,by rw [bQ,v1,v2],hb,hB',by rw [bQ];exact hnc,hm,?_,?_⟩⟩
   ·have hD:(cur.toList.drop (l.length*sz)).length=cap*sz-l.length*sz:=by rw [dC,a9,hcs]
    rw [aT,aB,aB,aB,hD,hx.2,h10]
    omega
   ·rw [bQ,h11 x]
    have:l.length*sz=(B++((fe x).cl++Z)).length:=by
     rw [aB,aB,h10,hx.2]
     omega
    generalize cur.toList.drop (l.length*sz)=D
    show List.take (l.length*sz) (B++((fe x).cl++(Z++D)))=_
    have e9:B++((fe x).cl++(Z++D))=(B++((fe x).cl++Z))++D:=by simp only [a6]
    rw [this,e9,List.take_left],hS1⟩ (λk hk _=>hk)
 refine wpl_skip (w':=w.setRow g (B++((fe x).cl++(Z++cur.toList.drop (l.length*sz)))).toArray) (oneS hg2) (by
  unfold execOp
  simp only [p2,e3,e4,SV.den,<-hq,aG,hst,aD,aH]) ?_
 rw [d2];exact hc _ _ ⟨G,S'',f1,h2,h12⟩
end
def TY:List TyR:=[
  { t:=2,kind:=0,zero:=[.one (.v (.int .i64 0))],ik:=some .i64,w:=8 },
  { t:=3,kind:=0,zero:=[.one (.v (.int .i64 0))],ik:=some .i64,w:=8 },
  { t:=4,kind:=0,zero:=[.one (.v (.bool false))],w:=1 },
  { t:=5,kind:=0,zero:=[.one (.v (.int .u8 0))],ik:=some .u8,w:=1 },
  { t:=9,kind:=0,zero:=[.one (.v (.string ⟨#[]⟩))],w:=16 },
  { t:=12,kind:=0,zero:=[.one (.v (.int .u64 0))],ik:=some .u64,w:=8 },
  { t:=13,kind:=2,zero:=[.one (.v (.string ⟨#[]⟩)),.one (.v (.int .u64 0))],w:=24 },
  { t:=21,kind:=0,zero:=[.one (.v (.int .i32 0))],ik:=some .i32,w:=4 },
  { t:=22,kind:=0,zero:=[.one (.v (.slice none 0 0))],el:=some 80,w:=24 },
  { t:=24,kind:=0,zero:=[.one (.v (.slice none 0 0))],el:=some 40,w:=24 },
  { t:=25,kind:=0,zero:=[.one (.v (.slice none 0 0))],el:=some 42,w:=24 },
  { t:=28,kind:=0,zero:=[.one (.v (.map none))],w:=8 },
  { t:=29,kind:=0,zero:=[.one (.v (.pointer none))],pt:=true,w:=8 },
  { t:=30,kind:=2,zero:=[.one (.v (.pointer none)),.one (.v (.int .u8 0))],w:=16 },
  { t:=31,kind:=2,zero:=[.one (.v (.pointer none)),.one (.v (.int .u8 0))],w:=16 },
  { t:=32,kind:=2,zero:=[.one (.v (.int .i64 0)),.one (.v (.map none)),.agg 2 #[.pointer none,.int .u8 0]],w:=32 },
  { t:=33,kind:=2,zero:=[.one (.v (.int .i64 0)),.one (.v (.map none)),.agg 2 #[.pointer none,.int .u8 0]],w:=32 },
  { t:=34,kind:=0,zero:=[.one (.v (.slice none 0 0))],el:=some 50,w:=24 },
  { t:=35,kind:=2,zero:=[.one (.v (.int .i64 0)),.one (.v (.slice none 0 0))],w:=32 },
  { t:=36,kind:=2,zero:=[.one (.v (.int .i64 0)),.one (.v (.slice none 0 0))],w:=32 },
  { t:=37,kind:=0,zero:=[.one (.v (.slice none 0 0))],el:=some 33,w:=24 },
  { t:=38,kind:=0,zero:=[.one (.v (.slice none 0 0))],el:=some 36,w:=24 },
  { t:=40,kind:=0,zero:=[.one (.v (.slice none 0 0))],el:=some 76,w:=24 },
  { t:=42,kind:=0,zero:=[.one (.v (.slice none 0 0))],el:=some 4,w:=24 },
  { t:=43,kind:=0,zero:=[.one (.v (.slice none 0 0))],el:=some 45,w:=24 },
  { t:=45,kind:=1,zero:=[.agg 32 (By (aA 32 0)).toArray],w:=32 },
  { t:=49,kind:=2,zero:=[.agg 32 (By (aA 32 0)).toArray,.one (.v (.slice none 0 0))],w:=56 },
  { t:=50,kind:=2,zero:=[.agg 32 (By (aA 32 0)).toArray,.one (.v (.slice none 0 0))],w:=56 },
  { t:=51,kind:=0,zero:=[.one (.v (.slice none 0 0))],el:=some 5,w:=24 },
  { t:=52,kind:=2,zero:=[.one (.v (.slice none 0 0)),.one (.v (.slice none 0 0))],w:=48 },
  { t:=53,kind:=2,zero:=[.one (.v (.slice none 0 0)),.one (.v (.slice none 0 0))],w:=48 },
  { t:=57,kind:=0,zero:=[.one (.v (.slice none 0 0))],el:=some 96,w:=24 },
  { t:=59,kind:=0,zero:=[.one (.v (.int .i64 0))],ik:=some .i64,w:=8 },
  { t:=71,kind:=0,zero:=[.one (.v (.slice none 0 0))],el:=some 3,w:=24 },
  { t:=72,kind:=0,zero:=[.one (.v (.map none))],w:=8 },
  { t:=73,kind:=0,zero:=[.one (.v (.int .u64 0))],ik:=some .u64,w:=8 },
  { t:=74,kind:=1,zero:=[.agg 64 (By (aA 64 0)).toArray],w:=64 },
  { t:=75,kind:=2,zero:=[.agg 32 (By (aA 32 0)).toArray,.one (.v (.int .i64 0)),.agg 32 (By (aA 32 0)).toArray,.agg 64 (By (aA 64 0)).toArray],w:=136 },
  { t:=76,kind:=2,zero:=[.agg 32 (By (aA 32 0)).toArray,.one (.v (.int .i64 0)),.agg 32 (By (aA 32 0)).toArray,.agg 64 (By (aA 64 0)).toArray],w:=136 },
  { t:=79,kind:=2,zero:=[.one (.v (.int .i64 0)),.one (.v (.int .i64 0)),.one (.v (.int .i64 0)),.one (.v (.bool false)),.one (.v (.bool false))],w:=32 },
  { t:=80,kind:=2,zero:=[.one (.v (.int .i64 0)),.one (.v (.int .i64 0)),.one (.v (.int .i64 0)),.one (.v (.bool false)),.one (.v (.bool false))],w:=32 },
  { t:=89,kind:=0,zero:=[.one (.v (.nilIface))],w:=16 },
  { t:=90,kind:=2,zero:=[.one (.v (.nilIface))],w:=16 },
  { t:=91,kind:=2,zero:=[.one (.v (.nilIface))],w:=16 },
  { t:=95,kind:=2,zero:=[.agg 32 (By (aA 32 0)).toArray,.agg 32 (By (aA 32 0)).toArray],w:=64 },
  { t:=96,kind:=2,zero:=[.agg 32 (By (aA 32 0)).toArray,.agg 32 (By (aA 32 0)).toArray],w:=64 },
  { t:=109,kind:=0,zero:=[.one (.v (.int .u8 0))],ik:=some .u8,w:=1 },
  { t:=123,kind:=0,zero:=[.one (.v (.int .u64 0))],ik:=some .u64,w:=8 },
  { t:=124,kind:=2,zero:=[.one (.v (.slice none 0 0)),.one (.v (.int .i64 0))],w:=32 },
  { t:=125,kind:=2,zero:=[.one (.v (.slice none 0 0)),.one (.v (.int .i64 0))],w:=32 },
  { t:=127,kind:=2,zero:=[.agg 32 (By (aA 32 0)).toArray,.one (.v (.int .i64 0))],w:=40 },
  { t:=128,kind:=2,zero:=[.agg 32 (By (aA 32 0)).toArray,.one (.v (.int .i64 0))],w:=40 },
  { t:=133,kind:=0,zero:=[.one (.v (.pointer none))],pt:=true,w:=8 },
  { t:=134,kind:=2,zero:=[.agg 32 (By (aA 32 0)).toArray,.agg 32 (By (aA 32 0)).toArray],w:=64 },
  { t:=135,kind:=2,zero:=[.agg 32 (By (aA 32 0)).toArray,.agg 32 (By (aA 32 0)).toArray],w:=64 },
  { t:=137,kind:=1,zero:=[.agg 2 (aA 2 (.pointer none)).toArray],w:=16 },
  { t:=138,kind:=2,zero:=[.agg 32 (By (aA 32 0)).toArray,.one (.v (.int .i64 0)),.one (.v (.pointer none)),.agg 2 (aA 2 (.pointer none)).toArray],w:=64 },
  { t:=139,kind:=2,zero:=[.agg 32 (By (aA 32 0)).toArray,.one (.v (.int .i64 0)),.one (.v (.pointer none)),.agg 2 (aA 2 (.pointer none)).toArray],w:=64 },
  { t:=143,kind:=1,zero:=[.agg 4 (aA 4 (.int .u64 0)).toArray],w:=32 },
  { t:=144,kind:=2,zero:=[.agg 4 (aA 4 (.int .u64 0)).toArray],w:=32 },
  { t:=145,kind:=2,zero:=[.agg 4 (aA 4 (.int .u64 0)).toArray],w:=32 },
  { t:=150,kind:=0,zero:=[.one (.v (.slice none 0 0))],el:=some 43,w:=24 },
  { t:=153,kind:=2,zero:=[],w:=0 },
  { t:=154,kind:=2,zero:=[],w:=0 },
  { t:=155,kind:=2,zero:=[.agg 32 (By (aA 32 0)).toArray],w:=32 },
  { t:=156,kind:=2,zero:=[.agg 32 (By (aA 32 0)).toArray],w:=32 },
  { t:=159,kind:=2,zero:=[.agg 32 (By (aA 32 0)).toArray,.agg 32 (By (aA 32 0)).toArray,.agg 32 (By (aA 32 0)).toArray],w:=96 },
  { t:=160,kind:=2,zero:=[.agg 32 (By (aA 32 0)).toArray,.agg 32 (By (aA 32 0)).toArray,.agg 32 (By (aA 32 0)).toArray],w:=96 },
  { t:=165,kind:=1,zero:=[.agg 2 (aA 2 (.nilIface)).toArray],w:=32 },
  { t:=166,kind:=2,zero:=[.agg 32 (By (aA 32 0)).toArray,.agg 2 (aA 2 (.nilIface)).toArray],w:=64 },
  { t:=167,kind:=2,zero:=[.agg 32 (By (aA 32 0)).toArray,.agg 2 (aA 2 (.nilIface)).toArray],w:=64 },
  { t:=168,kind:=0,zero:=[.one (.v (.slice none 0 0))],el:=some 51,w:=24 },
  { t:=170,kind:=0,zero:=[.one (.v (.pointer none))],pt:=true,w:=8 },
  { t:=173,kind:=0,zero:=[.one (.v (.int .u32 0))],ik:=some .u32,w:=4 },
  { t:=174,kind:=1,zero:=[.agg 8 (aA 8 (.int .u32 0)).toArray],w:=32 },
  { t:=179,kind:=1,zero:=[.agg 8 (By (aA 8 0)).toArray],w:=8 },
  { t:=182,kind:=0,zero:=[.one (.v (.slice none 0 0))],el:=some 133,w:=24 },
  { t:=191,kind:=1,zero:=[.agg 5 (aA 5 (.int .u64 0)).toArray],w:=40 },
  { t:=192,kind:=2,zero:=[.agg 5 (aA 5 (.int .u64 0)).toArray],w:=40 },
  { t:=193,kind:=2,zero:=[.agg 5 (aA 5 (.int .u64 0)).toArray],w:=40 },
  { t:=194,kind:=2,zero:=[.agg 5 (aA 5 (.int .u64 0)).toArray,.agg 5 (aA 5 (.int .u64 0)).toArray,.agg 5 (aA 5 (.int .u64 0)).toArray,.agg 5 (aA 5 (.int .u64 0)).toArray],w:=160 },
  { t:=195,kind:=2,zero:=[.agg 5 (aA 5 (.int .u64 0)).toArray,.agg 5 (aA 5 (.int .u64 0)).toArray,.agg 5 (aA 5 (.int .u64 0)).toArray,.agg 5 (aA 5 (.int .u64 0)).toArray],w:=160 },
  { t:=205,kind:=0,zero:=[.one (.v (.slice none 0 0))],el:=some 73,w:=24 },
  { t:=206,kind:=0,zero:=[.one (.v (.slice none 0 0))],el:=some 123,w:=24 },
  { t:=210,kind:=1,zero:=[.agg 1 (By (aA 1 0)).toArray],w:=1 },
  { t:=217,kind:=1,zero:=[.agg 8 (aA 8 (.int .u64 0)).toArray],w:=64 },
  { t:=219,kind:=1,zero:=[.agg 64 (aA 64 (.int .u32 0)).toArray],w:=256 },
  { t:=222,kind:=1,zero:=[.agg 80 (aA 80 (.int .u64 0)).toArray],w:=640 },
  { t:=228,kind:=1,zero:=[.agg 128 (By (aA 128 0)).toArray],w:=128 },
  { t:=235,kind:=2,zero:=[.agg 5 (aA 5 (.int .u64 0)).toArray,.agg 5 (aA 5 (.int .u64 0)).toArray,.agg 5 (aA 5 (.int .u64 0)).toArray,.agg 5 (aA 5 (.int .u64 0)).toArray],w:=160 },
  { t:=236,kind:=2,zero:=[.agg 5 (aA 5 (.int .u64 0)).toArray,.agg 5 (aA 5 (.int .u64 0)).toArray,.agg 5 (aA 5 (.int .u64 0)).toArray,.agg 5 (aA 5 (.int .u64 0)).toArray],w:=160 },
  { t:=237,kind:=1,zero:=[.agg 160 (aA 160 (.int .u64 0)).toArray],w:=1280 },
  { t:=238,kind:=1,zero:=[.agg 256 (By (aA 256 0)).toArray],w:=256 },
  { t:=239,kind:=2,zero:=[.agg 160 (aA 160 (.int .u64 0)).toArray,.agg 256 (By (aA 256 0)).toArray],w:=1536 },
  { t:=240,kind:=2,zero:=[.agg 160 (aA 160 (.int .u64 0)).toArray,.agg 256 (By (aA 256 0)).toArray],w:=1536 },
  { t:=249,kind:=0,zero:=[.one (.v (.int .i64 0))],ik:=some .i64,w:=8 },
  { t:=263,kind:=0,zero:=[.one (.v (.slice none 0 0))],el:=some 240,w:=24 },
  { t:=268,kind:=2,zero:=[.one (.v (.int .u64 0)),.one (.v (.int .u64 0))],w:=16 },
  { t:=269,kind:=2,zero:=[.one (.v (.int .u64 0)),.one (.v (.int .u64 0))],w:=16 },
  { t:=273,kind:=0,zero:=[.one (.v (.int .u64 0))],ik:=some .u64,w:=8 },
  { t:=276,kind:=0,zero:=[.one (.v (.pointer none))],pt:=true,w:=8 },
  { t:=278,kind:=0,zero:=[.one (.v (.pointer none))],pt:=true,w:=8 },
  { t:=290,kind:=0,zero:=[.one (.v (.pointer none))],pt:=true,w:=8 }]
theorem zY:OkT Tryz.prog TY:=okT_of (by kernel_rfl) (by kernel_rfl)
def keepE:List Nat->SE->SE
  | [],_=>[]
  | k::ks,E=>match lookS E k with
    | some v=>(k,v)::keepE ks E
    | none=>keepE ks E
theorem keepE_sub:∀(ks:List Nat) (E:SE),SubS (keepE ks E) E
 | [],_=>trivial
 | k::ks,E=>by
  unfold keepE
  split
  ·rename_i v h
   exact⟨h,keepE_sub ks E⟩
  ·exact keepE_sub ks E
def memB(j:Nat):List Nat->Bool
  | []=>false
  | k::ks=>match bN k j with
    | true=>true
    | false=>memB j ks
def keepL(js:List Nat):List LV->List LV
  | []=>[]
  | x::L=>match memB x.j js with
    | true=>x::keepL js L
    | false=>keepL js L
theorem keepL_mem{js:List Nat}:∀{L:List LV} {x:LV},x∈keepL js L->x∈L
 | [],_,h=>by cases h
 | y::L,x,h=>by
  unfold keepL at h
  split at h
  ·rcases aL.1 h with rfl|h
   ·exact aP
   ·exact aJ _ (keepL_mem h)
  ·exact aJ _ (keepL_mem h)
theorem keepL_names{js:List Nat}:∀{L:List LV},(namesL (keepL js L)).Sublist (namesL L)
 | []=>List.Sublist.slnil
 | y::L=>by
  unfold keepL
  split
  ·exact(keepL_names (L:=L)).cons_cons _
  ·exact(keepL_names (L:=L)).cons _
section
variable{b:Base}{N:Nat}{E:SE}{L:List LV}{R:List Res}{F M:World->Prop}{a:Act}{w:World}
theorem StW.keep{G:Nat->Nat}{S:Nat->Prop}(h:StW b G S L R F M w)(js:List Nat):StW b G S (keepL js L) R F M w:=by
 have hn:∀j,j∈namesL (keepL js L)->j∈namesL L:=λj hj=>keepL_names.subset hj;have hM:∀k,Mine S G (keepL js L) k->Mine S G L k:=λk hk=>hk.imp id λ⟨j,hj,e⟩=>⟨j,hn j hj,e⟩;exact⟨λx hx=>h.var x (keepL_mem hx),h.apart.sublist keepL_names,h.res,λj hj=>h.sep j (hn j hj),h.fact.less λk _ hk=>hk.imp id (hM k),h.fresh.less λk _ hk=>hk.imp id (hM k),h.chg,λk hk=>h.mine k (hM k hk),h.old⟩
theorem St.keep(h:St b N ⟨E,L,R,F,M⟩ a w)(ks js:List Nat):St b N ⟨keepE ks E,keepL js L,R,F,M⟩ a w:=by
 obtain⟨G,S,h1,h2,h3⟩:=h;exact⟨G,S,h1.sub (denE_sub (keepE_sub ks E)),(keepE_sub ks E).ok h2,h3.keep js⟩
end
section
variable{P:Program}{b:Base}{T:List TyR}{Q:Exit->Act->World->Prop}{N:Nat}{E E' E2:SE}{L L' L2:List LV}{R:List Res}{F M:World->Prop}
theorem s_keep{c:Code}(ks js:List Nat)(h1:keepE ks E=E')(h2:keepL js L=L')(h:cS P b c Q N ⟨E',L',R,F,M⟩):cS P b c Q N ⟨E,L,R,F,M⟩:=λa w hs=>by
 subst h1 h2;exact h a w (hs.keep ks js)
theorem s_auto{id:Nat}{l:List Oper}{y:Code}(hT:OkT P T)(h:autoS T l.toArray N l E L=([],E',L'))(hn:cS P b y Q N ⟨E',L',R,F,M⟩):cS P b (.seq (.region id l.toArray false) y) Q N ⟨E,L,R,F,M⟩ :=
 s_reg λ_ hK=>l_autoS hT h (zJ (hK _ hn))
theorem s_autoE{id:Nat}{l:List Oper}(hT:OkT P T)(h:autoS T l.toArray N l E L=([],E',L'))(hn:kS b (Q .normal) N ⟨E',L',R,F,M⟩):cS P b (.region id l.toArray false) Q N ⟨E,L,R,F,M⟩ :=
 s_lit (l_autoS hT h (zJ hn))
theorem s_pure{c:Code}(φ:Prop)(h:∀w,F w->M w->φ)(hn:φ->cS P b c Q N ⟨E,L,R,F,M⟩):cS P b c Q N ⟨E,L,R,F,M⟩:=λa w hs=>by
 have hs':=hs;obtain⟨G,S,h1,h2,h3⟩:=hs;exact hn (h w h3.all.now.1 h3.all.now.2) a w hs'
theorem l_pure{ops:Array Oper}{l:List Oper}(φ:Prop)(h:∀w,F w->M w->φ)(hn:φ->lS P b ops Q N l ⟨E,L,R,F,M⟩):lS P b ops Q N l ⟨E,L,R,F,M⟩:=λa w hs=>by
 have hs':=hs;obtain⟨G,S,h1,h2,h3⟩:=hs;exact hn (h w h3.all.now.1 h3.all.now.2) a w hs'
theorem s_regA{id:Nat}{l l':List Oper}{y:Code}(hT:OkT P T)(h:autoS T l.toArray N l E L=(l',E',L'))(hn:∀K:Act->World->Prop,(∀e',cS P b y Q N e'->kS b K N e')->lS P b l.toArray (Exit.then K Q) N l' ⟨E',L',R,F,M⟩):cS P b (.seq (.region id l.toArray false) y) Q N ⟨E,L,R,F,M⟩ :=
 s_reg λK hK=>l_autoS hT h (hn K hK)
end
def ObjF(g:Nat)(t:TypeId)(ps:List Pt)(w:World):Prop:=Blk w g t (catP ps)/\OkP ps
instance{g:Nat}{t:TypeId}{ps:List Pt}:Pst (ObjF g t ps):=⟨λ_ _ h hb=>⟨h.1.later hb,h.2⟩⟩
def ObjS(g:Nat)(t:TypeId)(ps:List Pt):Res where
  holds w S:=ObjF g t ps w/\∀j,S j↔j=g
  keep:=λ⟨h1,h2⟩ hk=>⟨⟨(hk g ((h2 g).2 rfl)).trans h1.1,h1.2⟩,h2⟩
  lt:=λ⟨h1,h2⟩ j hj=>by rw [(h2 j).1 hj];exact h1.1.lt
section
variable{P:Program}{b:Base}{T:List TyR}{ops:Array Oper}{Q:Exit->Act->World->Prop}{N:Nat}{E:SE}{L:List LV}{R:List Res}{F M:World->Prop}{o:Oper}{k g off:Nat}{t:TypeId}{x:Operand}{ty:TypeId}{ps:List Pt}{q:SQ}
theorem load_obj(hT:OkT P T)(ho:o.op = .load t x)(hx:evS E x=some (.v (.pointer (some ⟨g,off,none⟩))))(hl:loadS T ps t off=some q){G:Nat->Nat}{a:Act}{w:World}(ha:Fr N (denE G E) a)(h:ObjF g ty ps w):q.Ok/\(execOp a.eval o).run P w = .ok (.value q.den) w:=by
 obtain⟨h1,h2⟩:=loadS_ok hT h.2 hl;refine⟨h1,?_⟩;have e:=ha.eval (evS_ok hx)
 unfold execOp
 simp only [ho,e,SV.den,SQ.den,SC.den,h2 h.1,aG,aH,aD]
theorem l_ldO{rest:List Oper}(hT:OkT P T)(hg:o.guard=none)(hd:o.dst=some k)(hk:aQ k N=true)(ho:o.op = .load t x)(hx:evS E x=some (.v (.pointer (some ⟨g,off,none⟩))))(hl:loadS T ps t off=some q)(h:∀G S w,View G S L R F M w->ObjF g ty ps w)
 (hn:lS P b ops Q N rest ⟨(k,.q q)::E,L,R,F,M⟩):lS P b ops Q N (o::rest) ⟨E,L,R,F,M⟩:=λa w ⟨G,S,h1,h2,h3⟩=>by
 obtain⟨h4,h5⟩:=load_obj hT ho hx hl h1 (h G S w h3.view);refine wpl_go (oneS hg) h5 ?_;rw [hd];exact hn _ w ⟨G,S,h1.put hk _,h2.cons h4,h3⟩
theorem g_ldO{T':List Oper}{G:Nat->Nat}{S:Nat->Prop}{w0:World}{rest:List (Nat×Oper)}{i:Nat}(hT:OkT P T)(hst:StW b G S L R F M w0)(hg:o.guard=none)(hd:o.dst=some k)(hk:aQ k N=true)(ho:o.op = .load t x)(hx:evS E x=some (.v (.pointer (some ⟨g,off,none⟩))))(hl:loadS T ps t off=some q)(h:∀G S w,View G S L R F M w->ObjF g ty ps w)
 (hn:gS P b ops Q N T' G w0 rest ((k,.q q)::E)):gS P b ops Q N T' G w0 ((i,o)::rest) E:=λhE =>
 g_op rfl (λa ha=>b_val (v:=q.den) (by simp [aO,hg]) (λw hw=>(load_obj hT ho hx hl ha (h G S w (hst.later hw.1).view)).2) (by
  rw [hd]
  exact g_go (o:=o) (hn (hE.cons (loadS_ok hT (h G S w0 hst.view).2 hl).1)) _ (ha.put hk _)))
end
theorem obj_own{g:Nat}{t:TypeId}{ps:List Pt}{L:List LV}{R:List Res}{F M:World->Prop}(i:Nat)(hi:R[i]?=some (ObjS g t ps)):∀G S w,View G S L R F M w->ObjF g t ps w:=λ_ _ _ h=>by
 obtain⟨S1,_,h1,_⟩:=h.res.at hi;exact h1.1
theorem obj_fact{g:Nat}{t:TypeId}{ps:List Pt}{L:List LV}{R:List Res}{F M:World->Prop}(h:∀w,F w->M w->ObjF g t ps w):∀G S w,View G S L R F M w->ObjF g t ps w:=λ_ _ w hv=>h w hv.fact hv.fresh
def eB(x:UInt8):SQ:=.c (.v (.int .u8 (x.toNat:Int)))
def eI(i:Int):SQ:=.c (.v (.int .i64 i))
def eT(t:Bool):SQ:=.c (.b t)
def eY(n:Nat)(l:List UInt8):SQ:=.p [.agg n (By l).toArray]
theorem eB_ok(x:UInt8):OkP (eB x).parts1/\(eB x).cl.length=1:=⟨λp hp=>by rw [aE.1 hp];exact⟨trivial,rfl,rfl⟩,rfl⟩
theorem eT_ok(t:Bool):OkP (eT t).parts1/\(eT t).cl.length=1:=⟨λp hp=>by rw [aE.1 hp];exact⟨trivial,rfl,rfl⟩,rfl⟩
theorem eY_ok{n:Nat}{l:List UInt8}(h:l.length=n):OkP (eY n l).parts1/\(eY n l).cl.length=n:=by
 have h1:(By l).toArray.size=n:=by rw [aT,By_len,h]
 exact⟨λp hp=>by rw [aE.1 hp];exact⟨h1,By_one l⟩,by rw [SQ.cl,a9];exact h1⟩
theorem okF_B(l:List UInt8):OkF 1 eB l:=λx _=>eB_ok x
theorem okF_Y{n:Nat}{ls:List (List UInt8)}(h:∀l∈ls,l.length=n):OkF n (eY n) ls:=λl hl=>eY_ok (h l hl)
theorem flat_B:∀l:List UInt8,flatF eB l=By l
 | []=>rfl
 | x::l=>by
  have:=flat_B l;simp only [flatF,pA] at this ⊢;rw [this]
  rfl
theorem Rd.sb{A:Option Addr}{c:Nat}{l:List UInt8}{w:World}(h:Rd 1 eB A c l w):SB w (.slice A l.length c) l:=by
 obtain⟨h1,h2,h3,_,h5⟩:=h;refine⟨A,c,rfl,h1,h2,h3,λhl=>?_⟩;obtain⟨b,o,e,hb,hr⟩:=h5 hl;refine⟨⟨b,o,none⟩,e,Nat.zero_le _,hb,λj x hx=>?_⟩;have:=hr j x hx 0 (.int .u8 (x.toNat:Int)) rfl;rw [dA]
 simpa using this
theorem Rd.of_sb{A:Option Addr}{c n:Nat}{l:List UInt8}{w:World}(h:SB w (.slice A n c) l):n=l.length/\Rd 1 eB A c l w:=by
 obtain⟨A',c',e,h1,h2,h3,h4⟩:=h
 injection e with e1 e2 e3
 subst e1 e2 e3;refine⟨rfl,h1,h2,h3,okF_B l,λhl=>?_⟩;obtain⟨ad,e,_,h6,h7⟩:=h4 hl;obtain⟨b,o,sp⟩:=ad
 have hsp:sp=none:=by
  have h8:=h7 0 l[0] (aK hl)
  cases sp with
  | none=>rfl
  | some s =>
   unfold World.cell? Addr.add at h8
   simp only [if_true] at h8
   split at h8
   ·simp at h8
   ·cases h8
 subst hsp;refine⟨b,o,e,h6,λi x hi j v hj=>?_⟩;have h8:=h7 i x hi;rw [dA] at h8
 cases j with
 | zero =>
  have e:v = .int .u8 (x.toNat:Int):=by
   have:(eB x).cl[0]?=some (.int .u8 (x.toNat:Int)):=rfl;rw [this] at hj;exact(cR hj).symm
  rw [e,Nat.one_mul,eX];exact h8
 | succ j =>
  have:(eB x).cl[j+1]?=none:=rfl;rw [this] at hj
  cases hj
theorem wrapI{m r:Int}(h:m=r)(h1 : -9223372036854775808<=r)(h2:r<=9223372036854775807):IntKind.i64.wrap m=r:=by
 rw [h,i64_left,wrap64_in _ ⟨h1,by omega⟩]
theorem wrapQ(n d:Nat)(h:n<=9223372036854775807):IntKind.i64.wrap ((n:Int).tdiv (d:Int))=((n/d:Nat):Int):=by
 have h1:(n:Int).tdiv (d:Int)=((n/d:Nat):Int):=by rw [Int.tdiv_eq_ediv_of_nonneg (by omega)];rfl
 have h2:n/d<=n:=Nat.div_le_self _ _;rw [h1];generalize n/d=q at *;exact wrapI rfl (by omega) (by omega)
theorem one_ok{v:SQ}(h:v.Ok):∀u∈[v],u.Ok:=λu hu=>by rw [aE.1 hu];exact h
theorem two_ok{v v2:SQ}(h:v.Ok)(h2:v2.Ok):∀u∈[v,v2],u.Ok:=λu hu=>by
 rcases aL.1 hu with rfl|hu
 ·exact h
 ·exact one_ok h2 u hu
theorem more_ok{v:SQ}{vs:List SQ}(h:v.Ok)(h2:∀u∈vs,u.Ok):∀u∈v::vs,u.Ok:=λu hu=>by
 rcases aL.1 hu with rfl|hu
 ·exact h
 ·exact h2 u hu
instance{p q:World->Prop}[hp:Pst p][hq:Pst q]:Pst (λw=>p w/\q w):=⟨λ_ _ h hb=>⟨hp.later _ _ h.1 hb,hq.later _ _ h.2 hb⟩⟩
instance{α:Type}{p:α->World->Prop}{l:List α}[hp:∀a,Pst (p a)]:Pst (λw=>∀a∈l,p a w):=⟨λ_ _ h hb a ha=>(hp a).later _ _ (h a ha) hb⟩
theorem g_callS{b:Base}{ops:Array Oper}{Q:Exit->Act->World->Prop}{N:Nat}{T':List Oper}{G:Nat->Nat}{S:Nat->Prop}{L:List LV}{R:List Res}{F M F':World->Prop}{w0:World}{E:SE}{o:Oper}{rest:List (Nat×Oper)}{i k:Nat}{f:FuncId}{xs:Array Operand}{ats:Array TypeId}{svs:List SV}{r:RV}[Pst F']
 (hst:StW b G S L R F M w0)(args:List Value)(hg:o.guard=none)(hd:o.dst=some k)(hk:aQ k N=true)(hf:Own f)(ho:o.op = .call { callee:=.value (.func f),args:=xs,argTypes:=ats })(hx:evSs E xs.toList=some svs)
 (ha:(∀x∈L,∀g,x.g=some g->G x.j=g)->svs.map (SV.den G)=args)(hs:Spec f args [] F' (one r))(hr:r.sv.Ok)(hF:∀G S w,View G S L R F M w->F' w)
 (hn:gS Tryz.prog b ops Q N T' G w0 rest ((k,r.sv)::E)):gS Tryz.prog b ops Q N T' G w0 ((i,o)::rest) E :=
 g_call1 hst args hg hd hk hf ho hx ha hr (λw hv=>(hs w (λ_=>False) (λ_=>False) (λ_ h=>h) (λ_ h=>h.elim) (Stb.of_pst (hF _ _ _ hv) λ_ _ h=>h.elim id id)).mono λ_ _ ⟨_,_,h1,_,h2,_⟩=>⟨h1,h2.up λ_ _ h=>h⟩) hn
theorem l_call0{b:Base}{ops:Array Oper}{Q:Exit->Act->World->Prop}{N:Nat}{E:SE}{L:List LV}{R:List Res}{F M F':World->Prop}{o:Oper}{rest:List Oper}{k:Nat}{α:Type}{post:Post α}{f:FuncId}{xs:Array Operand}{ats:Array TypeId}{svs:List SV}
 (args:List Value)(hg:o.guard=none)(hd:o.dst=some k)(hk:aQ k N=true)(hf:Own f)(ho:o.op = .call { callee:=.value (.func f),args:=xs,argTypes:=ats })(hx:evSs E xs.toList=some svs)
 (ha:∀G:Nat->Nat,(∀x∈L,∀g,x.g=some g->G x.j=g)->svs.map (SV.den G)=args)(hs:Spec f args [] F' post)(hF:∀w,F w->M w->F' w)
 (hn:∀x,lS Tryz.prog b ops Q N rest ⟨(k,(post.ret x).sv)::E,L,post.own x++R,λw=>post.p x w/\F w,λw=>post.n x w/\M w⟩):lS Tryz.prog b ops Q N (o::rest) ⟨E,L,R,F,M⟩ :=
 l_callA (own:=[]) (R':=R) args hg hd hk hf ho hx ha hs hF hn
theorem l_as{P:Program}{b:Base}{ops:Array Oper}{Q:Exit->Act->World->Prop}{N:Nat}{E:SE}{L:List LV}{R:List Res}{F M:World->Prop}{l:List Oper}(k:Nat){v:SV}(v':SV)(h:lookS E k=some v)(he:∀G,v.den G=v'.den G)(ho:v'.Ok)(hn:lS P b ops Q N l ⟨(k,v')::E,L,R,F,M⟩):lS P b ops Q N l ⟨E,L,R,F,M⟩:=λa w ⟨G,S,h1,h2,h3⟩ =>
 hn a w ⟨G,S,h1.more (h1.get k _ (by rw [look_den,h];exact congrArg some (he G))),h2.cons ho,h3⟩
theorem l_R{P:Program}{b:Base}{ops:Array Oper}{Q:Exit->Act->World->Prop}{N:Nat}{E:SE}{L:List LV}{R:List Res}{F M:World->Prop}{l:List Oper}(R2:List Res)(h:R=R2)(hn:lS P b ops Q N l ⟨E,L,R2,F,M⟩):lS P b ops Q N l ⟨E,L,R,F,M⟩:=h▸hn
theorem k_drop{b:Base}{K:Act->World->Prop}{N:Nat}{E:SE}{L:List LV}{R:List Res}{F M:World->Prop}(i:Nat){r:Res}(hi:R[i]?=some r)(h:kS b K N ⟨E,L,R.eraseIdx i,F,M⟩):kS b K N ⟨E,L,R,F,M⟩:=λa w ⟨G,S,h1,h2,h3⟩=>by
 obtain⟨S1,S2,_,_,_,h4⟩:=h3.let hi;exact h a w ⟨G,S2,h1,h2,h4⟩
structure Seg where
  A:Option Addr
  c:Nat
  l:List UInt8
def eSeg(s:Seg):SQ:=.c (.v (.slice s.A s.l.length s.c))
theorem eSeg_ok(s:Seg):OkP (eSeg s).parts1/\(eSeg s).cl.length=1:=⟨λp hp=>by rw [aE.1 hp];exact⟨trivial,rfl,rfl⟩,rfl⟩
theorem okF_seg(l:List Seg):OkF 1 eSeg l:=λs _=>eSeg_ok s
def Seg.rd(s:Seg)(w:World):Prop:=Rd 1 eB s.A s.c s.l w
instance{s:Seg}:Pst s.rd:=⟨λ_ _ h hb=>h.later hb⟩
theorem Rd.sl{A:Option Addr}{c:Nat}{l:List UInt8}{w:World}(h:Rd 1 eB A c l w):SL w 0 w.heap.size A l c:=by
 obtain⟨A',c',e,h1⟩:=h.sb
 injection e with e1 _ e2
 subst e1 e2;exact h1
theorem parts_of{A:Option Addr}{c:Nat}{ss:List Seg}{w:World}(h:Rd 1 eSeg A c ss w)(h2:∀s∈ss,s.rd w):Parts w w.heap.size A (ss.map Seg.l):=λhl=>by
 obtain⟨b,o,e,hb,hr⟩:=h.2.2.2.2 (by simpa using hl);refine⟨⟨b,o,none⟩,e,hb,λi l hi=>?_⟩;rw [List.getElem?_map] at hi
 cases hs:ss[i]? with
 | none=>rw [hs] at hi;cases hi
 | some s =>
  rw [hs] at hi;simp only [bI,aW] at hi;subst hi;refine⟨s.A,s.c,?_,(h2 s (aR hs)).sl⟩;have:=hr i s hs 0 (.slice s.A s.l.length s.c) rfl;rw [dA]
  simpa using this
end Go.Proofs.YtlhlkofpjhpaoaaGreatDoor
namespace Go.Proofs.YtlhlkofpjhpaoaaGreatDoor
end Go.Proofs.YtlhlkofpjhpaoaaGreatDoor
namespace Go.Proofs.YtlhlkofpjhpaoaaGreatDoor
open Go.RowKit Go.IntWalk
theorem eY_len{n:Nat}{l:List UInt8}(h:OkP (eY n l).parts1):l.length=n:=by
 have h1:=(h (.agg n (By l).toArray) (by simp [eY,SQ.parts1])).1
 rwa [aT,By_len] at h1
abbrev Rds:=List UInt8×Nat
theorem u64_is(z:Int):IntKind.u64.wrap z=z%18446744073709551616:=rfl
section
variable{P:Program}{b:Base}{ops:Array Oper}{Q:Exit->Act->World->Prop}{N:Nat}{E:SE}{L:List LV}{R:List Res}{F M:World->Prop}{o:Oper}{k:Nat}{rest:List Oper}
theorem parts_den{G:Nat->Nat}:∀(ps:List (Nat×Operand)) (vs:List (Nat×SC)),ps.map (λp=>(p.1,evS E p.2))=vs.map (λx=>(x.1,some (.q (.c x.2))))->ps.map (λp=>(p.1,ev (denE G E) p.2))=(vs.map λx=>(x.1,x.2.den)).map λp=>(p.1,some p.2)
 | [],[],_=>rfl
 | [],_::_,h=>by cases h
 | _::_,[],h=>by cases h
 | p::ps,v::vs,h=>by
  simp only [bX,iZ,cY] at h ⊢;exact⟨⟨h.1.1,evS_ok h.1.2⟩,parts_den ps vs h.2⟩
theorem l_buildY{t:TypeId}{parts:Array (Nat×Operand)}(vs:List (Nat×SC))(n:Nat)(l:List UInt8)(hg:o.guard=none)(hd:o.dst=some k)(hk:aQ k N=true)(ho:o.op = .build t parts)(hv:parts.toList.map (λp=>(p.1,evS E p.2))=vs.map (λx=>(x.1,some (.q (.c x.2)))))
 (hb:P.built t (vs.map λx=>(x.1,x.2.den))=some (By l).toArray)(hl:l.length=n)(hn:lS P b ops Q N rest ⟨(k,.q (eY n l))::E,L,R,F,M⟩):lS P b ops Q N (o::rest) ⟨E,L,R,F,M⟩ :=
 l_f (.q (eY n l)) (eY_ok hl).1 (λG S w C0 Q' _ _ hQ=>f_build _ _ hg hd hk ho (parts_den _ _ hv) hb hQ) (by rw [ho];rfl) hn
end
section
variable{P:Program}{b:Base}{ops:Array Oper}{Q:Exit->Act->World->Prop}{N:Nat}{E:SE}{L:List LV}{R:List Res}{F M:World->Prop}{o:Oper}{rest:List Oper}{k:Nat}
theorem l_op(v:SV)(hv:v.Ok)(hg:o.guard=none)(hd:o.dst=some k)(hk:aQ k N=true)(h:∀(G:Nat->Nat) (a:Act) (w:World),Fr N (denE G E) a->(execOp a.eval o).run P w = .ok (.value (v.den G)) w)
 (hn:lS P b ops Q N rest ⟨(k,v)::E,L,R,F,M⟩):lS P b ops Q N (o::rest) ⟨E,L,R,F,M⟩:=λa w ⟨G,S,h1,h2,h3⟩=>by
 refine wpl_go (oneS hg) (h G a w h1) ?_;rw [hd];exact hn _ w ⟨G,S,h1.put hk _,h2.cons hv,h3⟩
theorem l_opV(v:SV)(hv:v.Ok)(hg:o.guard=none)(hd:o.dst=some k)(hk:aQ k N=true)(h:∀(G:Nat->Nat) (S:Nat->Prop) (a:Act) (w:World),Fr N (denE G E) a->View G S L R F M w->(execOp a.eval o).run P w = .ok (.value (v.den G)) w)
 (hn:lS P b ops Q N rest ⟨(k,v)::E,L,R,F,M⟩):lS P b ops Q N (o::rest) ⟨E,L,R,F,M⟩:=λa w ⟨G,S,h1,h2,h3⟩=>by
 refine wpl_go (oneS hg) (h G S a w h1 h3.view) ?_;rw [hd];exact hn _ w ⟨G,S,h1.put hk _,h2.cons hv,h3⟩
variable{T':List Oper}{G:Nat->Nat}{S:Nat->Prop}{w0:World}{grest:List (Nat×Oper)}{i:Nat}
theorem g_opS(v:SV)(hv:v.Ok)(hg:o.guard=none)(hd:o.dst=some k)(hk:aQ k N=true)(h:∀(G:Nat->Nat) (a:Act) (w:World),Fr N (denE G E) a->(execOp a.eval o).run P w = .ok (.value (v.den G)) w)
 (hn:gS P b ops Q N T' G w0 grest ((k,v)::E)):gS P b ops Q N T' G w0 ((i,o)::grest) E:=λhE =>
 g_op rfl (λa ha=>b_val (by simp [aO,hg]) (λw _=>h G a w ha) (by
  rw [hd]
  exact g_go (o:=o) (hn (hE.cons hv)) _ (ha.put hk _)))
end
section
variable{N:Nat}{E:SE}{o:Oper}{x y:Operand}{t t':TypeId}
theorem run_eqY{n:Nat}{l m:List UInt8}(ho:o.op = .binOp .eql t x y t')(hx:evS E x=some (.q (eY n l)))(hy:evS E y=some (.q (eY n m)))(ht:Tryz.prog.underlying t=some (.array n 5))(hg:Tryz.prog.eqGuardType Tryz.prog.depth t=false)(hl:l.length=n)(hm:m.length=n) :
  ∀(G:Nat->Nat) (a:Act) (w:World),Fr N (denE G E) a->(execOp a.eval o).run Tryz.prog w = .ok (.value ((SV.b (decide (l=m))).den G)) w:=λG a w ha=>by
 have h1:a.eval x = .agg (By l).toArray:=ha.eval (evS_ok hx);have h2:a.eval y = .agg (By m).toArray:=ha.eval (evS_ok hy)
 unfold execOp
 simp only [ho,h1,h2,aG,run_eqGuard_agg (hm:=hg),aD,binOp,Op.equal,Op.maxDepth,equalIn_bytes 9998 n t l m ht hl hm w,aH]
 rfl
theorem run_neqY{n:Nat}{l m:List UInt8}(ho:o.op = .binOp .neq t x y t')(hx:evS E x=some (.q (eY n l)))(hy:evS E y=some (.q (eY n m)))(ht:Tryz.prog.underlying t=some (.array n 5))(hg:Tryz.prog.eqGuardType Tryz.prog.depth t=false)(hl:l.length=n)(hm:m.length=n) :
  ∀(G:Nat->Nat) (a:Act) (w:World),Fr N (denE G E) a->(execOp a.eval o).run Tryz.prog w = .ok (.value ((SV.b (!decide (l=m))).den G)) w:=λG a w ha=>by
 have h1:a.eval x = .agg (By l).toArray:=ha.eval (evS_ok hx);have h2:a.eval y = .agg (By m).toArray:=ha.eval (evS_ok hy)
 unfold execOp
 simp only [ho,h1,h2,aG,run_eqGuard_agg (hm:=hg),aD,binOp,Op.equal,Op.maxDepth,equalIn_bytes 9998 n t l m ht hl hm w,aH]
 rfl
theorem run_xor{m n:Int}(ho:o.op = .binOp .xor 5 x y t')(hx:evS E x=some (.v (.int .u8 m)))(hy:evS E y=some (.v (.int .u8 n))) :
  ∀(G:Nat->Nat) (a:Act) (w:World),Fr N (denE G E) a->(execOp a.eval o).run Tryz.prog w = .ok (.value ((SV.v (.int .u8 (bits .xor .u8 m n))).den G)) w:=λG a w ha=>by
 have h1:a.eval x = .int .u8 m:=ha.eval (evS_ok hx);have h2:a.eval y = .int .u8 n:=ha.eval (evS_ok hy)
 unfold execOp
 simp only [ho,h1,h2]
 go_simp
 rfl
theorem run_sizeOf{P:Program}{e:TypeId}{k:Nat}(he:(P.info? e).map (·.size)=some k)(w:World):(sizeOf e).run P w = .ok k w:=by
 cases hq:P.info? e with
 | none=>simp [hq] at he
 | some ie =>
  have hs:ie.size=k:=by simpa [hq] using he
  simp [sizeOf,typeInfo,hq,hs]
theorem run_cutHi{A:Option Addr}{n c j sz:Nat}{e:TypeId}(he:(Tryz.prog.info? e).map (·.size)=some sz)(hj:j<=c)(hA:A=none->c=0)(ho:o.op = .slice t x none (some y) none)(hu:Tryz.prog.underlying t=some (.slice e))(hx:evS E x=some (.v (.slice A n c)))(hy:evS E y=some (.v (.int .i64 (j:Int)))) :
  ∀(G:Nat->Nat) (a:Act) (w:World),Fr N (denE G E) a->(execOp a.eval o).run Tryz.prog w = .ok (.value ((SV.v (.slice A j c)).den G)) w:=λG a w ha=>by
 have h1:a.eval x = .slice A n c:=ha.eval (evS_ok hx);have h2:a.eval y = .int .i64 (j:Int):=ha.eval (evS_ok hy)
 have h3:(j:Int)<=(c:Int):=by omega
 have h4:(0:Int)<=(j:Int):=by omega
 have h5:=run_sizeOf he w
 unfold execOp
 simp only [ho];generalize a.eval=ρ at *;simp only [Option.map,h1,h2]
 show _=Result.ok (Next.value (.slice A j c)) w
 cases A with
 | none =>
  have:=hA rfl;obtain rfl:c=0:=this
  obtain rfl:j=0:=by omega
  go_simp
 | some ad=>go_simp
end
theorem spec_law{f:FuncId}{args:List Value}{F:World->Prop}[Pst F](h:Spec f args [] F (one (.v (.bool true)))){W:World}(hF:F W):Calls Tryz.prog f args.toArray W λe W'=>e = .returned (.bool true)/\Below W.heap.size W W' :=
 (h W (λ_=>False) (λ_=>False) (λ_ h=>h) (λ_ h=>h.elim) (Stb.of_pst hF λ_ _ h=>h.elim id id)).mono λ_ _ ⟨_,_,h1,_,h2,_⟩=>⟨h1,h2.up λ_ _ h=>h⟩
theorem Rd.of_sl{A:Option Addr}{c:Nat}{l:List UInt8}{W:World}(h:SL W 0 W.heap.size A l c):Rd 1 eB A c l W:=(Rd.of_sb ⟨A,c,rfl,h⟩).2
section
variable{b:Base}{Q:Exit → Act → World → Prop}{ops:Array Oper}{N:Nat}{E E':SE}{L L':List LV}{R:List Res}{F M:World → Prop}{id:Nat}{l l':List Oper}{y:Code}
theorem zA(h:autoS TY l.toArray N l E L=([], E', L'))(hn:cS Tryz.prog b y Q N ⟨E', L', R, F, M⟩):cS Tryz.prog b (.seq (.region id l.toArray false) y) Q N ⟨E, L, R, F, M⟩ := s_auto zY h hn
theorem zB{l0:List Oper}(h:autoS TY ops N l0 E L=(l', E', L'))(hn:lS Tryz.prog b ops Q N l' ⟨E', L', R, F, M⟩):lS Tryz.prog b ops Q N l0 ⟨E, L, R, F, M⟩ := l_autoS zY h hn
theorem zC(h:autoS TY l.toArray N l E L=(l', E', L'))(hn:∀K:Act → World → Prop, (∀e', cS Tryz.prog b y Q N e' → kS b K N e') → lS Tryz.prog b l.toArray (Exit.then K Q) N l' ⟨E', L', R, F, M⟩):cS Tryz.prog b (.seq (.region id l.toArray false) y) Q N ⟨E, L, R, F, M⟩ := s_regA zY h hn
theorem zD(h:autoS TY l.toArray N l E L=([], E', L'))(hn:kS b (Q .normal) N ⟨E', L', R, F, M⟩):cS Tryz.prog b (.region id l.toArray false) Q N ⟨E, L, R, F, M⟩ := s_autoE zY h hn
theorem zU{α:Sort _}{β:α → Sort _}(a:α)(_:β a):True := trivial
theorem zE{E:SE}:∀{l:SE}, l.map (fun p => lookS E p.1)=l.map (fun p => some p.2) → SubS l E
  | [], _ => trivial
  | _::_, h => ⟨(List.cons.inj h).1, zE (List.cons.inj h).2⟩
def zF:List LV → Bool
  | [] => true
  | x::r => farL x.j r&&zF r
theorem zL{L:List LV}:∀{l:List LV}, l.map (fun x => findL L x.j)=l.map some → zF l=true → SubL l L
  | [], _, _ => trivial
  | _::_, h, hf => ⟨(List.cons.inj h).1, (Bool.and_eq_true_iff.1 hf).1, zL (List.cons.inj h).2 (Bool.and_eq_true_iff.1 hf).2⟩
end
end Go.Proofs.YtlhlkofpjhpaoaaGreatDoor
