import Derived.Test.YtlhlkofpjhpaoaaGreatDoorMd
import Derived.Test.YtlhlkofpjhpaoaaGreatDoorMe
import Derived.Test.YtlhlkofpjhpaoaaGreatDoorMb
set_option maxRecDepth 100000
set_option maxHeartbeats 4000000
open Array renaming replicate->aX,toList_append->dI
open Bool renaming and_eq_true->aN
open Fin renaming ext->iE
open Go.IntKind renaming wrap_u64->a8
open Go.Region renaming ready->aV
open Go.Result renaming andThen_ok->aD
open Go.Sem renaming run_bind->aG,run_pure->aH
open List renaming length_append->aB,mem_singleton->aE,mem_cons->aL,length_take->aU,append_assoc->a6,mem_map->bP,eq_nil_of_length_eq_zero->bV,map_cons->bX,take_append_drop->cW,length_drop->dC,mem_range'_1->iF,range'->lI,nodup_cons->oB
open Nat renaming le_of_ble_eq_true->aC,eq_of_beq_eq_true->aM,blt->aQ,mod_eq_of_lt->aY,beq->bN,le_trans->b8,pow_succ->cN,mod_lt->cO,lt_of_le_of_lt->dP,div_le_self->dU,mul_comm->eN,add_zero->eX,mul_assoc->fQ,two_pow_pos->gO,one_mul->g7,le_of_dvd->iA,dvd_of_mod_eq_zero->iP,mul_le_mul->iW,mul_mod->jD,pow_add->j9,gcd->kB,dvd_trans->lO,pow_mul->mL,beq_refl->oH,eq_zero_or_pos->oO,add_mul->o6,div_lt_of_lt_mul->pM,sub_mod_eq_zero_of_mod_eq->qO,add_sub_cancel'->qP,ble->sB,eq_zero_of_dvd_of_lt->sT,mod_eq_zero_of_dvd->tP
open Option renaming map_some->bI
open Option.some renaming injEq->aW
open Prod.mk renaming injEq->cY
open UInt8 renaming ofNat->bK
namespace Go.Proofs.YtlhlkofpjhpaoaaGreatDoor
open Go.RowKit Go.IntWalk
theorem run_andB{P:Program}{t:TypeId}{K:IntKind}{m n:Int}{w:World}:(binOp .and t (.int K m) (.int K n)).run P w = .ok (.int K (bits .and K m n)) w:=by cases K<;>go_simp
theorem run_orB{P:Program}{t:TypeId}{K:IntKind}{m n:Int}{w:World}:(binOp .or t (.int K m) (.int K n)).run P w = .ok (.int K (bits .or K m n)) w:=by cases K<;>go_simp
theorem run_xorB{P:Program}{t:TypeId}{K:IntKind}{m n:Int}{w:World}:(binOp .xor t (.int K m) (.int K n)).run P w = .ok (.int K (bits .xor K m n)) w:=by cases K<;>go_simp
def Arr(t:TypeId)(n:Nat):Prop:=∃e,Tryz.prog.underlying t=some (.array n e)/\(Tryz.prog.info? e).map (·.size)=some 1
theorem arr32:Arr 45 32:=⟨_,Tryz.underlying45,by kernel_rfl⟩
theorem arr64:Arr 74 64:=⟨_,Tryz.underlying74,by kernel_rfl⟩
def lenA(t:TypeId):Option Nat:=match bN t 45 with
  | true=>some 32
  | false=>match bN t 74 with
    | true=>some 64
    | false=>none
theorem lenA_ok{t:TypeId}{n:Nat}(h:lenA t=some n):Arr t n:=by
 unfold lenA at h
 split at h
 ·rename_i e
  cases h
  exact(aM e:t=_)▸arr32
 ·split at h
  ·rename_i e
   cases h
   exact(aM e:t=_)▸arr64
  ·cases h
def bndS(E:SE)(x:Option Operand)(n:Nat):Option Nat:=match x with
  | none=>some n
  | some y=>match evS E y with
    | some (.q (.c (.v (.int _ (.ofNat k)))))=>some k
    | _=>none
theorem run_bound{P:Program}{K:IntKind}{i y:Nat}{code:BoundsCode}(h:i<=y)(w:World):(Instr.sliceBound (.int K (i:Int)) y code).run P w = .ok i w:=by
 have h1:(0:Int)<=i/\(i:Int)<=y:=by omega
 simp only [Instr.sliceBound,asIntOf,aG,aH,aD,h1,and_self,if_true,Int.toNat_natCast]
theorem bndS_ok{E:SE}{x:Option Operand}{n m:Nat}(h:bndS E x n=some m):x=none/\m=n\/∃y K,x=some y/\evS E y=some (.v (.int K (m:Int))):=by
 unfold bndS at h
 split at h
 ·cases h
  exact .inl ⟨rfl,rfl⟩
 ·split at h
  ·rename_i y _ K k hy
   cases h
   exact .inr ⟨y,K,rfl,hy⟩
  ·cases h
theorem run_cutA{P:Program}{t e:TypeId}{g off n l h:Nat}{lo hi:Option Value}(ht:P.underlying t=some (.array n e))(he:(P.info? e).map (·.size)=some 1)(hl:lo=none/\l=0\/∃K,lo=some (.int K (l:Int)))(hh:hi=none/\h=n\/∃K,hi=some (.int K (h:Int)))(h1:l<=h)(h2:h<=n)(h3:l<n)(w:World) :
  (Instr.sliceAt t (.pointer (some ⟨g,off,none⟩)) lo hi none).run P w = .ok (.slice (some ⟨g,off+l,none⟩) (h-l) (n-l)) w:=by
 have h5:=run_sizeOf he w
 have h6:¬n=l:=by omega
 have hu:=run_underlying (P:=P) ht (w:=w);have hb:=λc=>run_bound (P:=P) (K:=.i64) (i:=h) (y:=n) (code:=c) h2 w
 rcases hl with⟨rfl,rfl⟩|⟨K,rfl⟩<;>rcases hh with⟨rfl,rfl⟩|⟨K2,rfl⟩ <;>
  simp [Instr.sliceAt,Instr.sureAddr,hu,Instr.sliceBounds,h5,run_bound h2,run_bound h1,aG,Addr.add_mid,h6]
def moreS(E:SE):Op->Option SV
  | .binOp op _ x y _=>match evS E x,evS E y with
    | some (.q (.c (.v (.int K m)))),some (.q (.c (.v (.int K' n))))=>match op,ikB K K',n with
      | .and,true,_=>some (.v (.int K (bits .and K m n)))
      | .or,true,_=>some (.v (.int K (bits .or K m n)))
      | .xor,true,_=>some (.v (.int K (bits .xor K m n)))
      | .shl,_,.ofNat c=>some (.v (.int K (K.wrap (m*2^min c K.bits))))
      | .shr,_,.ofNat c=>some (.v (.int K (m.fdiv (2^min c K.bits))))
      | _,_,_=>none
    | _,_=>none
  | .unOp .xor _ x=>match evS E x with
    | some (.q (.c (.v (.int K n))))=>some (.v (.int K (bits .xor K (if K.signed then -1 else K.max) n)))
    | _=>none
  | .slice t x lo hi none=>match evS E x,lenA t with
    | some (.a j off),some n=>match bndS E lo 0,bndS E hi n with
      | some l,some h=>match sB l h,sB h n,aQ l n with
        | true,true,true=>some (.s j (off+l) (h-l) (n-l))
        | _,_,_=>none
      | _,_=>none
    | _,_=>none
  | .sliceToArrayPointer t x=>match evS E x,lenA t with
    | some (.s j off n _),some m=>match sB m n with
      | true=>some (.a j off)
      | false=>none
    | _,_=>none
  | _=>none
theorem moreS_ok{E:SE}{N:Nat}{o:Oper}{v:SV}(h:moreS E o.op=some v):v.Ok/\∀(G:Nat->Nat) (a:Act) (w:World),Fr N (denE G E) a->(execOp a.eval o).run Tryz.prog w = .ok (.value (v.den G)) w:=by
 obtain⟨dst,op,ty,pos,af,gd⟩:=o
 dsimp only at h
 unfold moreS at h
 split at h
 ·rename_i op t x y _
  split at h
  ·rename_i K m K' n hx hy
   have go:∀u:Value,(∀w,(binOp op t (.int K m) (.int K' n)).run Tryz.prog w = .ok u w)->op ≠ .eql->op ≠ .neq->∀(G:Nat->Nat) (a:Act) (w:World),Fr N (denE G E) a->(execOp a.eval (⟨dst,.binOp op t x y ‹_›,ty,pos,af,gd⟩:Oper)).run Tryz.prog w = .ok (.value ((SV.v u).den G)) w:=λu hu h1 h2 G a w ha=>by
    have e1:=ha.eval (evS_ok (G:=G) hx);have e2:=ha.eval (evS_ok (G:=G) hy)
    unfold execOp
    simp only [e1,e2,SV.den,SQ.den,SC.den]
    cases op<;>first|(exact absurd rfl h1)|(exact absurd rfl h2)|simp [eqGuard,hu]
   split at h
   ·rename_i h1
    cases h
    obtain rfl:=ikB_ok h1;exact⟨trivial,go _ (λw=>run_andB) (by simp) (by simp)⟩
   ·rename_i h1
    cases h
    obtain rfl:=ikB_ok h1;exact⟨trivial,go _ (λw=>run_orB) (by simp) (by simp)⟩
   ·rename_i h1
    cases h
    obtain rfl:=ikB_ok h1;exact⟨trivial,go _ (λw=>run_xorB) (by simp) (by simp)⟩
   ·cases h
    exact⟨trivial,go _ (λw=>by simp only [binOp,Op.shift];rw [if_neg (by simp)];rfl) (by simp) (by simp)⟩
   ·cases h
    exact⟨trivial,go _ (λw=>by simp only [binOp,Op.shift];rw [if_neg (by simp)];rfl) (by simp) (by simp)⟩
   ·cases h
  ·cases h
 ·rename_i t x
  split at h
  ·rename_i K n hx
   cases h
   refine⟨trivial,λG a w ha=>?_⟩;have e1:=ha.eval (evS_ok (G:=G) hx)
   unfold execOp
   simp only [e1,SV.den,SQ.den,SC.den]
   cases K<;>go_simp
  ·cases h
 ·rename_i t x lo hi
  split at h
  ·rename_i j off n hx hn
   split at h
   ·rename_i l m hl hm
    split at h
    ·rename_i c1 c2 c3
     cases h
     refine⟨trivial,λG a w ha=>?_⟩;obtain⟨e,ht,he⟩:=lenA_ok hn;have e1:a.eval x = .pointer (some ⟨G j,off,none⟩):=ha.eval (evS_ok hx)
     have go:∀{y:Option Operand} {q d:Nat},bndS E y d=some q->y.map a.eval=none/\q=d\/∃K,y.map a.eval=some (.int K (q:Int)):=λh=>by
      rcases bndS_ok h with⟨rfl,h9⟩|⟨u,K,rfl,h9⟩
      ·exact .inl ⟨rfl,h9⟩
      ·exact .inr ⟨K,congrArg some (ha.eval (evS_ok h9))⟩
     have hr:=run_cutA (P:=Tryz.prog) (g:=G j) (off:=off) ht he (go hl) (go hm) (aC c1) (aC c2) (aC c3) w
     unfold execOp
     simp only [e1,Option.map_none,hr,aG,aH,aD]
     rfl
    ·cases h
   ·cases h
  ·cases h
 ·rename_i t x
  split at h
  ·rename_i j off n c m hx hm
   split at h
   ·rename_i c1
    cases h
    refine⟨trivial,λG a w ha=>?_⟩;obtain⟨e,ht,he⟩:=lenA_ok hm;have e1:a.eval x = .slice (some ⟨G j,off,none⟩) n c:=ha.eval (evS_ok hx);have hu:=run_underlying (P:=Tryz.prog) ht (w:=w)
    unfold execOp
    simp only [e1,Instr.arrayAt,aG,hu,aD];rw [if_neg (Nat.not_lt.2 (aC c1))]
    rfl
   ·cases h
  ·cases h
 ·cases h
def autoXL(ops:Array Oper)(N:Nat):Nat->List Oper->SE->List LV->List Oper×SE×List LV
  | 0,l,E,L=>autoS TY ops N l E L
  | f+1,l,E,L=>match autoS TY ops N l E L with
    | (o::l',E',L')=>match o.guard,o.dst,moreS E' o.op with
      | none,some k,some v=>match aQ k N with
        | true=>autoXL ops N f l' ((k,v)::E') L'
        | false=>(o::l',E',L')
      | _,_,_=>(o::l',E',L')
    | ([],E',L')=>([],E',L')
def autoXN(ops:Array Oper)(N:Nat)(L:List LV):Nat->List Oper->SE->List Oper×SE
  | 0,l,E=>autoN TY ops N L l E
  | f+1,l,E=>match autoN TY ops N L l E with
    | (o::l',E')=>match o.guard,o.dst,moreS E' o.op with
      | none,some k,some v=>match aQ k N with
        | true=>autoXN ops N L f l' ((k,v)::E')
        | false=>(o::l',E')
      | _,_,_=>(o::l',E')
    | ([],E')=>([],E')
section
variable{b:Base}{ops:Array Oper}{Q:Exit->Act->World->Prop}{N:Nat}{G:Nat->Nat}{S:Nat->Prop}{R:List Res}{F M:World->Prop}{w0:World}{Z:Act->Prop}
theorem autoXL_ok:∀{f:Nat} {l:List Oper} {E:SE} {L:List LV},lS Tryz.prog b ops Q N (autoXL ops N f l E L).1 ⟨(autoXL ops N f l E L).2.1,(autoXL ops N f l E L).2.2,R,F,M⟩->lS Tryz.prog b ops Q N l ⟨E,L,R,F,M⟩
 | 0,_,_,_,h=>autoS_ok zY h
 | f+1,l,E,L,h=>by
  unfold autoXL at h
  refine autoS_ok zY ?_
  split at h
  ·rename_i o l' E' L' e
   rw [e]
   split at h
   ·rename_i k v hg hd hv
    split at h
    ·rename_i hk
     exact l_op v (moreS_ok (N:=N) hv).1 hg hd hk (moreS_ok hv).2 (autoXL_ok h)
    ·exact h
   ·exact h
  ·rename_i E' L' e
   rw [e];exact h
theorem autoXN_ok{L:List LV}(hst:StW b G S L R F M w0):∀{f:Nat} {l:List Oper} {E:SE},OkE E->nS Tryz.prog ops N w0 Z G (autoXN ops N L f l E).1 (autoXN ops N L f l E).2->nS Tryz.prog ops N w0 Z G l E
 | 0,_,_,hE,h=>autoN_ok zY hst hE h
 | f+1,l,E,hE,h=>by
  unfold autoXN at h
  refine n_auto zY hst rfl ?_
  split at h
  ·rename_i o l' E' e
   rw [e]
   split at h
   ·rename_i k v hg hd hv
    split at h
    ·rename_i hk
     exact n_op hst v (moreS_ok (N:=N) hv).1 hg hd hk (moreS_ok hv).2 λhE'=>autoXN_ok hst hE' h hE'
    ·exact h
   ·exact h
  ·rename_i E' e
   rw [e];exact h
theorem l_auto2{l l':List Oper}{E E':SE}{L L':List LV}(h:autoXL ops N l.length l E L=(l',E',L'))(hn:lS Tryz.prog b ops Q N l' ⟨E',L',R,F,M⟩):lS Tryz.prog b ops Q N l ⟨E,L,R,F,M⟩:=autoXL_ok (by rw [h];exact hn)
theorem n_auto2{L:List LV}(hst:StW b G S L R F M w0){l l':List Oper}{E E':SE}(h:autoXN ops N L l.length l E=(l',E'))(hn:nS Tryz.prog ops N w0 Z G l' E'):nS Tryz.prog ops N w0 Z G l E:=λhE=>autoXN_ok hst hE (by rw [h];exact hn) hE
end
def callB(N:Nat)(E:SE)(o:Oper):Option (Nat×FuncId×List SV):=match o.guard,o.dst,o.op with
  | none,some k,.call { callee:=.value (.func f),args:=xs,argTypes:=_ }=>match aQ k N with
    | true=>match evSs E xs.toList with
      | some vs=>some (k,f,vs)
      | none=>none
    | false=>none
  | _,_,_=>none
theorem callB_ok{N:Nat}{E:SE}{o:Oper}{k:Nat}{f:FuncId}{vs:List SV}(h:callB N E o=some (k,f,vs)):o.guard=none/\o.dst=some k/\aQ k N=true/\∃xs ats,o.op = .call { callee:=.value (.func f),args:=xs,argTypes:=ats }/\evSs E xs.toList=some vs:=by
 unfold callB at h
 split at h
 ·rename_i k' f' xs ats hg hd ho
  split at h
  ·rename_i hk
   split at h
   ·rename_i us hu
    injection h with h
    injection h with h1 h
    injection h with h2 h3
    subst h1 h2 h3;exact⟨hg,hd,hk,xs,ats,ho,hu⟩
   ·cases h
  ·cases h
 ·cases h
def nextN(ops:Array Oper)(N:Nat)(L:List LV)(l:List Oper)(E:SE):Option (List Oper×SE×Nat×FuncId×List SV):=match autoXN ops N L l.length l E with
  | (o::l',E')=>match callB N E' o with
    | some (k,f,vs)=>some (l',E',k,f,vs)
    | none=>none
  | _=>none
def nextL(ops:Array Oper)(N:Nat)(l:List Oper)(E:SE)(L:List LV):Option (List Oper×SE×List LV×Nat×FuncId×List SV):=match autoXL ops N l.length l E L with
  | (o::l',E',L')=>match callB N E' o with
    | some (k,f,vs)=>some (l',E',L',k,f,vs)
    | none=>none
  | _=>none
structure Ct{α:Type}(F:World->Prop)(f:FuncId)(qs:List SQ)(post:Post α):Prop where
  own:Own f
  spec:Spec f (qs.map SQ.den) [] F post
section
variable{b:Base}{ops:Array Oper}{Q:Exit->Act->World->Prop}{N:Nat}{G:Nat->Nat}{S:Nat->Prop}{E E':SE}{L L':List LV}{R:List Res}{F M:World->Prop}{w0:World}{Z:Act->Prop}{l l':List Oper}{k:Nat}{α:Type}{post:Post α}{f:FuncId}{qs:List SQ}
theorem den_q(qs:List SQ)(G:Nat->Nat):(qs.map SV.q).map (SV.den G)=qs.map SQ.den:=by
 rw [List.map_map]
 rfl
theorem n_X[Pst F](hst:StW b G S L R F M w0)(c:Ct F f qs post)(h:nextN ops N L l E=some (l',E',k,f,qs.map SV.q))(hn:∀x,nS Tryz.prog ops N w0 Z G l' ((k,(post.ret x).sv)::E')):nS Tryz.prog ops N w0 Z G l E:=by
 unfold nextN at h
 split at h
 ·rename_i o l2 E2 h2
  split at h
  ·rename_i k2 f2 v2 h3
   simp only [aW,cY] at h;obtain⟨rfl,rfl,rfl,rfl,rfl⟩:=h;obtain⟨hg,hd,hk,xs,ats,ho,hx⟩:=callB_ok h3;refine n_auto2 hst h2 λhE=>?_;refine f_callV (qs.map SQ.den).toArray (λv=>∃x,(post.ret x).sv.Ok/\v=(post.ret x).den) hg hd hk c.own (λw hw=>(c.spec w (λ_=>False) (λ_=>False) (λ_ h=>h) (λ_ h=>h.elim) (Stb.of_pst (hst.later hw).view.fact λ_ _ h=>h.elim id id)).mono ?_) ho (by rw [evSs_ok hx,den_q]) ?_
   ·rintro e w2 ⟨x,_,h1,h2,h3,_⟩
    exact⟨_,h1,⟨x,h2,rfl⟩,h3.up λ_ _ h=>h⟩
   ·rintro _ ⟨x,hx,rfl⟩
    have h:=hn x (hE.cons hx);rw [show denE G ((k2,(post.ret x).sv)::E2)=(k2,(post.ret x).den)::denE G E2 by rw [denE,RV.sv_den]] at h;exact h
  ·cases h
 ·cases h
theorem l_X(c:Ct F f qs post)(ho:∀x,post.own x=[])(h:nextL ops N l E L=some (l',E',L',k,f,qs.map SV.q))(hn:∀x,lS Tryz.prog b ops Q N l' ⟨(k,(post.ret x).sv)::E',L',R,F,M⟩):lS Tryz.prog b ops Q N l ⟨E,L,R,F,M⟩:=by
 unfold nextL at h
 split at h
 ·rename_i o l2 E2 L2 h2
  split at h
  ·rename_i k2 f2 v2 h3
   simp only [aW,cY] at h;obtain⟨rfl,rfl,rfl,rfl,rfl,rfl⟩:=h;obtain⟨hg,hd,hk,xs,ats,ho',hx⟩:=callB_ok h3;refine l_auto2 h2 ?_;refine l_callA (own:=[]) (qs.map SQ.den) hg hd hk c.own ho' hx (λG _=>den_q qs G) c.spec (λw h _=>h) λx=>?_;rw [ho x];exact λa w ⟨G,S,h1,h2,h3⟩=>hn x a w ⟨G,S,h1,h2,{ h3 with fact:=h3.fact.imp λ_ h=>h.2,fresh:=h3.fresh.imp λ_ h=>h.2 }⟩
  ·cases h
 ·cases h
end
def zT(t:TypeId):List Pt:=match findT TY t with
  | some r=>r.zero
  | none=>[]
def nvs(us:List (Nat×TypeId)):List NV:=us.map λu=>⟨u.1,u.2,catP (zT u.2)⟩
def nvB(N:Nat):List Oper->List (Nat×TypeId)->Bool
  | _,[]=>true
  | [],_::_=>false
  | o::l,u::us=>match o.guard,o.dst,o.op with
    | none,some k,.alloc t=>bN k u.1&&aQ k N&&bN t u.2&&(findT TY t).isSome&&nvB N l us
    | _,_,_=>false
theorem zT_ok{t:TypeId}(h:(findT TY t).isSome=true):∃r,findT TY t=some r/\r.ok Tryz.prog/\r.t=t/\zT t=r.zero:=by
 unfold zT
 cases hr:findT TY t with
 | none=>rw [hr] at h;cases h
 | some r=>exact⟨r,rfl,(findT_ok zY hr).1,(findT_ok zY hr).2,rfl⟩
theorem nvB_ok{N:Nat}:∀{l:List Oper} {us:List (Nat×TypeId)},nvB N l us=true->nvOk Tryz.prog N l (nvs us)
 | _,[],_=>by unfold nvs;simp [nvOk]
 | [],_::_,h=>by cases h
 | o::l,u::us,h=>by
  unfold nvB at h
  split at h
  ·rename_i k t hg hd ho
   simp only [aN] at h;obtain⟨⟨⟨⟨h1,h2⟩,h3⟩,h4⟩,h5⟩:=h;obtain rfl:=aM h1;obtain rfl:=aM h3;obtain⟨r,hr,hok,ht,hz⟩:=zT_ok h4;obtain⟨it,d,h6,h7,h8,h9,_⟩:=hok.info;refine⟨⟨hg,hd,h2,ho,?_⟩,nvB_ok h5⟩
   show(Tryz.prog.info? u.2).bind _=some (catP (zT u.2))
   rw [hz,<-ht,h6,Option.bind_some,h9]
  ·cases h
def newRB(N n:Nat)(l:List Oper)(us:List (Nat×TypeId)):Bool:=sB (n+us.length) l.length&&tsApart (nvs us)&&nvB N (l.drop n) us&&tailB l.toArray n us.length (l.drop (n+us.length)).length&&newC l.toArray n (marks us.length n (marks n 0 (aX l.toArray.size false))) us.length (List.range us.length) (marks n 0 (aX l.toArray.size false))
def stX:List (Nat×TypeId)->List Oper->Option (List Operand×List Oper)
  | [],T=>some ([],T)
  | u::us,o::T=>match o.guard,o.dst,o.op with
    | none,none,.store t (.tmp k) y=>match bN t u.2,bN k u.1,stX us T with
      | true,true,some (xs,T2)=>some (y::xs,T2)
      | _,_,_=>none
    | _,_,_=>none
  | _,[]=>none
theorem stX_ok:∀{us:List (Nat×TypeId)} {T T2:List Oper} {xs:List Operand},stX us T=some (xs,T2)->stOk (nvs us) xs T T2
 | [],_,_,_,h=>by cases h;rfl
 | _::_,[],_,_,h=>by cases h
 | u::us,o::T,T2,xs,h=>by
  unfold stX at h
  split at h
  ·rename_i t k y hg hd ho
   split at h
   ·rename_i ys T3 h1 h2 h3
    cases h
    obtain rfl:=aM h1;obtain rfl:=aM h2;exact⟨⟨hg,hd,ho⟩,stX_ok h3⟩
   ·cases h
  ·cases h
def mkV(E:SE):List (Nat×TypeId)->List Operand->Option (List LV)
  | [],[]=>some []
  | u::us,x::xs=>match evS E x,mkV E us xs with
    | some (.q (.p ps)),some vs=>match bN (sizeP ps) (sizeP (zT u.2)),(findT TY u.2).isSome,lookS E u.1 with
      | true,true,none=>some (⟨u.1,none,u.2,ps⟩::vs)
      | _,_,_=>none
    | _,_=>none
  | _,_=>none
theorem mkV_ok{E:SE}(hE:OkE E)(G:Nat->Nat):∀{us:List (Nat×TypeId)} {xs:List Operand} {vs:List LV},mkV E us xs=some vs->nvL vs (us.map λu=>catP (zT u.2))=nvs us/\vs.length=us.length/\(∀v∈vs,OkP v.ps)/\far (denE G E) (nvs us)/\valOk Tryz.prog (denE G E) (nvs us) xs (vs.map λv=>catP v.ps)
 | [],[],_,h=>by cases h;exact⟨rfl,rfl,(λ_ h=>by cases h),trivial,trivial⟩
 | [],_::_,_,h=>by cases h
 | _::_,[],_,h=>by cases h
 | u::us,x::xs,vs,h=>by
  unfold mkV at h
  split at h
  ·rename_i ps ws h1 h2
   split at h
   ·rename_i h3 h4 h5
    cases h
    obtain⟨e1,e2,e3,e4,e5⟩:=mkV_ok hE G h2;obtain⟨r,hr,hok,ht,hz⟩:=zT_ok h4;obtain⟨it,d,h6,h7,h8,h9,_⟩:=hok.info;have hp:OkP ps:=hE.ev h1;have hs:sizeP ps=sizeP r.zero:=hz▸aM h3;refine⟨congrArg (_ :: ·) e1,congrArg (· + 1) e2,λv hv=>?_,⟨by rw [look_den,h5];rfl,e4⟩,⟨⟨evS_ok h1,?_,?_,λv hv=>hp.one v hv⟩,e5⟩⟩
    ·rcases aL.1 hv with rfl|hv
     ·exact hp
     ·exact e3 v hv
    ·show(catP (zT u.2)).size=(catP ps).size
     rw [hz,hok.2.size,hp.size,hs]
    ·show(Tryz.prog.info? u.2).map (·.size)=some (catP ps).size
     rw [<-ht,h6,hp.size,hs,<-h8]
     rfl
   ·cases h
  ·cases h
def endN(ops:Array Oper)(N:Nat)(us:List (Nat×TypeId))(L:List LV)(T' l:List Oper)(E:SE):Option (SE×List LV):=match autoXN ops N L l.length l E with
  | ([],E1)=>match stX us T' with
    | some (xs,T2)=>match mkV E1 us xs with
      | some vs=>match freeV E1 L vs with
        | true=>match autoXL ops N T2.length T2 (ptrV vs E1) (vs++L) with
          | ([],E2,L2)=>some (E2,L2)
          | _=>none
        | false=>none
      | none=>none
    | none=>none
  | _=>none
section
variable{b:Base}{Q:Exit->Act->World->Prop}{N:Nat}{G:Nat->Nat}{S:Nat->Prop}{E E' E2:SE}{L L' L2:List LV}{R:List Res}{F M:World->Prop}{w0:World}{T' l:List Oper}{id:Nat}{y:Code}{ops:Array Oper}{K:Act->World->Prop}
theorem s_N(n:Nat)(us:List (Nat×TypeId))(hB:newRB N n l us=true)
 (h:∀K:Act->World->Prop,(∀e',cS Tryz.prog b y Q N e'->kS b K N e')->∀G S w0,StW b G S L R F M w0->nS Tryz.prog l.toArray N w0 (newPost Tryz.prog l.toArray (NoPanic (Exit.then K Q)) w0 (nvs us) (l.drop (n+us.length)) N) G (l.take n) E):cS Tryz.prog b (.seq (.region id l.toArray true) y) Q N ⟨E,L,R,F,M⟩:=by
 unfold newRB at hB
 simp only [aN] at hB;obtain⟨⟨⟨⟨h1,h2⟩,h3⟩,h4⟩,h5⟩:=hB
 have hl:(nvs us).length=us.length:=by simp [nvs]
 rw [<-hl] at h1 h4 h5 h;exact s_new n (nvs us) (aC h1) h2 (nvB_ok h3) rfl h4 h5 h
theorem n_N{us:List (Nat×TypeId)}(hst:StW b G S L R F M w0)(hap:tsApart (nvs us)=true)(hK:∀e',cS Tryz.prog b y Q N e'->kS b K N e')(h:endN ops N us L T' l E=some (E2,L2))(hn:cS Tryz.prog b y Q N ⟨E2,L2,R,F,M⟩):nS Tryz.prog ops N w0 (newPost Tryz.prog ops (NoPanic (Exit.then K Q)) w0 (nvs us) T' N) G l E:=by
 unfold endN at h
 split at h
 ·rename_i E1 h1
  split at h
  ·rename_i xs T2 h2
   split at h
   ·rename_i vs h3
    split at h
    ·rename_i h4
     split at h
     ·rename_i E3 L3 h5
      cases h
      refine n_auto2 hst h1 λhE=>?_;obtain⟨e1,e2,e3,e4,e5⟩:=mkV_ok hE G h3;exact n_new hst vs _ xs e1 (by rw [e2,List.length_map]) h4 e3 e4 hap (stX_ok h2) e5 (l_auto2 h5 (zJ (hK _ hn))) hE
     ·cases h
    ·cases h
   ·cases h
  ·cases h
 ·cases h
theorem l_E{l:List Oper}{ops:Array Oper}(h:autoXL ops N l.length l E L=([],E2,L2))(hn:kS b (Q .normal) N ⟨E2,L2,R,F,M⟩):lS Tryz.prog b ops Q N l ⟨E,L,R,F,M⟩:=l_auto2 h (zJ hn)
theorem l_N(hK:∀e',cS Tryz.prog b y Q N e'->kS b K N e')(h:autoXL ops N l.length l E L=([],E2,L2))(hn:cS Tryz.prog b y Q N ⟨E2,L2,R,F,M⟩):lS Tryz.prog b ops (Exit.then K Q) N l ⟨E,L,R,F,M⟩:=l_auto2 h (zJ (hK _ hn))
end
section
variable{P:Program}{b:Base}{ops:Array Oper}{Q:Exit->Act->World->Prop}{N:Nat}{E:SE}{L:List LV}{R:List Res}{F M:World->Prop}{o:Oper}{rest:List Oper}{k:Nat}
theorem parts_denC{G:Nat->Nat}(l:List (Nat×Operand))(m:List (Nat×SC))(h:l.map (λp=>(p.1,evS E p.2))=m.map λx=>(x.1,some (.q (.c x.2)))):l.map (λp=>(p.1,ev (denE G E) p.2))=(m.map λx=>(x.1,x.2.den)).map λx=>(x.1,some x.2):=by
 induction l generalizing m with
 | nil=>cases m<;>simp_all
 | cons p l ih =>
  cases m with
  | nil=>simp at h
  | cons x m =>
   simp only [bX,List.cons.injEq,cY] at h ⊢;exact⟨⟨h.1.1,evS_ok h.1.2⟩,ih m h.2⟩
theorem l_buildC{t:TypeId}{parts:Array (Nat×Operand)}(n:Nat)(l:List UInt8)(hg:o.guard=none)(hd:o.dst=some k)(hk:aQ k N=true)(ho:o.op = .build t parts)(hv:parts.toList.map (λp=>(p.1,evS E p.2))=(l.zipIdx.map λx=>(x.2,SC.v (.int .u8 (x.1.toNat:Int)))).map λx=>(x.1,some (.q (.c x.2))))
 (hb:P.built t ((l.zipIdx.map λx=>(x.2,SC.v (.int .u8 (x.1.toNat:Int)))).map λx=>(x.1,x.2.den))=some (By l).toArray)(hl:l.length=n)(hn:lS P b ops Q N rest ⟨(k,.q (eY n l))::E,L,R,F,M⟩):lS P b ops Q N (o::rest) ⟨E,L,R,F,M⟩ :=
 l_f (.q (eY n l)) (eY_ok hl).1 (λG S w C0 Q' _ _ hQ=>f_build _ _ hg hd hk ho (parts_denC _ _ hv) hb hQ) (by rw [ho];rfl) hn
end
structure RwL where
  k1:Nat
  k2:Nat
  j:Nat
  off:Nat
  i:Nat
  t:TypeId
  ps:List Pt
  K:IntKind:=.u8
  m:Int:=0
def ixS(N:Nat)(E:SE)(L:List LV)(o:Oper):Option RwL:=match o.guard,o.dst,o.op with
  | none,some k,.indexAddr t x y=>match evS E x,evS E y,aQ k N with
    | some (.a j off),some (.q (.c (.v (.int _ (.ofNat i))))),true=>match lookL L j with
      | some ps=>some { k1:=k,k2:=0,j:=j,off:=off,i:=i,t:=t,ps:=ps }
      | none=>none
    | _,_,_=>none
  | _,_,_=>none
theorem ixS_ok{N:Nat}{E:SE}{L:List LV}{o:Oper}{u:RwL}(h:ixS N E L o=some u):o.guard=none/\o.dst=some u.k1/\aQ u.k1 N=true/\lookL L u.j=some u.ps/\∃x y K,o.op = .indexAddr u.t x y/\evS E x=some (.a u.j u.off)/\evS E y=some (.v (.int K (u.i:Int))):=by
 unfold ixS at h
 split at h
 ·rename_i k t x y hg hd ho
  split at h
  ·rename_i j off K i hx hy hk
   split at h
   ·rename_i ps hl
    cases h
    exact⟨hg,hd,hk,hl,x,y,K,ho,hx,hy⟩
   ·cases h
  ·cases h
 ·cases h
def ldS(N:Nat)(E:SE)(L:List LV)(o1 o2:Oper):Option RwL:=match ixS N E L o1,o2.guard,o2.dst,o2.op with
  | some u,none,some k,.load e (.tmp z)=>match bN z u.k1,aQ k N,findT TY e with
    | true,true,some r=>match r.kind with
      | 0=>some { u with k2:=k }
      | _=>none
    | _,_,_=>none
  | _,_,_,_=>none
theorem ldS_ok{N:Nat}{E:SE}{L:List LV}{o1 o2:Oper}{u:RwL}(h:ldS N E L o1 o2=some u):∃u0:RwL,ixS N E L o1=some u0/\u={ u0 with k2:=u.k2 }/\o2.guard=none/\o2.dst=some u.k2/\aQ u.k2 N=true/\∃e d,o2.op = .load e (.tmp u0.k1)/\Tryz.prog.underlying e=some d/\d.isRow=false:=by
 unfold ldS at h
 split at h
 ·rename_i u0 k e z h0 hg hd ho
  split at h
  ·rename_i r hz hk hr
   split at h
   ·rename_i h9
    cases h
    obtain rfl:=aM hz;obtain⟨h1,h2⟩:=findT_ok zY hr;obtain⟨it,d,_,h4,_,_,h7,_⟩:=h1.info;exact⟨u0,h0,rfl,hg,hd,hk,e,d,ho,h2▸h4,kind_not (h7.trans h9)⟩
   ·cases h
  ·cases h
 ·cases h
def wrS(N:Nat)(E:SE)(L:List LV)(o1 o2:Oper):Option RwL:=match ixS N E L o1,o2.guard,o2.dst,o2.op with
  | some u,none,none,.store e (.tmp z) y=>match bN z u.k1,evS E y,findT TY e with
    | true,some (.q (.c (.v (.int K m)))),some r=>match bN (sizeP r.zero) 1,lookS E u.k1 with
      | true,none=>some { u with K:=K,m:=m }
      | _,_=>none
    | _,_,_=>none
  | _,_,_,_=>none
theorem wrS_ok{N:Nat}{E:SE}{L:List LV}{o1 o2:Oper}{u:RwL}(h:wrS N E L o1 o2=some u):∃u0:RwL,ixS N E L o1=some u0/\u={ u0 with K:=u.K,m:=u.m }/\o2.guard=none/\o2.dst=none/\lookS E u0.k1=none/\∃e y,o2.op = .store e (.tmp u0.k1) y/\evS E y=some (.v (.int u.K u.m))/\(Tryz.prog.info? e).map (·.size)=some 1:=by
 unfold wrS at h
 split at h
 ·rename_i u0 e z y h0 hg hd ho
  split at h
  ·rename_i K m r hz hy hr
   split at h
   ·rename_i h9 hl
    cases h
    obtain rfl:=aM hz;obtain⟨h1,h2⟩:=findT_ok zY hr;obtain⟨it,d,h3,_,h5,_⟩:=h1.info;exact⟨u0,h0,rfl,hg,hd,hl,e,y,ho,hy,by rw [<-h2,h3,bI,h5,aM h9]⟩
   ·cases h
  ·cases h
 ·cases h
theorem lookS_cons{E:SE}{k j:Nat}{v:SV}(h:bN k j=false):lookS ((k,v)::E) j=lookS E j:=by rw [lookS,h]
theorem evS_new{E:SE}{k:Nat}{v u:SV}{x:Operand}(hk:lookS E k=none)(h:evS E x=some u):evS ((k,v)::E) x=some u:=by
 cases x with
 | tmp j =>
  have h:lookS E j=some u:=h
  cases hb:bN k j with
  | false=>exact(lookS_cons hb).trans h
  | true =>
   rw [<-aM hb,hk] at h
   cases h
 | _=>exact h
section
variable{b:Base}{ops:Array Oper}{Q:Exit->Act->World->Prop}{N n:Nat}{G:Nat->Nat}{S:Nat->Prop}{E:SE}{L:List LV}{R:List Res}{F M:World->Prop}{w0:World}{Z:Act->Prop}{rest:List Oper}{o1 o2:Oper}{u:RwL}
theorem l_cell(h:ldS N E L o1 o2=some u)(ha:Arr u.t n)(hi:u.i<n)(v:Value)(hv:(catP u.ps)[u.off+u.i]?=some v)(hn:lS Tryz.prog b ops Q N rest ⟨(u.k2,.v v)::(u.k1,.a u.j (u.off+u.i))::E,L,R,F,M⟩):lS Tryz.prog b ops Q N (o1::o2::rest) ⟨E,L,R,F,M⟩:=by
 obtain⟨u0,h0,hu0,hg,hd,hk,e,d,ho,hu,hr⟩:=ldS_ok h;rw [hu0] at ha hi hv hn
 dsimp only at ha hi hv hn
 obtain⟨hg1,hd1,hk1,hl,x,y,K,ho1,hx,hy⟩:=ixS_ok h0;obtain⟨te,ht,he⟩:=ha;refine l_op (.a u0.j (u0.off+1*u0.i)) trivial hg1 hd1 hk1 (runO_ixA u0.i ho1 ht he hx hy hi) ?_;rw [g7];exact l_opV (.v v) trivial hg hd hk (runO_ldA v ho (by show lookS ((u0.k1,_)::E) u0.k1=_;unfold lookS;rw [oH]) hl hv hu hr) hn
theorem n_cell(hst:StW b G S L R F M w0)(h:ldS N E L o1 o2=some u)(ha:Arr u.t n)(hi:u.i<n)(v:Value)(hv:(catP u.ps)[u.off+u.i]?=some v)(hn:nS Tryz.prog ops N w0 Z G rest ((u.k2,.v v)::(u.k1,.a u.j (u.off+u.i))::E)):nS Tryz.prog ops N w0 Z G (o1::o2::rest) E:=by
 obtain⟨u0,h0,hu0,hg,hd,hk,e,d,ho,hu,hr⟩:=ldS_ok h;rw [hu0] at ha hi hv hn
 dsimp only at ha hi hv hn
 obtain⟨hg1,hd1,hk1,hl,x,y,K,ho1,hx,hy⟩:=ixS_ok h0;obtain⟨te,ht,he⟩:=ha;refine n_op hst (.a u0.j (u0.off+1*u0.i)) trivial hg1 hd1 hk1 (runO_ixA u0.i ho1 ht he hx hy hi) ?_;rw [g7];exact n_opV hst (.v v) trivial hg hd hk (runO_ldA v ho (by show lookS ((u0.k1,_)::E) u0.k1=_;unfold lookS;rw [oH]) hl hv hu hr) hn
theorem l_put(h:wrS N E L o1 o2=some u)(ha:Arr u.t n)(hi:u.i<n)(ps':List Pt)(hp:OkP ps')(hlt:u.off+u.i<(catP u.ps).size)(hs:(catP ps').toList=(catP u.ps).toList.set (u.off+u.i) (.int u.K u.m))(hn:lS Tryz.prog b ops Q N rest ⟨(u.k1,.a u.j (u.off+u.i))::E,putL L u.j ps',R,F,M⟩):lS Tryz.prog b ops Q N (o1::o2::rest) ⟨E,L,R,F,M⟩:=by
 obtain⟨u0,h0,hu,hg,hd,hl,e,y',ho,hy',he1⟩:=wrS_ok h;rw [hu] at ha hi hlt hs hn
 dsimp only at ha hi hlt hs hn
 obtain⟨hg1,hd1,hk1,hlk,x,y,K,ho1,hx,hy⟩:=ixS_ok h0;obtain⟨te,ht,he⟩:=ha;refine l_op (.a u0.j (u0.off+1*u0.i)) trivial hg1 hd1 hk1 (runO_ixA u0.i ho1 ht he hx hy hi) ?_;rw [g7];exact l_stA ps' hg hd ho (by show lookS ((u0.k1,_)::E) u0.k1=_;unfold lookS;rw [oH]) (evS_new hl hy') hlk he1 rfl rfl hlt hp hs hn
theorem n_ix(hst:StW b G S L R F M w0)(h:ixS N E L o1=some u)(ha:Arr u.t n)(hi:u.i<n)(hn:nS Tryz.prog ops N w0 Z G rest ((u.k1,.a u.j (u.off+u.i))::E)):nS Tryz.prog ops N w0 Z G (o1::rest) E:=by
 obtain⟨hg1,hd1,hk1,hl,x,y,K,ho1,hx,hy⟩:=ixS_ok h;obtain⟨te,ht,he⟩:=ha;refine n_op hst (.a u.j (u.off+1*u.i)) trivial hg1 hd1 hk1 (runO_ixA u.i ho1 ht he hx hy hi) ?_;rw [g7];exact hn
def stC(E:SE)(L:List LV)(o:Oper):Option RwL:=match o.guard,o.dst,o.op with
  | none,none,.store e x y=>match evS E x,evS E y,findT TY e with
    | some (.a j off),some (.q (.c (.v (.int K m)))),some r=>match bN (sizeP r.zero) 1,lookL L j with
      | true,some ps=>some { k1:=0,k2:=0,j:=j,off:=off,i:=0,t:=e,ps:=ps,K:=K,m:=m }
      | _,_=>none
    | _,_,_=>none
  | _,_,_=>none
theorem l_st1(h:stC E L o1=some u)(ps':List Pt)(hp:OkP ps')(hlt:u.off<(catP u.ps).size)(hs:(catP ps').toList=(catP u.ps).toList.set u.off (.int u.K u.m))(hn:lS Tryz.prog b ops Q N rest ⟨E,putL L u.j ps',R,F,M⟩):lS Tryz.prog b ops Q N (o1::rest) ⟨E,L,R,F,M⟩:=by
 unfold stC at h
 split at h
 ·rename_i e x y hg hd ho
  split at h
  ·rename_i j off K m r hx hy hr
   split at h
   ·rename_i ps h9 hl
    cases h
    obtain⟨h1,h2⟩:=findT_ok zY hr;obtain⟨it,d,h3,_,h5,_⟩:=h1.info;exact l_stA ps' hg hd ho hx hy hl (by rw [<-h2,h3,bI,h5,aM h9]) rfl rfl hlt hp hs hn
   ·cases h
  ·cases h
 ·cases h
theorem n_eq{l:List Oper}(k:Nat){v:SV}(v':SV)(h:lookS E k=some v)(he:v=v')(hn:nS Tryz.prog ops N w0 Z G l ((k,v')::E)):nS Tryz.prog ops N w0 Z G l E:=λhE=>by
 subst he;exact λa ha=>hn (hE.cons (hE.get h)) a (ha.more (ha.get k _ (by rw [look_den,h];rfl)))
theorem n_num{l:List Oper}(k:Nat){K:IntKind}{m:Int}(n:Int)(h:lookS E k=some (.v (.int K m)))(he:m=n)(hn:nS Tryz.prog ops N w0 Z G l ((k,.v (.int K n))::E)):nS Tryz.prog ops N w0 Z G l E:=n_eq k _ h (by rw [he]) hn
theorem s_drawnN{l:List Oper}{id:Nat}(n:Nat)(hB:newRB N n l []=true)(h:∀G S w0,StW b G S L R F M w0->nS Tryz.prog l.toArray N w0 (newPost Tryz.prog l.toArray (NoPanic Q) w0 (nvs []) (l.drop n) N) G (l.take n) E):cS Tryz.prog b (.region id l.toArray true) Q N ⟨E,L,R,F,M⟩:=by
 unfold newRB at hB
 simp only [aN] at hB;obtain⟨⟨⟨⟨h1,_⟩,h3⟩,h4⟩,h5⟩:=hB;exact λa w ⟨G,S,g1,g2,g3⟩=>wp_region_noPanic (c_new n (nvs []) (aC h1) rfl (nvB_ok h3) rfl h4 h5 (λ_ _ _ _ _ h=>h) (h G S w g3 g2) a g1)
theorem n_L(hst:StW b G S L R F M w0){T':List Oper}{l:List Oper}{E2:SE}(h:autoXN ops N L l.length l E=([],E2))(hn:lS Tryz.prog b ops Q N T' ⟨E2,L,R,F,M⟩):nS Tryz.prog ops N w0 (newPost Tryz.prog ops Q w0 (nvs []) T' N) G l E :=
 n_auto2 hst h (n_new hst [] [] [] rfl rfl rfl (λ_ h=>by cases h) trivial rfl rfl trivial hn)
end
def tupRB(N n:Nat)(t:Tmp)(t2:Tmp)(ty:TypeId)(l:List Oper):Option (Operand×Operand):=match l.drop n with
  | [oa,os,ot]=>match oa.guard,oa.dst,oa.op,os.guard,os.dst,os.op with
    | none,some k,.alloc ty1,none,none,.store ty2 (.tmp k2) x=>match ot.guard,ot.dst,ot.op with
      | none,some k3,.assign y=>match bN k t&&bN ty1 ty&&bN ty2 ty&&bN k2 t&&bN k3 t2&&sB n l.length&&aQ t N&&aQ t2 N&&(findT TY ty).isSome&&Region.noSelect l.toArray&&headC .any l.toArray n l 0&&chainB .any l 0 none&&decide (aV .any l.toArray (marks n 0 (aX l.toArray.size false))=[n])&&decide (aV .any l.toArray ((marks n 0 (aX l.toArray.size false)).setIfInBounds n true)=[n+1])&&decide (aV .any l.toArray (((marks n 0 (aX l.toArray.size false)).setIfInBounds n true).setIfInBounds (n+1) true)=[n+2])&&decide (aV .any l.toArray ((((marks n 0 (aX l.toArray.size false)).setIfInBounds n true).setIfInBounds (n+1) true).setIfInBounds (n+2) true)=[]) with
        | true=>some (x,y)
        | false=>none
      | _,_,_=>none
    | _,_,_,_,_,_=>none
  | _=>none
section
variable{b:Base}{Q:Exit->Act->World->Prop}{N:Nat}{G:Nat->Nat}{S:Nat->Prop}{E E':SE}{L:List LV}{R:List Res}{F M:World->Prop}{w0:World}{l:List Oper}{id:Nat}{y:Code}{ops:Array Oper}{K:Act->World->Prop}{t t2:Tmp}{ty:TypeId}{x z:Operand}{ps:List Pt}{q:SQ}
theorem s_T(n:Nat)(t t2:Tmp)(ty:TypeId)(hB:tupRB N n t t2 ty l=some (x,z))
 (h:∀K:Act->World->Prop,(∀e',cS Tryz.prog b y Q N e'->kS b K N e')->∀G S w0,StW b G S L R F M w0->nS Tryz.prog l.toArray N w0 (tupEnd Tryz.prog (NoPanic (Exit.then K Q)) w0 t t2 ty x z (catP (zT ty)).size) G (l.take n) E):cS Tryz.prog b (.seq (.region id l.toArray true) y) Q N ⟨E,L,R,F,M⟩:=by
 unfold tupRB at hB
 split at hB
 ·rename_i oa os ot hl
  split at hB
  ·rename_i k ty1 ty2 k2 x1 h1 h2 h3 h4 h5 h6
   split at hB
   ·rename_i k3 y1 h7 h8 h9
    split at hB
    ·rename_i hc
     simp only [aW,cY] at hB;obtain⟨rfl,rfl⟩:=hB;simp only [aN,decide_eq_true_eq] at hc;obtain⟨⟨⟨⟨⟨⟨⟨⟨⟨⟨⟨⟨⟨⟨⟨e1,e2⟩,e3⟩,e4⟩,e5⟩,e6⟩,_⟩,_⟩,e9⟩,e10⟩,e11⟩,e12⟩,e13⟩,e14⟩,e15⟩,e16⟩:=hc;obtain rfl:=aM e1;obtain rfl:=aM e2;obtain rfl:=aM e3;obtain rfl:=aM e4;obtain rfl:=aM e5
     have hll:l=l.take n++[oa,os,ot]:=by rw [<-hl,cW]
     obtain⟨r,hr,hok,ht,hz⟩:=zT_ok e9;obtain⟨it,d,i6,_,_,i9,_⟩:=hok.info;refine zM λK hK a w ⟨G,S,g1,g2,g3⟩=>wp_region_noPanic ?_;exact c_tup n _ _ _ _ _ (catP (zT ty2)) hll (by rw [aU];have:=aC e6;omega) h6 h9 h4 h7 h5 h8 h1 h2 rfl e10 e11 e12 e13 e14 e15 e16 (λ_ _ _ _ _ h=>h) h3 (by rw [hz,<-ht,i6,Option.bind_some,i9]) (h K hK G S w g3 g2) a g1
    ·cases hB
   ·cases hB
  ·cases hB
 ·cases hB
def endT(ops:Array Oper)(N:Nat)(t t2:Tmp)(ty:TypeId)(x z:Operand)(L:List LV)(l:List Oper)(E:SE):Option (SE×List Pt×SQ):=match autoXN ops N L l.length l E with
  | ([],E1)=>match evS E1 x,evS E1 z with
    | some (.q (.p ps)),some (.q q)=>match bN (sizeP ps) (sizeP (zT ty))&&(findT TY ty).isSome&&farL t L&&farE t E1&&aQ t N&&aQ t2 N,lookS E1 t with
      | true,none=>some (E1,ps,q)
      | _,_=>none
    | _,_=>none
  | _=>none
theorem n_T(hst:StW b G S L R F M w0)(hK:∀e',cS Tryz.prog b y Q N e'->kS b K N e')(h:endT ops N t t2 ty x z L l E=some (E',ps,q))(hn:cS Tryz.prog b y Q N ⟨(t2,.q q)::(t,.a t 0)::E',⟨t,none,ty,ps⟩::L,R,F,M⟩):nS Tryz.prog ops N w0 (tupEnd Tryz.prog (NoPanic (Exit.then K Q)) w0 t t2 ty x z (catP (zT ty)).size) G l E:=by
 unfold endT at h
 split at h
 ·rename_i E1 h1
  split at h
  ·rename_i ps1 q1 h2 h3
   split at h
   ·rename_i hc hl
    cases h
    simp only [aN] at hc;obtain⟨⟨⟨⟨⟨c1,c2⟩,c3⟩,c4⟩,c5⟩,c6⟩:=hc;refine n_auto2 hst h1 λhE=>?_;obtain⟨r,hr,hok,ht,hz⟩:=zT_ok c2;obtain⟨it,d,i6,_,i8,_⟩:=hok.info;have hp:OkP ps:=hE.ev h2;have hs:sizeP ps=sizeP r.zero:=hz▸aM c1
    have hev:∀{u:Operand} {s:SV},evS E' u=some s->∀v,ev ((t,v)::denE G E') u=some (s.den G):=λ{u s} hu v=>by
     cases u with
     | tmp j =>
      have hu:lookS E' j=some s:=hu
      show look ((t,v)::denE G E') j=_
      by_cases e:t=j
      ·rw [<-e,hl] at hu
       cases hu
      ·rw [look_cons,if_neg e,look_den,hu]
       rfl
     | _=>exact evS_ok (E:=E') hu
    refine f_tupEnd (catP ps) (q.den) c5 c6 (λv=>hev h2 v) (λv=>hev h3 v) (by rw [hz,hok.2.size,hp.size,hs]) (by rw [<-ht,i6,hp.size,hs,<-i8];rfl) (λv hv=>hp.one v hv) λg w' hg hU hb a ha=>?_
    have hst2:=hst.news (E:=E') (gs:=λ_=>g) hU [⟨t,none,ty,ps⟩] (by simp [freeV,c3,c4,farL]) (λu hu=>by rw [aE.1 hu];exact hp) (λ_ _=>hg) (λi j hi hj hne=>absurd (show i=j by simp at hi hj;omega) hne) λu hu=>by
     rw [aE.1 hu]
     show Blk w' (if t=t then g else G t) ty (catP ps)
     rw [if_pos rfl];exact hb
    refine hK _ hn a w' ⟨_,S,?_,(OkE.cons hE (v:=.a t 0) trivial).cons (hE.ev h3),hst2⟩;have e1:denE (gOf [⟨t,none,ty,ps⟩] 0 (λ_=>g) G) E'=denE G E':=denE_far (j:=t) (g:=g) c4
    show Fr N ((t2,q.den)::(t,.pointer (some ⟨if t=t then g else G t,0,none⟩))::denE (gOf [⟨t,none,ty,ps⟩] 0 (λ_=>g) G) E') a
    rw [if_pos rfl,e1];exact ha
   ·cases h
  ·cases h
 ·cases h
end
theorem Ct.imp{α:Type}{F F':World->Prop}{f:FuncId}{qs:List SQ}{post:Post α}(c:Ct F f qs post)(h:∀w,F' w->F w):Ct F' f qs post:=⟨c.own,c.spec.imp h⟩
section
variable{P:Program}{N:Nat}{E:SE}{o:Oper}{x:Operand}{t:TypeId}{d:TypeDesc}{L:List LV}{R:List Res}{F M:World->Prop}
theorem run_ldM{a0:Addr}{v:Value}(ho:o.op = .load t x)(hx:evS E x=some (.v (.pointer (some a0))))(hu:P.underlying t=some d)(hr:d.isRow=false)(hc:∀G S w,View G S L R F M w->w.cell? a0=some v):∀(G:Nat->Nat) (S:Nat->Prop) (a:Act) (w:World),Fr N (denE G E) a->View G S L R F M w->(execOp a.eval o).run P w = .ok (.value ((SV.v v).den G)) w:=λG S a w ha hw=>by
 have h1:=ha.eval (evS_ok (G:=G) hx);have h2:=run_load_cell (P:=P) (t:=t) hu hr (hc G S w hw)
 unfold execOp
 simp only [ho,h1,SV.den,SQ.den,SC.den,h2,aG,aH,aD]
theorem run_ldR{g off:Nat}{q:SQ}{cs:Array Value}(ho:o.op = .load t x)(hx:evS E x=some (.v (.pointer (some ⟨g,off,none⟩))))(hu:P.underlying t=some d)(hr:d.isRow=true)(hi:(P.info? t).map (·.size)=some cs.size)(hq:q.den = .agg cs)(hc:∀G S w,View G S L R F M w->w.rangeAt g off cs.toList):∀(G:Nat->Nat) (S:Nat->Prop) (a:Act) (w:World),Fr N (denE G E) a->View G S L R F M w->(execOp a.eval o).run P w = .ok (.value ((SV.q q).den G)) w:=λG S a w ha hw=>by
 have h1:=ha.eval (evS_ok (G:=G) hx);have h2:=run_load_row (P:=P) (t:=t) hu hr hi (hc G S w hw);rw [show(SV.q q).den G = .agg cs from hq]
 unfold execOp
 simp only [ho,h1,SV.den,SQ.den,SC.den,h2,aG,aH,aD]
end
def nextH(ops:Array Oper)(N:Nat)(L:List LV)(Fa:Told)(l:List (Nat×Oper))(E:SE):Option (List (Nat×Oper)×SE×Nat×Nat×FuncId×List SV):=match autoH TY ops N L Fa l E with
  | ((i,o)::l',E')=>match callB N E' o,farP i Fa with
    | some (k,f,vs),true=>some (l',E',i,k,f,vs)
    | _,_=>none
  | _=>none
theorem h_X{α:Type}{post:Post α}{F F' M:World->Prop}[Pst F'][hP:∀x,Pst (post.p x)]{b:Base}{G:Nat->Nat}{S:Nat->Prop}{L:List LV}{R:List Res}{w0:World}{ops:Array Oper}{Q:Exit->Act->World->Prop}{N:Nat}{T':List Oper}{Fa:Told}{l l':List (Nat×Oper)}{E E':SE}{i k:Nat}{f:FuncId}{qs:List SQ}(hst:StW b G S L R F M w0)(c:Ct F' f qs post)(h:nextH ops N L Fa l E=some (l',E',i,k,f,qs.map SV.q))
 (hF:∀w o,View G S L R F M w->Uses o Fa w->F' w)
 (hn:∀x,hS Tryz.prog ops Q N T' G w0 l' ((k,(post.ret x).sv)::E') ((i,λw=>∃y,(post.ret x).den=(post.ret y).den/\post.p y w)::Fa)):hS Tryz.prog ops Q N T' G w0 l E Fa:=by
 unfold nextH at h
 split at h
 ·rename_i i2 o l2 E2 h2
  split at h
  ·rename_i k2 f2 v2 h3 hf
   simp only [aW,cY] at h;obtain⟨rfl,rfl,rfl,rfl,rfl,rfl⟩:=h;obtain⟨hg,hd,hk,xs,ats,ho,hx⟩:=callB_ok h3;exact h_auto zY hst h2 (h_callE hst (qs.map SQ.den) hf hg hd hk c.own ho hx (λ_=>den_q qs G) c.spec (λw hw hu=>hF w _ hw hu) λx _=>hn x)
  ·cases h
 ·cases h
instance{α:Type}{f:α->RV}{x:α}:Pst (({ ret:=f }:Post α).p x):=⟨λ_ _ _ _=>trivial⟩
section
variable{α:Type}{fe:α->SQ}{b:Base}{ops:Array Oper}{Q:Exit->Act->World->Prop}{N:Nat}{E:SE}{L:List LV}{R:List Res}{F M:World->Prop}{rest:List Oper}{o:Oper}
theorem l_stF{t:TypeId}{x z:Operand}{j n k i:Nat}{l:List α}{ps:List Pt}(y:α)(ho:(o.guard,o.dst,o.op)=(none,none,.store t x z))(hx:evS E x=some (.a j (k*i)))(hz:evS E z=some (.q (fe y)))(hl:lookL L j=some (.agg n (flatF fe l).toArray::ps))(ht:(findT TY t).map (λr=>sizeP r.zero)=some k)(hok:OkF k fe l)(hy:OkP (fe y).parts1/\(fe y).cl.length=k)(hi:i<l.length)
 (hn:lS Tryz.prog b ops Q N rest ⟨E,putL L j (.agg n (flatF fe (l.set i y)).toArray::ps),R,F,M⟩):lS Tryz.prog b ops Q N (o::rest) ⟨E,L,R,F,M⟩:=λa w ⟨G,S,f1,f2,f3⟩=>by
 simp only [cY] at ho;obtain⟨hg,hd,ho⟩:=ho;obtain⟨u,hu,rfl,hps⟩:=lookL_mem hl;have e1:=f1.eval (evS_ok hx);have e2:=f1.eval (evS_ok hz);obtain⟨x0,hx0⟩:∃x0,l[i]?=some x0:=⟨_,List.getElem?_eq_getElem hi⟩;obtain⟨A,Z,h1,h2,h3⟩:=flatF_split hok hx0;have hOkP:=(f3.var u hu).2.1;rw [hps] at hOkP;have hc0:(fe x0).cl.length=k:=(hok x0 (List.mem_of_getElem? hx0)).2
 have hlen:(flatF fe (l.set i y)).length=(flatF fe l).length:=by rw [h1,h3];simp [hy.2,hc0]
 have hcs:(fe y).den.cells.size=k:=by have:=hy.2;simpa [SQ.cl] using this
 have hcat:(catP (.agg n (flatF fe l).toArray::ps)).toList=A++((fe x0).cl++(Z++(catP ps).toList)):=by rw [catP_cons,dI,Pt.cells,h1];simp
 have hcat2:(catP (.agg n (flatF fe (l.set i y)).toArray::ps)).toList=A++((fe y).cl++(Z++(catP ps).toList)):=by rw [catP_cons,dI,Pt.cells,h3];simp
 cases hr:findT TY t with
 | none=>rw [hr] at ht;cases ht
 | some r =>
  rw [hr] at ht;obtain⟨g1,g2⟩:=findT_ok zY hr;obtain⟨it,d,g3,_,g5,_⟩:=g1.info
  have ht:sizeP r.zero=k:=by injection ht
  have hblk:=f3.at u hu;rw [hps] at hblk;have hst:=run_store_part (P:=Tryz.prog) (t:=t) (v:=(fe y).den) (off:=k*i) hblk (by rw [<-g2,g3,hcs,bI,g5,ht]) (by rw [hcs,<-Array.length_toList,hcat,aB,aB,hc0,h2];omega) (SQ.cl_one hy.1)
  have e3:((catP (.agg n (flatF fe l).toArray::ps)).toList.take (k*i)++(fe y).den.cells.toList++(catP (.agg n (flatF fe l).toArray::ps)).toList.drop (k*i+(fe y).den.cells.size)).toArray=catP (.agg n (flatF fe (l.set i y)).toArray::ps):=by
   apply Array.ext'
   rw [hcat2,hcat,hcs,<-h2]
   have e4:A++((fe x0).cl++(Z++(catP ps).toList))=(A++(fe x0).cl)++(Z++(catP ps).toList):=by rw [a6]
   have e5:(A++((fe x0).cl++(Z++(catP ps).toList))).drop (A.length+k)=Z++(catP ps).toList:=by
    rw [e4];exact List.drop_left' (by rw [aB,hc0])
   rw [List.take_left,e5,a6]
   rfl
  rw [e3] at hst
  refine wpl_skip (w':=w.setRow (G u.j) (catP (.agg n (flatF fe (l.set i y)).toArray::ps))) (oneS hg) (by
   unfold execOp
   simp only [ho,e1,e2,SV.den,hst,aG,aH,aD]) ?_
  rw [hd];refine hn _ _ ⟨G,S,f1,f2,f3.set (lookL_name hl) λq hq=>?_⟩
  rcases aL.1 hq with rfl|hq
  ·have h6:=hOkP (.agg n (flatF fe l).toArray) List.mem_cons_self
   refine⟨?_,λv hv=>flatF_one (hok.set hy) v hv⟩;have h7:(flatF fe l).toArray.size=n:=h6.1;rw [List.size_toArray] at h7 ⊢;rw [hlen,h7]
  ·exact hOkP q (List.mem_cons_of_mem _ hq)
end
theorem no_ok:∀u∈([]:List SQ),u.Ok:=λ_ h=>by cases h
end Go.Proofs.YtlhlkofpjhpaoaaGreatDoor
namespace Nums
def cB(p:Nat):Prop:=1<p/\∀m,m∣p->m=1\/m=p
theorem cB.pos{p:Nat}(h:cB p):0<p:=by have:=h.1;omega
theorem cB.coprime{p a:Nat}(h:cB p)(ha:¬p∣a):Nat.Coprime p a:=by
 have hd:kB p a∣p:=Nat.gcd_dvd_left p a
 rcases h.2 _ hd with h1|h1
 ·exact h1
 ·exact absurd (h1▸Nat.gcd_dvd_right p a) ha
theorem cB.dvd_mul{p a b:Nat}(h:cB p)(hd:p∣a*b):p∣a\/p∣b:=by
 by_cases ha:p∣a
 ·exact .inl ha
 ·exact .inr ((h.coprime ha).dvd_of_dvd_mul_left hd)
theorem kN:∀(n:Nat),1<n->∃r,cB r/\r∣n:=by
 intro n
 induction n using Nat.strongRecOn with
 | ind n ih =>
  intro hn
  by_cases hp:∃m,m∣n/\m≠1/\m≠n
  ·obtain⟨m,hm,h1,h2⟩:=hp
   have hle:=iA (by omega) hm;have hpos:=Nat.pos_of_dvd_of_pos hm (by omega);obtain⟨r,hr,hrm⟩:=ih m (by omega) (by omega);exact⟨r,hr,lO hrm hm⟩
  ·refine⟨n,⟨hn,λm hm=>?_⟩,Nat.dvd_refl n⟩
   by_cases h1:m=1
   ·exact .inl h1
   ·by_cases h2:m=n
    ·exact .inr h2
    ·exact absurd ⟨m,hm,h1,h2⟩ hp
theorem nW{n:Nat}(hn:1<n)(hp:¬cB n):∃r,cB r/\r∣n/\r*r<=n:=by
 have:∃m,m∣n/\m≠1/\m≠n:=by
  by_cases h:∃m,m∣n/\m≠1/\m≠n
  ·exact h
  ·refine absurd ⟨hn,λm hm=>?_⟩ hp
   by_cases h1:m=1
   ·exact .inl h1
   ·by_cases h2:m=n
    ·exact .inr h2
    ·exact absurd ⟨m,hm,h1,h2⟩ h
 obtain⟨m,⟨k,hk⟩,h1,h2⟩:=this
 have hm0:0<m:=by
  rcases oO m with h|h
  ·subst h;simp at hk;omega
  ·exact h
 have hk0:0<k:=by
  rcases oO k with h|h
  ·subst h;simp at hk;omega
  ·exact h
 have hk1:k≠1:=λh=>by subst h;simp at hk;omega
 rcases Nat.le_total m k with hle|hle
 ·obtain⟨r,hr,hrm⟩:=kN m (by omega)
  have hrle:=iA hm0 hrm;exact⟨r,hr,lO hrm ⟨k,hk⟩,by rw [hk];exact iW hrle (b8 hrle hle)⟩
 ·obtain⟨r,hr,hrk⟩:=kN k (by omega)
  have hrle:=iA hk0 hrk;exact⟨r,hr,lO hrk ⟨m,by rw [hk,eN]⟩,by rw [hk];exact iW (b8 hrle hle) hrle⟩
def prod(l:List Nat):Nat:=l.foldr (· * ·) 1
theorem prod_cons(a:Nat)(l:List Nat):prod (a::l)=a*prod l:=rfl
theorem tA{l1 l2:List Nat}(h:l1.Perm l2):prod l1=prod l2:=by
 induction h with
 | nil=>rfl
 | cons x _ ih=>rw [prod_cons,prod_cons,ih]
 | swap x y l=>rw [prod_cons,prod_cons,prod_cons,prod_cons,<-fQ,<-fQ,eN x y]
 | trans _ _ ih1 ih2=>rw [ih1,ih2]
theorem sO:∀{l1 l2:List Nat},l1.Nodup->(∀x∈l1,x∈l2)->l2.length<=l1.length->l1.Perm l2
 | [],l2,_,_,hl=>by
  have:l2=[]:=bV (by simpa using hl);subst this;exact List.Perm.refl _
 | x::l1,l2,hn,hs,hl=>by
  have hx:x∈l2:=hs x (by simp);have hp:=List.perm_cons_erase hx;obtain⟨hx1,hn1⟩:=oB.1 hn
  have h1:l1.Perm (l2.erase x):=sO hn1 (λy hy=>(List.mem_erase_of_ne (λ(e:y=x)=>hx1 (e▸hy))).2 (hs y (by simp [hy]))) (by
   rw [List.length_erase_of_mem hx]
   simp at hl
   omega)
  exact(List.Perm.cons x h1).trans hp.symm
theorem mX(a r:Nat):∀(l:List Nat),prod (l.map λi=>a*i%r)%r=a^l.length*prod l%r
 | []=>by simp [prod]
 | i::l=>by
  rw [bX,prod_cons,prod_cons,List.length_cons,jD,mX a r l,Nat.mod_mod,<-jD,cN]
  congr 1
  rw [fQ,fQ];rw [Nat.mul_left_comm i,<-fQ a (a^l.length),eN a (a^l.length),fQ]
theorem nG{r:Nat}(hr:cB r):∀(l:List Nat),(∀x∈l,¬r∣x)->¬r∣prod l
 | [],_,h=>by
  have:=iA (by simp [prod]) h
  simp [prod] at this
  have:=hr.1
  omega
 | x::l,hl,h=>by
  rw [prod_cons] at h
  rcases hr.dvd_mul h with h1|h1
  ·exact hl x (by simp) h1
  ·exact nG hr l (λy hy=>hl y (by simp [hy])) h1
theorem oU{r a b c:Nat}(hr:cB r)(hc:¬r∣c)(h:a*c%r=b*c%r):a%r=b%r:=by
 have key:∀{x y:Nat},y<=x->x*c%r=y*c%r->x%r=y%r:=λ{x y} hle h=>by
  have h1:r∣x*c-y*c:=iP (qO h);rw [<-Nat.sub_mul] at h1
  rcases hr.dvd_mul h1 with⟨t,ht⟩|h2
  ·have:x=y+r*t:=by omega
   rw [this,Nat.add_mul_mod_self_left]
  ·exact absurd h2 hc
 rcases Nat.le_total b a with hle|hle
 ·exact key hle h
 ·exact(key hle h.symm).symm
theorem pV{f:Nat->Nat}:∀{l:List Nat},l.Nodup->(∀x∈l,∀y∈l,f x=f y->x=y)->(l.map f).Nodup
 | [],_,_=>by simp
 | a::l,hn,hi=>by
  obtain⟨h1,h2⟩:=oB.1 hn;rw [bX,oB];refine⟨λh=>?_,pV h2 (λx hx y hy=>hi x (by simp [hx]) y (by simp [hy]))⟩;obtain⟨b,hb,e⟩:=bP.1 h;have:=hi b (by simp [hb]) a (by simp) e;subst this;exact h1 hb
theorem rX{r a:Nat}(hr:cB r)(ha:¬r∣a):a^(r-1)%r=1:=by
 have hr1:=hr.1
 have hnd:∀i∈lI 1 (r-1),¬r∣i:=λi hi hd=>by
  have hi':=iF.1 hi;have:=iA (by omega) hd
  omega
 have hperm:((lI 1 (r-1)).map λi=>a*i%r).Perm (lI 1 (r-1)):=by
  refine sO ?_ ?_ (by simp)
  ·refine pV List.nodup_range' λx hx y hy h=>?_
   have hx':=iF.1 hx;have hy':=iF.1 hy;rw [eN a x,eN a y] at h;have:=oU hr ha h
   rwa [aY (by omega),aY (by omega)] at this
  ·intro x hx
   obtain⟨i,hi,rfl⟩:=bP.1 hx;have hlt:a*i%r<r:=cO _ hr.pos
   have hne:a*i%r≠0:=λh0=>by
    rcases hr.dvd_mul (iP h0) with h1|h1
    ·exact ha h1
    ·exact hnd i hi h1
   exact iF.2 ⟨by omega,by omega⟩
 have h1:=mX a r (lI 1 (r-1));rw [tA hperm,List.length_range'] at h1
 have h2:1*prod (lI 1 (r-1))%r=a^(r-1)*prod (lI 1 (r-1))%r:=by rw [g7];exact h1
 have h3:=oU hr (nG hr _ hnd) h2;rw [<-h3,aY hr1]
def pm(n a:Nat):Nat->Nat->Nat
  | 0,_=>1%n
  | k+1,e=>if e%2=1 then pm n a k (e/2)*pm n a k (e/2)%n*a%n else pm n a k (e/2)*pm n a k (e/2)%n
theorem uL(n a:Nat):∀(k e:Nat),e<2^k->pm n a k e=a^e%n
 | 0,e,h=>by
  have:e=0:=by simpa using h
  subst this
  simp [pm]
 | k+1,e,h=>by
  have h1:e/2<2^k:=by rw [cN] at h;omega
  have ih:=uL n a k (e/2) h1
  unfold pm
  rw [ih]
  have e2:a^(e/2)%n*(a^(e/2)%n)%n=a^(2*(e/2))%n:=by
   rw [<-jD,<-j9]
   congr 2
   omega
  rw [e2]
  split
  ·rw [Nat.mod_mul_mod,<-cN]
   congr 2
   omega
  ·congr 2
   omega
theorem vP{r a:Nat}(hr:1<r):∀(m n:Nat),a^m%r=1->a^n%r=1->a^kB m n%r=1:=by
 intro m n
 induction m,n using Nat.gcd.induction with
 | H0 n=>intro _ h;simpa using h
 | H1 m n hm ih =>
  intro h1 h2
  rw [Nat.gcd_rec];refine ih ?_ h1
  have e:a^n=(a^m)^(n/m)*a^(n%m):=by
   rw [<-mL,<-j9,Nat.div_add_mod]
  have h3:(a^m)^(n/m)%r=1:=by
   rw [Nat.pow_mod,h1,Nat.one_pow,aY hr]
  rw [e,jD,h3,g7,Nat.mod_mod] at h2;exact h2
theorem rD{n q a m r:Nat}(hq:cB q)(hn:n-1=q*m)(hn1:1<n)(h1:a^(n-1)%n=1)(g1:kB (a^m%n+n-1) n=1)(hr:cB r)(hrn:r∣n):q∣r-1:=by
 have hr1:=hr.1;have hmod:∀x,x%n%r=x%r:=λx=>Nat.mod_mod_of_dvd x hrn
 have h1r:a^(n-1)%r=1:=by rw [<-hmod,h1,aY hr1]
 have hra:¬r∣a:=λhd=>by
  have h0:a^(n-1)%r=0:=by
   refine tP (lO hd ?_);exact⟨a^(n-2),by rw [<-Nat.pow_succ'];congr 1;omega⟩
  omega
 by_cases hqr:q∣r-1
 ·exact hqr
 ·have hf:=rX hr hra
  have hg:=vP hr1 (n-1) (r-1) h1r hf
  have hcop:Nat.Coprime (kB (n-1) (r-1)) q:=by
   have:=hq.coprime (a:=kB (n-1) (r-1)) (λhd=>hqr (lO hd (Nat.gcd_dvd_right _ _)));exact this.symm
  have hdm:kB (n-1) (r-1)∣m:=by
   have:kB (n-1) (r-1)∣q*m:=hn▸Nat.gcd_dvd_left (n-1) (r-1);exact hcop.dvd_of_dvd_mul_left this
  obtain⟨t,ht⟩:=hdm
  have hm:a^m%r=1:=by
   rw [ht,mL,Nat.pow_mod,hg,Nat.one_pow,aY hr1]
  exfalso
  have hlt:a^m%n<n:=cO _ (by omega)
  have hd:r∣a^m%n+n-1:=by
   have e1:a^m%n%r=1:=by rw [hmod];exact hm
   have e2:1<=a^m%n:=by
    rcases oO (a^m%n) with h0|h0
    ·rw [h0] at e1;simp at e1
    ·exact h0
   have e3:r∣a^m%n-1:=iP (by
    have:=qO (m:=a^m%n) (n:=1) (k:=r) (by rw [e1,aY hr1])
    exact this)
   have e4:a^m%n+n-1=(a^m%n-1)+n:=by omega
   rw [e4];exact Nat.dvd_add e3 hrn
  have:=Nat.dvd_gcd hd hrn;rw [g1] at this;have:=iA (by omega) this
  omega
theorem rC{n q1 q2 m1 m2 a:Nat}(hq1:cB q1)(hq2:cB q2)(hne:q1≠q2)(hn1:1<n)(hm1:n-1=q1*m1)(hm2:n-1=q2*m2)(hsz:n<(q1*q2+1)*(q1*q2+1))
 (h1:a^(n-1)%n=1)(g1:kB (a^m1%n+n-1) n=1)(g2:kB (a^m2%n+n-1) n=1):cB n:=by
 by_cases hp:cB n
 ·exact hp
 ·exfalso
  obtain⟨r,hr,hrn,hrr⟩:=nW hn1 hp;have d1:=rD hq1 hm1 hn1 h1 g1 hr hrn;have d2:=rD hq2 hm2 hn1 h1 g2 hr hrn
  have hcop:Nat.Coprime q1 q2:=hq1.coprime (λhd=>by
   rcases hq2.2 _ hd with h|h
   ·have:=hq1.1;omega
   ·exact hne h)
  have hd:q1*q2∣r-1:=hcop.mul_dvd_of_dvd_of_dvd d1 d2;have hr1:=hr.1;have hle:=iA (by omega) hd
  have h2:q1*q2+1<=r:=by omega
  have:=iW h2 h2
  omega
def wI(n q1 q2 a k:Nat):Bool :=
  decide (1<n)&&decide (n-1=q1*((n-1)/q1))&&decide (n-1=q2*((n-1)/q2))&&decide (n<(q1*q2+1)*(q1*q2+1))&&decide (q1≠q2)&&decide (n<2^k) &&
  (pm n a k (n-1)==1)&&(kB (pm n a k ((n-1)/q1)+n-1) n==1)&&(kB (pm n a k ((n-1)/q2)+n-1) n==1)
theorem gK{n q1 q2 a k:Nat}(hq1:cB q1)(hq2:cB q2)(h:wI n q1 q2 a k=true):cB n:=by
 simp only [wI,aN,decide_eq_true_eq,beq_iff_eq] at h;obtain⟨⟨⟨⟨⟨⟨⟨⟨h1,h2⟩,h3⟩,h4⟩,h5⟩,h6⟩,h7⟩,h8⟩,h9⟩:=h;have hd1:(n-1)/q1<=n-1:=dU _ _;have hd2:(n-1)/q2<=n-1:=dU _ _;rw [uL n a k _ (by omega)] at h7 h8 h9;exact rC hq1 hq2 h5 h1 h2 h3 h4 h7 h8 h9
def sG(n:Nat):Nat->Bool
  | 0=>true
  | k+1=>sG n k&&(decide (k<2)||decide (n%k≠0))
theorem pR{n:Nat}:∀{k m:Nat},sG n k=true->2<=m->m<k->¬m∣n
 | k+1,m,h,h2,hm,hd=>by
  simp only [sG,aN,Bool.or_eq_true,decide_eq_true_eq] at h
  by_cases e:m=k
  ·subst e
   rcases h.2 with h3|h3
   ·omega
   ·exact h3 (tP hd)
  ·exact pR h.1 h2 (by omega) hd
theorem dG{n k:Nat}(hn:1<n)(hk:n<k*k)(h:sG n k=true):cB n:=by
 by_cases hp:cB n
 ·exact hp
 ·exfalso
  obtain⟨r,hr,hrn,hrr⟩:=nW hn hp;have hr1:=hr.1
  have:r<k:=by
   rcases Nat.lt_or_ge r k with h1|h1
   ·exact h1
   ·have:=iW h1 h1;omega
  exact pR h (by omega) this hrn
theorem tC:cB 127:=dG (k:=12) (by decide) (by decide) (by decide +kernel)
theorem pH:cB 8574133:=dG (k:=2929) (by decide) (by decide +kernel) (by decide +kernel)
theorem rA:cB 75707:=dG (k:=276) (by decide) (by decide +kernel) (by decide +kernel)
theorem rB:cB 65147:=dG (k:=256) (by decide) (by decide +kernel) (by decide +kernel)
theorem pI:cB 1923133:=dG (k:=1387) (by decide) (by decide +kernel) (by decide +kernel)
theorem vN:cB 1919519569386763:=gK (q1:=8574133) (q2:=127) (a:=2) (k:=51) pH tC (by decide +kernel)
theorem vM:cB 75445702479781427272750846543864801:=gK (q1:=1919519569386763) (q2:=75707) (a:=7) (k:=116) vN rA (by decide +kernel)
theorem vL:cB 74058212732561358302231226437062788676166966415465897661863160754340907:=gK (q1:=75445702479781427272750846543864801) (q2:=1923133) (a:=2) (k:=236) vM pI (by decide +kernel)
def p:Nat:=57896044618658097711785492504343953926634992332820282019728792003956564819949
theorem c7:cB p:=gK (q1:=74058212732561358302231226437062788676166966415465897661863160754340907) (q2:=65147) (a:=2) (k:=255) vL rB (by decide +kernel)
end Nums
namespace Nums
section
variable{n:Nat}[NeZero n]
omit [NeZero n] in
theorem val_mul(a b:Fin n):(a*b).val=a.val*b.val%n:=rfl
theorem val_zero:((0:Fin n)).val=0:=by simp
theorem val_one(hn:cB n):((1:Fin n)).val=1:=by
 show 1%n=1
 exact aY hn.1
theorem lT(hn:cB n):(0:Fin n)≠1:=by
 intro h
 have:=congrArg Fin.val h;rw [val_one hn,val_zero] at this
 omega
theorem zero_or(hn:cB n){a b:Fin n}(h:a*b=0):a=0\/b=0:=by
 have h1:a.val*b.val%n=0:=by rw [<-val_mul,h];exact val_zero
 have z:∀c:Fin n,n∣c.val->c=0:=λc hc=>by
  apply iE
  rw [val_zero];exact sT hc c.isLt
 rcases hn.dvd_mul (iP h1) with h2|h2
 ·exact .inl (z a h2)
 ·exact .inr (z b h2)
theorem cP(hn:cB n){a b:Fin n}(ha:a≠0)(hb:b≠0):a*b≠0:=λh=>by
 rcases zero_or hn h with h|h
 ·exact ha h
 ·exact hb h
def eK(a:Fin n):Nat->Fin n
  | 0=>1
  | k+1=>eK a k*a
theorem jB(a:Fin n):eK a 0=1:=rfl
theorem dY(a:Fin n)(k:Nat):eK a (k+1)=eK a k*a:=rfl
theorem lV(a:Fin n)(j k:Nat):eK a (j+k)=eK a j*eK a k:=by
 induction k with
 | zero=>rw [eX,jB];grind
 | succ k ih=>rw [Nat.add_succ,dY,dY,ih];grind
theorem nC(a:Fin n):eK a 1=a:=by rw [dY,jB];grind
theorem xH(k:Nat):eK (1:Fin n) k=1:=by
 induction k with
 | zero=>rfl
 | succ k ih=>rw [dY,ih];grind
theorem uY(a:Fin n)(j k:Nat):eK a (j*k)=eK (eK a j) k:=by
 induction k with
 | zero=>rfl
 | succ k ih=>rw [Nat.mul_succ,lV,dY,ih]
theorem uS(a b:Fin n)(k:Nat):eK (a*b) k=eK a k*eK b k:=by
 induction k with
 | zero=>rw [jB,jB,jB];grind
 | succ k ih=>rw [dY,dY,dY,ih];grind
theorem uX(hn:cB n)(a:Fin n)(k:Nat):(eK a k).val=a.val^k%n:=by
 induction k with
 | zero=>rw [jB,val_one hn,Nat.pow_zero,aY hn.1]
 | succ k ih=>rw [dY,val_mul,ih,cN,Nat.mod_mul_mod]
theorem n7(hn:cB n){a:Fin n}(ha:a≠0):eK a (n-1)=1:=by
 apply iE
 rw [uX hn,val_one hn]
 apply rX hn
 intro hd
 apply ha
 apply iE
 rw [val_zero];exact sT hd a.isLt
def fY(a:Fin n):Fin n:=eK a (n-2)
theorem gY(hn:cB n){a:Fin n}(ha:a≠0):a*fY a=1:=by
 have h:=n7 hn ha
 have h2:n-1=(n-2)+1:=by have:=hn.1;omega
 rw [h2,dY] at h
 unfold fY
 rw [<-h];grind
theorem cancel(hn:cB n){a b c:Fin n}(hc:c≠0)(h:a*c=b*c):a=b:=by
 have h1:=gY hn hc
 have:a*c*fY c=b*c*fY c:=by rw [h]
 grind
theorem qL(hn:cB n){a b:Fin n}(h:a*b=1):fY a=b:=by
 have ha:a≠0:=by
  rintro rfl
  exact lT hn (by rw [<-h];grind)
 apply cancel hn ha
 have:=gY hn ha
 grind
theorem sK(hn:cB n){a b:Fin n}(h:a*a=b*b):a=b\/a = -b:=by
 have:(a-b)*(a+b)=0:=by grind
 rcases zero_or hn this with h|h
 ·left;grind
 ·right;grind
end
end Nums
namespace Nums
theorem Ed.closed{n:Nat}[NeZero n](x1 y1 x2 y2 d:Fin n)(h1:y1*y1-x1*x1=1+d*x1*x1*y1*y1)(h2:y2*y2-x2*x2=1+d*x2*x2*y2*y2) :
  (y1*y2+x1*x2)*(y1*y2+x1*x2)*(1+d*x1*x2*y1*y2)*(1+d*x1*x2*y1*y2)-(x1*y2+y1*x2)*(x1*y2+y1*x2)*(1-d*x1*x2*y1*y2)*(1-d*x1*x2*y1*y2)
   = (1+d*x1*x2*y1*y2)*(1+d*x1*x2*y1*y2)*(1-d*x1*x2*y1*y2)*(1-d*x1*x2*y1*y2)+d*(y1*y2+x1*x2)*(y1*y2+x1*x2)*(x1*y2+y1*x2)*(x1*y2+y1*x2):=by grind
theorem Ed.wF{n:Nat}[NeZero n](x1 y1 x2 y2 x3 y3 d:Fin n)(h1:y1*y1-x1*x1=1+d*x1*x1*y1*y1)(h2:y2*y2-x2*x2=1+d*x2*x2*y2*y2)(h3:y3*y3-x3*x3=1+d*x3*x3*y3*y3) :
 ((x1*y2+y1*x2)*(1-d*x1*x2*y1*y2)*y3+(y1*y2+x1*x2)*(1+d*x1*x2*y1*y2)*x3)*((1+d*x2*x3*y2*y3)*(1-d*x2*x3*y2*y3)+d*x1*y1*(x2*y3+y2*x3)*(y2*y3+x2*x3))
 = (x1*(y2*y3+x2*x3)*(1+d*x2*x3*y2*y3)+y1*(x2*y3+y2*x3)*(1-d*x2*x3*y2*y3))*((1+d*x1*x2*y1*y2)*(1-d*x1*x2*y1*y2)+d*(x1*y2+y1*x2)*(y1*y2+x1*x2)*x3*y3):=by grind
theorem Ed.wE{n:Nat}[NeZero n](x1 y1 x2 y2 x3 y3 d:Fin n)(h1:y1*y1-x1*x1=1+d*x1*x1*y1*y1)(h2:y2*y2-x2*x2=1+d*x2*x2*y2*y2)(h3:y3*y3-x3*x3=1+d*x3*x3*y3*y3) :
 ((y1*y2+x1*x2)*(1+d*x1*x2*y1*y2)*y3+(x1*y2+y1*x2)*(1-d*x1*x2*y1*y2)*x3)*((1+d*x2*x3*y2*y3)*(1-d*x2*x3*y2*y3)-d*x1*y1*(x2*y3+y2*x3)*(y2*y3+x2*x3))
 = (y1*(y2*y3+x2*x3)*(1+d*x2*x3*y2*y3)+x1*(x2*y3+y2*x3)*(1-d*x2*x3*y2*y3))*((1+d*x1*x2*y1*y2)*(1-d*x1*x2*y1*y2)-d*(x1*y2+y1*x2)*(y1*y2+x1*x2)*x3*y3):=by grind
theorem Ed.key{n:Nat}[NeZero n]{X1 Y1 X2 Y2 D e s:Fin n}(h1:X1*X1+Y1*Y1=1+D*X1*X1*Y1*Y1)(h2:X2*X2+Y2*Y2=1+D*X2*X2*Y2*Y2)(h:D*X1*X2*Y1*Y2=e)(he:e*e=1)(hs:s*s=1) :
  (X1+s*e*Y1)*(X1+s*e*Y1)=D*((X1*Y1*(X2+s*Y2))*(X1*Y1*(X2+s*Y2))):=by
 have l:(X1+s*e*Y1)*(X1+s*e*Y1)=X1*X1+(s*s)*(e*e)*(Y1*Y1)+2*s*e*X1*Y1:=by grind only
 have r:D*((X1*Y1*(X2+s*Y2))*(X1*Y1*(X2+s*Y2)))=D*X1*X1*Y1*Y1*(X2*X2+(s*s)*(Y2*Y2))+2*s*(D*X1*X2*Y1*Y2)*X1*Y1:=by grind only
 rw [l,r,hs,he,h]
 have e1:(1:Fin n)*1*(Y1*Y1)=Y1*Y1:=by grind only
 have e2:(1:Fin n)*(Y2*Y2)=Y2*Y2:=by grind only
 have e3:D*X1*X1*Y1*Y1*(1+D*X2*X2*Y2*Y2)=D*X1*X1*Y1*Y1+(D*X1*X2*Y1*Y2)*(D*X1*X2*Y1*Y2):=by grind only
 rw [e1,e2,h1,h2,e3,h,he]
 grind only
section
variable{n:Nat}[NeZero n]
structure Ed.Pt(n:Nat) where
  x:Fin n
  y:Fin n
structure Ed.Good(n:Nat)[NeZero n](d:Fin n):Prop where
  pr:cB n
  two:(2:Fin n)≠0
  i:∃i:Fin n,i*i = -1
  d:∀t:Fin n,t*t≠d
namespace Ed
variable{d:Fin n}
def On(d:Fin n)(P:Pt n):Prop:=P.y*P.y-P.x*P.x=1+d*P.x*P.x*P.y*P.y
theorem complete(g:Good n d){x1 y1 x2 y2 e:Fin n}(h1:y1*y1-x1*x1=1+d*x1*x1*y1*y1)(h2:y2*y2-x2*x2=1+d*x2*x2*y2*y2)(he:e*e=1) :
  d*x1*x2*y1*y2≠e:=by
 intro h
 obtain⟨i,hi⟩:=g.i
 have e0:e≠0:=by rintro rfl;exact lT g.pr (by grind only)
 have hx1:x1≠0:=by rintro rfl;exact e0 (by grind only)
 have hy1:y1≠0:=by rintro rfl;exact e0 (by grind only)
 have hx2:x2≠0:=by rintro rfl;exact e0 (by grind only)
 have hi0:i≠0:=by
  rintro rfl
  exact lT g.pr (by grind only)
 have g1:(i*x1)*(i*x1)+y1*y1=1+(-d)*(i*x1)*(i*x1)*y1*y1:=by
  have a:(i*x1)*(i*x1)+y1*y1=(i*i)*(x1*x1)+y1*y1:=by grind only
  have b:1+(-d)*(i*x1)*(i*x1)*y1*y1=1+(-d)*(i*i)*(x1*x1)*y1*y1:=by grind only
  rw [a,b,hi]
  grind only
 have g2:(i*x2)*(i*x2)+y2*y2=1+(-d)*(i*x2)*(i*x2)*y2*y2:=by
  have a:(i*x2)*(i*x2)+y2*y2=(i*i)*(x2*x2)+y2*y2:=by grind only
  have b:1+(-d)*(i*x2)*(i*x2)*y2*y2=1+(-d)*(i*i)*(x2*x2)*y2*y2:=by grind only
  rw [a,b,hi]
  grind only
 have g3:(-d)*(i*x1)*(i*x2)*y1*y2=e:=by
  have a:(-d)*(i*x1)*(i*x2)*y1*y2=(-d)*(i*i)*x1*x2*y1*y2:=by grind only
  rw [a,hi,<-h]
  grind only
 have key:∀s:Fin n,s*s=1->i*x2+s*y2=0:=by
  intro s hs
  by_cases hz:i*x2+s*y2=0
  ·exact hz
  exfalso
  have hw:i*x1*y1*(i*x2+s*y2)≠0:=cP g.pr (cP g.pr (cP g.pr hi0 hx1) hy1) hz;have hm:=gY g.pr hw;have hk:=Ed.key g1 g2 g3 he hs;generalize i*x1*y1*(i*x2+s*y2)=w at hm hk;generalize i*x1+s*e*y1=v at hk;refine g.d (i*(v*fY w)) ?_
  have a:i*(v*fY w)*(i*(v*fY w))=(i*i)*(v*v)*(fY w)*(fY w):=by grind only
  have b:(-1)*((-d)*(w*w))*fY w*fY w=d*(w*fY w)*(w*fY w):=by grind only
  rw [a,hi,hk,b,hm]
  grind only
 have k1:=key 1 (by grind only);have k2:=key (-1) (by grind only)
 have:(2:Fin n)*(i*x2)=0:=by grind only
 rcases zero_or g.pr this with h3|h3
 ·exact g.two h3
 ·exact cP g.pr hi0 hx2 h3
end Ed
end
end Nums
namespace Nums
namespace Ed
variable{n:Nat}[NeZero n]{d:Fin n}
def kk(d:Fin n)(P Q:Pt n):Fin n:=d*P.x*Q.x*P.y*Q.y
theorem jZ(g:Good n d){P Q:Pt n}(hP:On d P)(hQ:On d Q):1+kk d P Q≠0:=λh =>
 complete g hP hQ (e := -1) (by grind only) (by unfold kk at h;grind only)
theorem gZ(g:Good n d){P Q:Pt n}(hP:On d P)(hQ:On d Q):1-kk d P Q≠0:=λh =>
 complete g hP hQ (e:=1) (by grind only) (by unfold kk at h;grind only)
def add(d:Fin n)(P Q:Pt n):Pt n :=
  ⟨(P.x*Q.y+P.y*Q.x)*fY (1+kk d P Q),(P.y*Q.y+P.x*Q.x)*fY (1-kk d P Q)⟩
def zero:Pt n:=⟨0,1⟩
def neg(P:Pt n):Pt n:=⟨-P.x,P.y⟩
theorem j1:On d (zero:Pt n):=by
 show(1:Fin n)*1-0*0=1+d*0*0*1*1
 grind only
theorem k8{P:Pt n}(h:On d P):On d (neg P):=by
 unfold On neg at *
 show P.y*P.y - -P.x * -P.x=1+d * -P.x * -P.x*P.y*P.y
 grind only
theorem o5(g:Good n d){P Q:Pt n}(hP:On d P)(hQ:On d Q):(add d P Q).x*(1+kk d P Q)=P.x*Q.y+P.y*Q.x:=by
 have:=gY g.pr (jZ g hP hQ)
 show(P.x*Q.y+P.y*Q.x)*fY (1+kk d P Q)*(1+kk d P Q)=_
 generalize fY (1+kk d P Q)=u at *;generalize 1+kk d P Q=v at *
 have a:(P.x*Q.y+P.y*Q.x)*u*v=(P.x*Q.y+P.y*Q.x)*(v*u):=by grind only
 rw [a,this]
 grind only
theorem oZ(g:Good n d){P Q:Pt n}(hP:On d P)(hQ:On d Q):(add d P Q).y*(1-kk d P Q)=P.y*Q.y+P.x*Q.x:=by
 have:=gY g.pr (gZ g hP hQ)
 show(P.y*Q.y+P.x*Q.x)*fY (1-kk d P Q)*(1-kk d P Q)=_
 generalize fY (1-kk d P Q)=u at *;generalize 1-kk d P Q=v at *
 have a:(P.y*Q.y+P.x*Q.x)*u*v=(P.y*Q.y+P.x*Q.x)*(v*u):=by grind only
 rw [a,this]
 grind only
theorem jG(g:Good n d){P Q:Pt n}(hP:On d P)(hQ:On d Q):On d (add d P Q):=by
 have hx:=o5 g hP hQ;have hy:=oZ g hP hQ;have h1:=jZ g hP hQ;have h2:=gZ g hP hQ;have c:=closed P.x P.y Q.x Q.y d hP hQ;have k1:(1:Fin n)+d*P.x*Q.x*P.y*Q.y=1+kk d P Q:=rfl;have k2:(1:Fin n)-d*P.x*Q.x*P.y*Q.y=1-kk d P Q:=rfl;rw [k1,k2] at c
 show(add d P Q).y*(add d P Q).y-(add d P Q).x*(add d P Q).x=1+d*(add d P Q).x*(add d P Q).x*(add d P Q).y*(add d P Q).y
 rw [<-hx,<-hy] at c;generalize (add d P Q).x=x at *;generalize (add d P Q).y=y at *;generalize 1+kk d P Q=u at *;generalize 1-kk d P Q=v at *
 apply cancel g.pr (cP g.pr (cP g.pr h1 h1) (cP g.pr h2 h2))
 clear hP hQ hx hy
 grind only
theorem add_comm(P Q:Pt n):add d P Q=add d Q P:=by
 unfold add kk
 have a:d*P.x*Q.x*P.y*Q.y=d*Q.x*P.x*Q.y*P.y:=by grind only
 have b:P.x*Q.y+P.y*Q.x=Q.x*P.y+Q.y*P.x:=by grind only
 have c:P.y*Q.y+P.x*Q.x=Q.y*P.y+Q.x*P.x:=by grind only
 rw [a,b,c]
theorem zero_add(g:Good n d)(P:Pt n):add d zero P=P:=by
 unfold add kk zero
 have a:d*0*P.x*1*P.y=0:=by grind only
 have f1:fY (1+0:Fin n)=1:=qL g.pr (by grind only);have f2:fY (1-0:Fin n)=1:=qL g.pr (by grind only)
 show Pt.mk ((0*P.y+1*P.x)*fY (1+d*0*P.x*1*P.y)) ((1*P.y+0*P.x)*fY (1-d*0*P.x*1*P.y))=P
 rw [a,f1,f2]
 have b:(0*P.y+1*P.x)*1=P.x:=by grind only
 have c:(1*P.y+0*P.x)*1=P.y:=by grind only
 rw [b,c]
theorem add_zero(g:Good n d)(P:Pt n):add d P zero=P:=by rw [add_comm,zero_add g]
theorem add_neg(g:Good n d){P:Pt n}(hP:On d P):add d P (neg P)=zero:=by
 have hm:=gZ g hP (k8 hP);have:=gY g.pr hm
 unfold add zero
 have a:(P.x*(neg P).y+P.y*(neg P).x)=0:=by show P.x*P.y+P.y * -P.x=0;grind only
 have b:P.y*(neg P).y+P.x*(neg P).x=1-kk d P (neg P):=by
  show P.y*P.y+P.x * -P.x=1-d*P.x * -P.x*P.y*P.y
  unfold On at hP
  grind only
 rw [a,b,this]
 have c:0*fY (1+kk d P (neg P))=0:=by grind only
 rw [c]
theorem xD(sx sy rx ry px py tx ty a b e f d:Fin n):(sx*a*b*ry+sy*b*a*rx)*(e*f+d*px*py*(tx*e)*(ty*f))
   = (a*b*e*f)*((sx*ry+sy*rx)*(1+d*px*tx*py*ty)):=by grind only
theorem xC(sx sy rx ry px py tx ty a b e f d:Fin n):(px*(ty*f)*e+py*(tx*e)*f)*(a*b+d*(sx*a)*(sy*b)*rx*ry)
   = (a*b*e*f)*((px*ty+py*tx)*(1+d*sx*rx*sy*ry)):=by grind only
theorem xB(sx sy rx ry px py tx ty a b e f d:Fin n):(sy*b*a*ry+sx*a*b*rx)*(e*f-d*px*py*(tx*e)*(ty*f))
   = (a*b*e*f)*((sy*ry+sx*rx)*(1-d*px*tx*py*ty)):=by grind only
theorem xA(sx sy rx ry px py tx ty a b e f d:Fin n):(py*(ty*f)*e+px*(tx*e)*f)*(a*b-d*(sx*a)*(sy*b)*rx*ry)
   = (a*b*e*f)*((py*ty+px*tx)*(1-d*sx*rx*sy*ry)):=by grind only
theorem xF(u z w v:Fin n):u*(z*(w*v))=z*(u*w*v):=by grind only
theorem xE(t z w v:Fin n):t*(z*(w*v))=z*(t*v*w):=by grind only
theorem add_assoc(g:Good n d){P Q R:Pt n}(hP:On d P)(hQ:On d Q)(hR:On d R):add d (add d P Q) R=add d P (add d Q R):=by
 have hPQ:=jG g hP hQ;have hQR:=jG g hQ hR;have x1:=o5 g hP hQ;have y1:=oZ g hP hQ;have p1:=jZ g hP hQ;have m1:=gZ g hP hQ;have x2:=o5 g hQ hR;have y2:=oZ g hQ hR;have p2:=jZ g hQ hR;have m2:=gZ g hQ hR;have x3:=o5 g hPQ hR;have y3:=oZ g hPQ hR;have p3:=jZ g hPQ hR;have m3:=gZ g hPQ hR;have x4:=o5 g hP hQR;have y4:=oZ g hP hQR;have p4:=jZ g hP hQR;have m4:=gZ g hP hQR;have ax:=wF P.x P.y Q.x Q.y R.x R.y d hP hQ hR;have ay:=wE P.x P.y Q.x Q.y R.x R.y d hP hQ hR;clear hP hQ hR hPQ hQR;have c1:(1:Fin n)+d*P.x*Q.x*P.y*Q.y=1+kk d P Q:=rfl;have c2:(1:Fin n)-d*P.x*Q.x*P.y*Q.y=1-kk d P Q:=rfl;have c3:(1:Fin n)+d*Q.x*R.x*Q.y*R.y=1+kk d Q R:=rfl;have c4:(1:Fin n)-d*Q.x*R.x*Q.y*R.y=1-kk d Q R:=rfl;rw [c1,c2,c3,c4,<-x1,<-y1,<-x2,<-y2] at ax ay
 have ex:(add d (add d P Q) R).x=(add d P (add d Q R)).x:=by
  generalize add d (add d P Q) R=U at *;generalize add d P (add d Q R)=V at *
  unfold kk at x3 p3 x4 p4
  generalize add d P Q=S at *;generalize add d Q R=T at *;generalize 1+kk d P Q=a at *;generalize 1-kk d P Q=b at *;generalize 1+kk d Q R=e at *;generalize 1-kk d Q R=f at *
  -- ax: (S.x a b R.y + S.y b a R.x) (e f + d P.x P.y (T.x e)(T.y f)) = (P.x T.y f e + P.y T.x e f) (a b + d (S.x a)(S.y b) R.x R.y)
  rw [xD,xC,<-x3,<-x4] at ax;have hne:=cP g.pr (cP g.pr (cP g.pr p1 m1) p2) m2
  apply cancel g.pr (cP g.pr hne (cP g.pr p3 p4))
  clear x1 y1 x2 y2 x3 y3 x4 y4 ay c1 c2 c3 c4 hne p1 p2 m1 m2 m3 m4;generalize a*b*e*f=z at *;generalize 1+d*S.x*R.x*S.y*R.y=w at *;generalize 1+d*P.x*T.x*P.y*T.y=v at *;generalize U.x=u at *;generalize V.x=t at *;clear g p3 p4;rw [xF,xE,ax]
 have ey:(add d (add d P Q) R).y=(add d P (add d Q R)).y:=by
  generalize add d (add d P Q) R=U at *;generalize add d P (add d Q R)=V at *
  unfold kk at y3 m3 y4 m4
  generalize add d P Q=S at *;generalize add d Q R=T at *;generalize 1+kk d P Q=a at *;generalize 1-kk d P Q=b at *;generalize 1+kk d Q R=e at *;generalize 1-kk d Q R=f at *;rw [xB,xA,<-y3,<-y4] at ay;have hne:=cP g.pr (cP g.pr (cP g.pr p1 m1) p2) m2
  apply cancel g.pr (cP g.pr hne (cP g.pr m3 m4))
  clear x1 y1 x2 y2 x3 y3 x4 y4 ax c1 c2 c3 c4 hne p1 p2 m1 m2 p3 p4;generalize a*b*e*f=z at *;generalize 1-d*S.x*R.x*S.y*R.y=w at *;generalize 1-d*P.x*T.x*P.y*T.y=v at *;generalize U.y=u at *;generalize V.y=t at *;clear g m3 m4;rw [xF,xE,ay]
 have eta:∀A B:Pt n,A.x=B.x->A.y=B.y->A=B:=by
  rintro⟨_,_⟩ ⟨_,_⟩ h1 h2
  simp only at h1 h2;rw [h1,h2]
 exact eta _ _ ex ey
end Ed
end Nums
namespace Nums
namespace Ed
variable{n:Nat}[NeZero n]{d:Fin n}
def mul(d:Fin n):Nat->Pt n->Pt n
  | 0,_=>zero
  | k+1,P=>add d (mul d k P) P
theorem mZ(P:Pt n):mul d 0 P=zero:=rfl
theorem mul_succ(k:Nat)(P:Pt n):mul d (k+1) P=add d (mul d k P) P:=rfl
theorem fM(g:Good n d){P:Pt n}(hP:On d P)(k:Nat):On d (mul d k P):=by
 induction k with
 | zero=>exact j1
 | succ k ih=>exact jG g ih hP
theorem rE(g:Good n d)(P:Pt n):mul d 1 P=P:=by rw [mul_succ,mZ,zero_add g]
theorem xJ(g:Good n d)(P:Pt n):mul d 2 P=add d P P:=by rw [mul_succ,rE g]
theorem mul_add(g:Good n d){P:Pt n}(hP:On d P)(j k:Nat):mul d (j+k) P=add d (mul d j P) (mul d k P):=by
 induction k with
 | zero=>rw [eX,mZ,add_zero g]
 | succ k ih=>rw [<-Nat.add_assoc,mul_succ,mul_succ,ih,add_assoc g (fM g hP j) (fM g hP k) hP]
theorem mul_zero(g:Good n d)(k:Nat):mul d k (zero:Pt n)=zero:=by
 induction k with
 | zero=>rfl
 | succ k ih=>rw [mul_succ,ih,zero_add g]
theorem l8(g:Good n d){P:Pt n}(hP:On d P)(j k:Nat):mul d (j*k) P=mul d k (mul d j P):=by
 induction k with
 | zero=>rw [Nat.mul_zero,mZ,mZ]
 | succ k ih=>rw [Nat.mul_succ,mul_add g hP,ih,mul_succ]
theorem rJ(g:Good n d){A B C D:Pt n}(hA:On d A)(hB:On d B)(hC:On d C)(hD:On d D) :
  add d (add d A B) (add d C D)=add d (add d A C) (add d B D):=by
 rw [add_assoc g hA hB (jG g hC hD),add_assoc g hA hC (jG g hB hD),<-add_assoc g hB hC hD,<-add_assoc g hC hB hD,add_comm B C]
theorem wS(g:Good n d){P Q:Pt n}(hP:On d P)(hQ:On d Q)(h:add d P Q=zero):Q=neg P:=by
 have a:add d (neg P) (add d P Q)=Q:=by
  rw [<-add_assoc g (k8 hP) hP hQ,add_comm (neg P) P,add_neg g hP,zero_add g]
 rw [h,add_zero g] at a;exact a.symm
theorem neg_zero:neg (zero:Pt n)=zero:=by
 show Pt.mk (-0:Fin n) 1=Pt.mk 0 1
 have:(-0:Fin n)=0:=by grind only
 rw [this]
theorem neg_add(g:Good n d){P Q:Pt n}(hP:On d P)(hQ:On d Q):neg (add d P Q)=add d (neg P) (neg Q):=by
 symm
 apply wS g (jG g hP hQ) (jG g (k8 hP) (k8 hQ))
 rw [rJ g hP hQ (k8 hP) (k8 hQ),add_neg g hP,add_neg g hQ,zero_add g]
theorem mul_neg(g:Good n d){P:Pt n}(hP:On d P)(k:Nat):mul d k (neg P)=neg (mul d k P):=by
 induction k with
 | zero=>rw [mZ,mZ,neg_zero]
 | succ k ih=>rw [mul_succ,mul_succ,ih,neg_add g (fM g hP k) hP]
theorem mul_mod(g:Good n d){P:Pt n}(hP:On d P){L:Nat}(hL:mul d L P=zero)(k:Nat):mul d k P=mul d (k%L) P:=by
 have h:=mul_add g hP (L*(k/L)) (k%L);rw [l8 g hP,hL,mul_zero g,zero_add g,Nat.div_add_mod] at h;exact h
theorem pW(g:Good n d){P:Pt n}(hP:On d P)(a b:Nat):mul d a (mul d b P)=mul d (a*b) P:=by
 rw [eN,l8 g hP]
theorem vG(g:Good n d){P:Pt n}(hP:On d P){j k a b:Nat}(hj:mul d j P=zero)(hk:mul d k P=zero)(h:j*a=k*b+1):P=zero:=by
 have h1:mul d (j*a) P=zero:=by rw [l8 g hP,hj,mul_zero g]
 rw [h,mul_add g hP,l8 g hP,hk,mul_zero g,zero_add g,rE g] at h1;exact h1
structure Rep(X Y Z:Fin n)(P:Pt n):Prop where
  z:Z≠0
  x:X=P.x*Z
  y:Y=P.y*Z
theorem Rep.zero(hn:cB n):Rep (0:Fin n) 1 1 zero where
 z:=λh=>lT hn h.symm
 x:=by show(0:Fin n)=0*1;grind only
 y:=by show(1:Fin n)=1*1;grind only
theorem Rep.neg{X Y Z:Fin n}{P:Pt n}(r:Rep X Y Z P):Rep (-X) Y Z (neg P) where
 z:=r.z
 x:=by
  rw [r.x]
  show -(P.x*Z) = -P.x*Z
  grind only
 y:=r.y
theorem wU{X1 Y1 Z1 X2 Y2 Z2:Fin n}{P Q:Pt n}(r:Rep X1 Y1 Z1 P)(s:Rep X2 Y2 Z2 Q) :
  d*((X1*X2)*(Y1*Y2))=kk d P Q*((Z1*Z2)*(Z1*Z2)):=by
 rw [r.x,r.y,s.x,s.y]
 unfold kk
 grind only
theorem Rep.add(g:Good n d){X1 Y1 Z1 X2 Y2 Z2:Fin n}{P Q:Pt n}(hP:On d P)(hQ:On d Q)(r:Rep X1 Y1 Z1 P)(s:Rep X2 Y2 Z2 Q)
 {z m:Fin n}(hz:z=Z1*Z2)(hm:m=d*((X1*X2)*(Y1*Y2))) :
  Rep (((X1*Y2+Y1*X2)*z)*(z*z-m)) (((Y1*Y2+X1*X2)*z)*(z*z+m)) ((z*z+m)*(z*z-m)) (add d P Q):=by
 have hzn:z≠0:=hz▸cP g.pr r.z s.z
 have hm2:m=kk d P Q*(z*z):=by rw [hm,hz,wU r s]
 have p1:z*z+m=(1+kk d P Q)*(z*z):=by rw [hm2];grind only
 have p2:z*z-m=(1-kk d P Q)*(z*z):=by rw [hm2];grind only
 have nx:X1*Y2+Y1*X2=(P.x*Q.y+P.y*Q.x)*z:=by rw [r.x,r.y,s.x,s.y,hz];grind only
 have ny:Y1*Y2+X1*X2=(P.y*Q.y+P.x*Q.x)*z:=by rw [r.x,r.y,s.x,s.y,hz];grind only
 have hx:=o5 g hP hQ;have hy:=oZ g hP hQ;have n1:=jZ g hP hQ;have n2:=gZ g hP hQ
 constructor
 ·rw [p1,p2]
  exact cP g.pr (cP g.pr n1 (cP g.pr hzn hzn)) (cP g.pr n2 (cP g.pr hzn hzn))
 ·rw [p1,p2,nx,<-hx]
  grind only
 ·rw [p1,p2,ny,<-hy]
  grind only
theorem Rep.same(hn:cB n){X Y Z:Fin n}{P Q:Pt n}(r:Rep X Y Z P)(s:Rep X Y Z Q):P=Q:=by
 have hx:P.x=Q.x:=cancel hn r.z (r.x.symm.trans s.x);have hy:P.y=Q.y:=cancel hn r.z (r.y.symm.trans s.y)
 cases P
 cases Q
 simp only at hx hy;rw [hx,hy]
theorem Rep.aff(hn:cB n){X Y Z:Fin n}{P:Pt n}(r:Rep X Y Z P):X*fY Z=P.x/\Y*fY Z=P.y:=by
 have h:=gY hn r.z
 have a:∀u:Fin n,u*Z*fY Z=u*(Z*fY Z):=λu=>by grind only
 have b:∀u:Fin n,u*1=u:=λu=>by grind only
 rw [r.x,r.y,a,a,h,b,b];exact⟨rfl,rfl⟩
end Ed
end Nums
namespace Nums
instance:NeZero p:=⟨by decide⟩
abbrev F:=Fin p
def fof(k:Nat):F:=⟨k%p,cO _ (by decide)⟩
theorem j3(k:Nat):(fof k).val=k%p:=rfl
theorem iY(a b:Nat):fof (a+b)=fof a+fof b:=by
 apply iE
 show(a+b)%p=(a%p+b%p)%p
 rw [<-Nat.add_mod]
theorem dW(a b:Nat):fof (a*b)=fof a*fof b:=by
 apply iE
 show(a*b)%p=(a%p*(b%p))%p
 rw [<-jD]
theorem nD(a:Nat):fof (a%p)=fof a:=by
 apply iE
 show a%p%p=a%p
 rw [Nat.mod_mod]
theorem iS{a b:Nat}(h:a%p=b%p):fof a=fof b:=iE h
theorem kL:fof 0=0:=by
 apply iE
 show 0%p=0%p
 rfl
theorem gD:fof 1=1:=by
 apply iE
 show 1%p=1%p
 rfl
theorem wV(a:F):fof a.val=a:=by
 apply iE
 exact aY a.isLt
theorem oM{a b:Nat}(h:b<=a):fof (a-b)=fof a-fof b:=by
 have:fof a=fof (a-b)+fof b:=by rw [<-iY,Nat.sub_add_cancel h]
 rw [this];generalize fof (a-b)=u;generalize fof b=v
 grind only
theorem vZ(a k:Nat):fof (a^k)=eK (fof a) k:=by
 induction k with
 | zero=>exact gD
 | succ k ih=>rw [cN,dW,ih,dY]
theorem uZ{a e:Nat}(k:Nat)(h:e<2^k):eK (fof a) e=fof (pm p a k e):=by
 rw [uL p a k e h,nD,vZ]
def ph:Nat:=28948022309329048855892746252171976963317496166410141009864396001978282409974
def pq:Nat:=14474011154664524427946373126085988481658748083205070504932198000989141204987
def pe:Nat:=7237005577332262213973186563042994240829374041602535252466099000494570602494
theorem wP:pq*2=ph:=by decide
def im:F:=eK (fof 2) pq
theorem wJ:im*im = -1:=by
 unfold im
 rw [<-lV,show pq+pq=ph from by decide,uZ 255 (by decide)];have:fof (pm p 2 255 ph)=fof (p-1):=iS (by decide +kernel);rw [this,oM (by decide),gD,show fof p=0 from iS (a:=p) (b:=0) (by decide)];generalize (1:F)=u
 grind only
theorem wK:(2:F)≠0:=by
 intro h
 have h1:(2:F).val=(0:F).val:=by rw [h]
 revert h1
 decide
theorem rG{a:F}(ha:a≠0):eK (a*a) ph=1:=by
 rw [uS,<-lV,show ph+ph=p-1 from by decide];exact n7 c7 ha
theorem vT{w:F}(h0:w≠0)(h:eK w ph≠1)(x:F):x*x≠w:=by
 rintro rfl
 apply h
 apply rG
 rintro rfl
 exact h0 (by grind only)
theorem vV{a:F}(h:a≠0):(-a).val=p-a.val:=by
 have h1:a.val≠0:=λh2=>h (iE h2);have h2:=a.isLt
 have h3:fof (p-a.val) = -a:=by
  rw [oM (by omega),wV,show fof p=0 from iS (a:=p) (b:=0) (by decide)]
  grind only
 rw [<-h3,j3];exact aY (by omega)
theorem xG:p%2=1:=by decide
theorem oK{a:F}(h:a≠0):(-a).val%2=1-a.val%2:=by
 rw [vV h];have h2:=a.isLt;have h3:=xG
 omega
def dn:Nat:=37095705934669439343138083508754565189542113879843219016388785533085940283555
def dd:F:=fof dn
theorem xO:dd≠0:=λh=>by
 have:=congrArg Fin.val h
 revert this
 decide
theorem wX:eK dd ph≠1:=by
 unfold dd
 rw [uZ 255 (by decide)]
 intro h
 have:=congrArg Fin.val h
 revert this
 rw [j3]
 decide +kernel
theorem good:Ed.Good p dd where
 pr:=c7
 two:=wK
 i:=⟨im,wJ⟩
 d:=vT xO wX
def bx:Nat:=15112221349535400772501151409588531511454012693041857206046113283949847762202
def bY:Nat:=46316835694926478169428394003475163141307993866256225615783033603165251855960
def base:Ed.Pt p:=⟨fof bx,fof bY⟩
theorem gB:Ed.On dd base:=by
 show fof bY*fof bY-fof bx*fof bx=1+dd*fof bx*fof bx*fof bY*fof bY
 unfold dd
 have h:fof (bY*bY)=fof (bx*bx+(1+dn*bx*bx*bY*bY)):=iS (by decide +kernel);rw [dW,iY,iY,dW,dW,dW,dW,dW,gD] at h;rw [h];generalize fof bx=u;generalize fof bY=v;generalize fof dn=w
 grind only
end Nums
namespace Nums
def forced{α:Type}(x:Nat)(f:Nat->α):α :=
  match x with
  | 0=>f 0
  | k+1=>f (k+1)
theorem gC{α:Type}(x:Nat)(f:Nat->α):forced x f=f x:=by cases x<;>rfl
structure Tri where
  x:Nat
  y:Nat
  z:Nat
def kV(a b:Tri):Tri :=
  forced (a.z*b.z%p) λz=>forced (z*z%p) λzz=>forced (dn*(a.x*b.x%p*(a.y*b.y%p)%p)%p) λm =>
  forced ((zz+m)%p) λpl=>forced ((zz+p-m)%p) λmi =>
  forced ((a.x*b.y+a.y*b.x)%p*z%p*mi%p) λx=>forced ((a.y*b.y+a.x*b.x)%p*z%p*pl%p) λy =>
  forced (pl*mi%p) λw=>⟨x,y,w⟩
def lQ:Nat->Nat->Tri->Tri->Tri
  | 0,_,acc,_=>acc
  | n+1,k,acc,q=>lQ n (k/2) (if k%2=1 then kV acc q else acc) (kV q q)
def fZ(t:Tri)(P:Ed.Pt p):Prop:=Ed.Rep (fof t.x) (fof t.y) (fof t.z) P
theorem oR{a b:Tri}{P Q:Ed.Pt p}(hP:Ed.On dd P)(hQ:Ed.On dd Q)(ha:fZ a P)(hb:fZ b Q):fZ (kV a b) (Ed.add dd P Q):=by
 unfold kV
 simp only [gC];have h:=Ed.Rep.add good hP hQ ha hb rfl rfl
 unfold fZ
 simp only
 generalize hz:a.z*b.z%p=z;generalize hm:dn*(a.x*b.x%p*(a.y*b.y%p)%p)%p=m
 have ez:fof z=fof a.z*fof b.z:=by rw [<-hz,nD,dW]
 have em:fof m=dd*((fof a.x*fof b.x)*(fof a.y*fof b.y)):=by
  rw [<-hm];simp only [nD,dW]
  rfl
 have hmp:m<p:=by rw [<-hm];exact cO _ (by decide)
 have es:fof (z*z%p+p-m)=fof z*fof z-fof m:=by
  rw [oM (by omega),iY,nD,dW,show fof p=0 from iS (a:=p) (b:=0) (by decide)]
  grind only
 rw [<-ez,<-em] at h;simp only [nD,dW,iY,es];exact h
theorem kU:∀(n k:Nat) (acc q:Tri) (A Q:Ed.Pt p),k<2^n->Ed.On dd A->Ed.On dd Q->fZ acc A->fZ q Q->fZ (lQ n k acc q) (Ed.add dd A (Ed.mul dd k Q))
 | 0,k,acc,q,A,Q,hk,hA,hQ,ha,hq=>by
  have:k=0:=by simp at hk;omega
  subst this;rw [Ed.mZ,Ed.add_zero good];exact ha
 | n+1,k,acc,q,A,Q,hk,hA,hQ,ha,hq=>by
  have hk2:k/2<2^n:=by rw [cN] at hk;omega
  have h2:=oR hQ hQ hq hq;have o2:=Ed.jG good hQ hQ
  have e2:Ed.mul dd (k/2) (Ed.add dd Q Q)=Ed.mul dd (2*(k/2)) Q:=by
   rw [Ed.l8 good hQ,Ed.xJ good]
  show fZ (lQ n (k/2) (if k%2=1 then kV acc q else acc) (kV q q)) _
  by_cases h:k%2=1
  ·rw [if_pos h]
   have ih:=kU n (k/2) (kV acc q) (kV q q) (Ed.add dd A Q) (Ed.add dd Q Q) hk2 (Ed.jG good hA hQ) o2 (oR hA hQ ha hq) h2;rw [e2,Ed.add_assoc good hA hQ (Ed.fM good hQ _),Ed.add_comm Q,<-Ed.mul_succ,show 2*(k/2)+1=k by omega] at ih;exact ih
  ·rw [if_neg h]
   have ih:=kU n (k/2) acc (kV q q) A (Ed.add dd Q Q) hk2 hA o2 ha h2;rw [e2,show 2*(k/2)=k by omega] at ih;exact ih
def LL:Nat:=7237005577332262213973186563042994240857116359379907606001950938285454250989
def ending:Bool :=
  let t:=lQ 253 LL ⟨0,1,1⟩ ⟨bx,bY,1⟩
  forced t.x λx=>forced t.y λy=>forced t.z λz=>bN (x%p) 0&&bN (y%p) (z%p)
theorem rH:ending=true:=by decide +kernel
theorem order:Ed.mul dd LL base=Ed.zero:=by
 have ha:fZ ⟨0,1,1⟩ Ed.zero:=by
  have:=Ed.Rep.zero c7
  unfold fZ
  rw [kL,gD];exact this
 have hq:fZ ⟨bx,bY,1⟩ base:=by
  refine⟨?_,?_,?_⟩
  ·show fof 1≠0
   rw [gD];exact λh=>lT c7 h.symm
  ·show fof bx=fof bx*fof 1
   rw [gD]
   grind only
  ·show fof bY=fof bY*fof 1
   rw [gD]
   grind only
 have h:=kU 253 LL _ _ Ed.zero base (by decide) Ed.j1 gB ha hq;rw [Ed.zero_add good] at h;have e:=rH
 unfold ending at e
 simp only [gC] at e;generalize lQ 253 LL ⟨0,1,1⟩ ⟨bx,bY,1⟩=t at h e;rw [aN] at e;obtain⟨e1,e2⟩:=e;have e1:=aM e1;have e2:=aM e2;have x0:fof t.x=0:=iE e1;have yz:fof t.y=fof t.z:=iE e2
 have hz:Ed.Rep (fof t.x) (fof t.y) (fof t.z) Ed.zero:=by
  refine⟨h.z,?_,?_⟩
  ·rw [x0]
   show(0:F)=0*fof t.z
   grind only
  ·rw [yz]
   show fof t.z=1*fof t.z
   grind only
 exact Ed.Rep.same c7 h hz
end Nums
namespace Nums
def Small(l:List Int):Prop:=∀x∈l,0<=x/\x<65536
end Nums
namespace Nums
end Nums
namespace Nums
def le:List UInt8->Nat
  | []=>0
  | b::bs=>b.toNat+256*le bs
def split:List Int->List UInt8
  | []=>[]
  | d::ds=>bK (d%256).toNat::bK (d/256).toNat::split ds
theorem mO:∀{a b:List UInt8},a.length=b.length->le a=le b->a=b
 | [],[],_,_=>rfl
 | x::a,y::b,hl,h=>by
  have h1:=x.toNat_lt;have h2:=y.toNat_lt;have h3:x.toNat+256*le a=y.toNat+256*le b:=h;have h4:x=y:=UInt8.toNat.inj (by omega);have h5:=mO (a:=a) (b:=b) (by simpa using hl) (by omega);rw [h4,h5]
def bytes:Nat->Nat->List UInt8
  | 0,_=>[]
  | k+1,v=>bK v::bytes k (v/256)
theorem bW:∀k v,(bytes k v).length=k
 | 0,_=>rfl
 | k+1,v=>by show(bytes k (v/256)).length+1=k+1;rw [bW]
theorem iM:∀k v,le (bytes k v)=v%256^k
 | 0,v=>by show 0=v%1;omega
 | k+1,v=>by
  show(bK v).toNat+256*le (bytes k (v/256))=v%256^(k+1)
  rw [iM,UInt8.toNat_ofNat',show 256^(k+1)=256*256^k by rw [cN,eN],Nat.mod_mul]
def enc(x:F):List UInt8:=bytes 32 x.val
theorem gM(x:F):(enc x).length=32:=bW _ _
theorem mP(x:F):le (enc x)=x.val:=by
 unfold enc
 rw [iM];exact aY (Nat.lt_trans x.isLt (by decide))
theorem wC{x y:F}(h:enc x=enc y):x=y:=by
 apply iE
 rw [<-mP,<-mP,h]
theorem wW{b:List UInt8}(hb:b.length=32){x:F}(h:le b=x.val):b=enc x :=
 mO (by rw [hb,gM]) (by rw [h,mP])
end Nums
namespace Nums
def fE(w n x:Nat):Nat:=x/2^n+x%2^n*2^(w-n)
def chw(w e f g:Nat):Nat:=(e &&& f) ^^^ ((2^w-1-e) &&& g)
def maw(a b c:Nat):Nat:=(a &&& b) ^^^ (a &&& c) ^^^ (b &&& c)
structure Sha where
  w:Nat
  n:Nat
  big1:Nat×Nat×Nat
  big0:Nat×Nat×Nat
  low1:Nat×Nat×Nat
  low0:Nat×Nat×Nat
  k:Nat->Nat
  start:List Nat
def oY(w:Nat)(t:Nat×Nat×Nat)(x:Nat):Nat:=fE w t.1 x ^^^ fE w t.2.1 x ^^^ fE w t.2.2 x
def jR(w:Nat)(t:Nat×Nat×Nat)(x:Nat):Nat:=fE w t.1 x ^^^ fE w t.2.1 x ^^^ x/2^t.2.2
def sqs:List Nat:=[7640891576956012808,13503953896175478587,4354685564936845355,11912009170470909681,5840696475078001361,11170449401992604703,2270897969802886507,6620516959819538809]
def cbs:List Nat:=[4794697086780616226,8158064640168781261,13096744586834688815,16840607885511220156,4131703408338449720,6480981068601479193,10538285296894168987,12329834152419229976,15566598209576043074,1334009975649890238,2608012711638119052,6128411473006802146,8268148722764581231,9286055187155687089,11230858885718282805,13951009754708518548,16472876342353939154,17275323862435702243,1135362057144423861,2597628984639134821,3308224258029322869,5365058923640841347,6679025012923562964,8573033837759648693,10970295158949994411,12119686244451234320,12683024718118986047,13788192230050041572,14330467153632333762,15395433587784984357,489312712824947311,1452737877330783856,2861767655752347644,3322285676063803686,5560940570517711597,5996557281743188959,7280758554555802590,8532644243296465576,9350256976987008742,10552545826968843579,11727347734174303076,12113106623233404929,14000437183269869457,14369950271660146224,15101387698204529176,15463397548674623760,17586052441742319658,1182934255886127544,1847814050463011016,2177327727835720531,2830643537854262169,3796741975233480872,4115178125766777443,5681478168544905931,6601373596472566643,7507060721942968483,8399075790359081724,8693463985226723168,9568029438360202098,10144078919501101548,10430055236837252648,11840083180663258601,13761210420658862357,14299343276471374635,14566680578165727644,15097957966210449927,16922976911328602910,17689382322260857208,500013540394364858,748580250866718886,1242879168328830382,1977374033974150939,2944078676154940804,3659926193048069267,4368137639120453308,4836135668995329356,5532061633213252278,6448918945643986474,6902733635092675308,7801388544844847127]
def dK:Sha where
  w:=64
  n:=80
  big1:=(14,18,41)
  big0:=(28,34,39)
  low1:=(19,61,6)
  low0:=(1,8,7)
  k:=λt=>cbs[t]!
  start:=sqs
def bJ:Sha where
  w:=32
  n:=64
  big1:=(6,11,25)
  big0:=(2,13,22)
  low1:=(17,19,10)
  low0:=(7,18,3)
  k:=λt=>cbs[t]! / 4294967296
  start:=sqs.map (· / 4294967296)
def ben(f:Nat->Nat):Nat->Nat
  | 0=>0
  | j+1=>ben f j*256+f j
theorem qN{f:Nat->Nat}(h:∀j,f j<256):∀j,ben f j<256^j
 | 0=>Nat.one_pos
 | j+1=>by
  have h1:=qN h j;have h2:=h j
  show ben f j*256+f j<256^(j+1)
  rw [cN]
  omega
def vD(s:Sha)(b:List UInt8)(t:Nat):Nat:=ben (λk=>(b[t*(s.w/8)+k]!).toNat) (s.w/8)
def sx(s:Sha)(b:List UInt8)(t:Nat):Nat :=
  if _h:t<16 then vD s b t else(jR s.w s.low1 (sx s b (t-2))+sx s b (t-7)+jR s.w s.low0 (sx s b (t-15))+sx s b (t-16))%2^s.w
termination_by t
decreasing_by all_goals omega
structure Oct where
  a:Nat
  b:Nat
  c:Nat
  d:Nat
  e:Nat
  f:Nat
  g:Nat
  h:Nat
def Oct.list(o:Oct):List Nat:=[o.a,o.b,o.c,o.d,o.e,o.f,o.g,o.h]
def t1w(s:Sha)(k x:Nat)(o:Oct):Nat:=o.h+oY s.w s.big1 o.e+chw s.w o.e o.f o.g+k+x
def t2w(s:Sha)(o:Oct):Nat:=oY s.w s.big0 o.a+maw o.a o.b o.c
def rnd(s:Sha)(k x:Nat)(o:Oct):Oct:=⟨(t1w s k x o+t2w s o)%2^s.w,o.a,o.b,o.c,(o.d+t1w s k x o)%2^s.w,o.e,o.f,o.g⟩
def kZ(s:Sha)(b:List UInt8)(o:Oct):Nat->Oct
  | 0=>o
  | t+1=>rnd s (s.k t) (sx s b t) (kZ s b o t)
def nQ(w:Nat)(o p:Oct):Oct:=⟨(o.a+p.a)%2^w,(o.b+p.b)%2^w,(o.c+p.c)%2^w,(o.d+p.d)%2^w,(o.e+p.e)%2^w,(o.f+p.f)%2^w,(o.g+p.g)%2^w,(o.h+p.h)%2^w⟩
def fP(s:Sha)(o:Oct)(b:List UInt8):Oct:=nQ s.w o (kZ s b o s.n)
theorem iR{a b w:Nat}(ha:a<2^w)(hb:b<2^w):a ^^^ b<2^w:=Nat.xor_lt_two_pow ha hb
theorem fO{a b w:Nat}(ha:a<2^w):a &&& b<2^w:=dP Nat.and_le_left ha
theorem dV{w n x:Nat}(hn:n<=w)(hx:x<2^w):fE w n x<2^w:=by
 have e:(2:Nat)^w=2^n*2^(w-n):=by rw [<-j9,qP hn]
 have h1:x/2^n<2^(w-n):=pM (by rw [<-e];exact hx);have h2:x%2^n+1<=2^n:=cO _ (gO n);have h3:=Nat.mul_le_mul_right (2^(w-n)) h2;rw [<-e,o6,g7] at h3
 unfold fE
 omega
theorem sS{w x:Nat}{t:Nat×Nat×Nat}(h:t.1<=w/\t.2.1<=w/\t.2.2<=w)(hx:x<2^w):oY w t x<2^w :=
 iR (iR (dV h.1 hx) (dV h.2.1 hx)) (dV h.2.2 hx)
theorem sP{w x:Nat}{t:Nat×Nat×Nat}(h:t.1<=w/\t.2.1<=w)(hx:x<2^w):jR w t x<2^w :=
 iR (iR (dV h.1 hx) (dV h.2 hx)) (dP (dU _ _) hx)
theorem wY{w e f g:Nat}(he:e<2^w):chw w e f g<2^w:=iR (fO he) (fO (by have:=gO w;omega))
theorem wT{w a b c:Nat}(ha:a<2^w)(hb:b<2^w):maw a b c<2^w:=iR (iR (fO ha) (fO ha)) (fO hb)
theorem tZ(s:Sha)(b:List UInt8)(hw:s.w/8*8=s.w)(t:Nat):sx s b t<2^s.w:=by
 rw [sx]
 split
 ·have h:=qN (f:=λk=>(b[t*(s.w/8)+k]!).toNat) (λj=>UInt8.toNat_lt _) (s.w/8)
  rw [show(256:Nat)=2^8 from rfl,<-mL,eN 8,hw] at h;exact h
 ·exact cO _ (gO _)
structure OB(w:Nat)(o:Oct):Prop where
  a:o.a<2^w
  b:o.b<2^w
  c:o.c<2^w
  d:o.d<2^w
  e:o.e<2^w
  f:o.f<2^w
  g:o.g<2^w
  h:o.h<2^w
theorem OB.rnd{s:Sha}{o:Oct}(h:OB s.w o)(k x:Nat):OB s.w (rnd s k x o) :=
 ⟨cO _ (gO _),h.a,h.b,h.c,cO _ (gO _),h.e,h.f,h.g⟩
theorem OB.kZ{s:Sha}{b:List UInt8}{o:Oct}(h:OB s.w o):∀t,OB s.w (kZ s b o t)
 | 0=>h
 | t+1=>(OB.kZ h t).rnd _ _
theorem OB.nQ(w:Nat)(o p:Oct):OB w (nQ w o p):=by
 constructor<;>exact cO _ (gO _)
theorem OB.fP(s:Sha)(o:Oct)(b:List UInt8):OB s.w (fP s o b):=OB.nQ _ _ _
theorem xU{w e f g:Nat}(he:e<2^w):(e &&& f) ||| ((2^w-1-e) &&& g)=chw w e f g:=by
 unfold chw
 apply Nat.eq_of_testBit_eq
 intro i
 simp only [Nat.testBit_or,Nat.testBit_xor,Nat.testBit_and];have h:=Nat.testBit_two_pow_sub_succ he i;rw [show 2^w-1-e=2^w-(e+1) by omega,h]
 cases e.testBit i<;>cases f.testBit i<;>cases g.testBit i<;>simp
theorem xK(a b c:Nat):(a &&& b) ||| (a &&& c) ||| (b &&& c)=maw a b c:=by
 unfold maw
 apply Nat.eq_of_testBit_eq
 intro i
 simp only [Nat.testBit_or,Nat.testBit_xor,Nat.testBit_and]
 cases a.testBit i<;>cases b.testBit i<;>cases c.testBit i<;>rfl
def eH(s:Sha)(B:Nat)(o:Oct)(l:List UInt8):Oct :=
  if _h:B=0\/l.length<B then o else eH s B (fP s o (l.take B)) (l.drop B)
termination_by l.length
decreasing_by
  rw [dC]
  omega
theorem fW{s:Sha}{B:Nat}{o:Oct}{l:List UInt8}(h:l.length<B):eH s B o l=o:=by
 rw [eH,dif_pos (.inr h)]
theorem fX{s:Sha}{B:Nat}{o:Oct}{b l:List UInt8}(hB:0<B)(h:b.length=B):eH s B o (b++l)=eH s B (fP s o b) l:=by
 rw [eH,dif_neg (by rw [aB];omega),<-h,List.take_left,List.drop_left]
theorem jY{s:Sha}{B:Nat}(hB:0<B):∀(n:Nat) {o:Oct} {a l:List UInt8},a.length=n*B->eH s B o (a++l)=eH s B (eH s B o a) l
 | 0,o,a,l,h=>by
  have h0:a=[]:=bV (by omega);subst h0;rw [List.nil_append,fW (l:=[]) (by simpa using hB)]
 | n+1,o,a,l,h=>by
  have hl:(a.take B).length=B:=by rw [aU,h,o6];omega
  have hd:(a.drop B).length=n*B:=by rw [dC,h,o6];omega
  have e:a=a.take B++a.drop B:=(cW B a).symm;rw [e,a6,fX hB hl,fX hB hl,jY hB n hd]
def iT(v:Nat):List UInt8:=(bytes 8 v).reverse
def eC(B r v:Nat):List UInt8:=128::(List.replicate ((if r+1<=B-B/8 then B else 2*B)-9-r) 0++iT v)
def wL(s:Sha)(m:List UInt8):Oct:=eH s (2*s.w) (⟨s.start[0]!,s.start[1]!,s.start[2]!,s.start[3]!,s.start[4]!,s.start[5]!,s.start[6]!,s.start[7]!⟩) (m++eC (2*s.w) (m.length%(2*s.w)) (8*m.length))
def iN(s:Sha)(x:Nat):List UInt8:=(bytes (s.w/8) x).reverse
def cE(s:Sha)(m:List UInt8):List UInt8:=((wL s m).list.map (iN s)).flatten
end Nums
namespace Go.Proofs.YtlhlkofpjhpaoaaGreatDoor
open Go.RowKit Go.IntWalk Nums
theorem rot_or(w n x:Nat)(hn:n<=w)(hx:x<2^w):x*2^(w-n)%2^w=x%2^n*2^(w-n)/\x/2^n<2^(w-n):=by
 have e:(2:Nat)^w=2^n*2^(w-n):=by rw [<-j9,qP hn]
 refine⟨?_,pM (by rw [<-e];exact hx)⟩;rw [e,Nat.mul_mod_mul_right]
theorem rot64_f(x n:Nat)(hx:x<18446744073709551616)(h0:0<n)(hn:n<64)(w:World) :
  Calls Tryz.prog 166 #[.int .u64 (x:Int),.int .i64 (-(n:Int))] w λe w'=>e = .returned (.int .u64 ((fE 64 n x:Nat):Int))/\w'=w:=by
 have q1:IntKind.u64.wrap (-(n:Int))=((18446744073709551616-n:Nat):Int):=by
  rw [a8]
  omega
 have q2:bits .and .u64 ((18446744073709551616-n:Nat):Int) 63=((64-n:Nat):Int):=by
  have h:=u64_and_nat (18446744073709551616-n) 63 (by omega) (by omega);have e:(18446744073709551616-n) &&& 63=(18446744073709551616-n)%64:=Nat.and_two_pow_sub_one_eq_mod _ 6;rw [e] at h
  have e2:(18446744073709551616-n)%64=64-n:=by omega
  rw [e2] at h;exact h
 obtain⟨e1,e2⟩:=rot_or 64 n x (by omega) hx
 have q3:IntKind.u64.wrap ((x:Int)*2^(64-n))=((x%2^n*2^(64-n):Nat):Int):=by
  rw [<-e1,a8]
  simp
 have q4:IntKind.u64.wrap (64-((64-n:Nat):Int))=(n:Int):=by
  rw [a8]
  omega
 have f1:((x:Int)/2^n)=((x/2^n:Nat):Int):=by simp
 have hm:x%2^n*2^(64-n)<18446744073709551616:=by
  rw [<-e1];exact cO _ (by decide)
 have hd:x/2^n<18446744073709551616:=dP (dU _ _) hx
 have q5:bits .or .u64 ((x%2^n*2^(64-n):Nat):Int) ((x/2^n:Nat):Int)=((fE 64 n x:Nat):Int):=by
  rw [u64_or_nat _ _ hm hd,nat_join (64-n) _ _ (Nat.mul_mod_left _ _) e2]
  unfold fE
  rw [Nat.add_comm]
 have g1:((64-n:Nat):Int)<=64:=by omega
 have g2:(n:Int)<=64:=by omega
 clear e1 e2 hm hd;generalize fE 64 n x=r at *;generalize x%2^n*2^(64-n)=m at *;generalize x/2^n=d at *;generalize hs:64-n=s at *;generalize 18446744073709551616-n=u at *;clear hs
 go_enter Tryz.func166,Tryz.ntmps166
 go_wp2
 go_ret
 exact⟨rfl,rfl⟩
end Go.Proofs.YtlhlkofpjhpaoaaGreatDoor
