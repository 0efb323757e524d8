import Derived.Test.YtlhlkofpjhpaoaaGreatDoorMj
import Derived.Test.YtlhlkofpjhpaoaaGreatDoorMh
import Derived.Test.YtlhlkofpjhpaoaaGreatDoorMn
set_option maxRecDepth 100000
set_option maxHeartbeats 1000000
open Array renaming getElem?_append_right->qL
open Go.Op renaming equalIn->b7
open Go.Result renaming andThen_ok->aD
open Go.Sem renaming run_bind->aG,run_pure->aH
open Go.Value renaming int->bH
open List renaming length_append->aB,mem_singleton->aF,getElem?_eq_getElem->aJ,mem_cons->aL,mem_cons_self->aP,length_take->aR,size_toArray->aU,append_assoc->aY,length_singleton->a9,take_of_length_le->bE,getElem?_eq_some_iff->bG,append_nil->bQ,take_append_drop->cQ,length_drop->dI,drop_of_length_le->fF,nil_append->fR,take_append_of_le_length->jI,drop_append_of_le_length->jL,not_mem_nil->mN,cons_append->mO,getElem_append_right->rJ,getElem_append_left->sA
open Nat renaming le_refl->aE,zero_le->aI,blt->aQ,beq->bO,lt_of_lt_of_le->cG,lt_of_le_of_lt->c8,lt_succ_self->pT,le_add_right->pU
open Option.some renaming inj->cO
namespace Go.Proofs.YtlhlkofpjhpaoaaGreatDoor
open Nums
inductive PW where
  | empty
  | leaf (p:PairT)
  | inner (a b:PW)
  | hid (h:List UInt8)
namespace PW
def root:PW->List UInt8
  | empty=>dE
  | leaf p=>gX p
  | inner a b=>fM a.root b.root
  | hid h=>h
def bytes:PW->List UInt8
  | empty=>[0]
  | leaf p=>1::(p.1++p.2)
  | inner a b=>2::(a.bytes++b.bytes)
  | hid h=>3::h
def kind:PW->Nat
  | empty=>0
  | leaf _=>1
  | inner _ _=>2
  | hid _=>3
def find(k:List UInt8):Nat->PW->PW
  | d,inner a b=>if b6 k d=0 then find k (d+1) a else find k (d+1) b
  | _,w=>w
def tell(k:List UInt8):PW->List UInt8×Bool×Bool
  | leaf p=>if p.1=k then(p.2,true,false) else(dE,false,false)
  | hid _=>(dE,false,true)
  | _=>(dE,false,false)
def two:Nat->Nat->PairT->PairT->PW
  | 0,_,_,_=>empty
  | n+1,d,q,p=>if b6 q.1 d=b6 p.1 d then(if b6 q.1 d=0 then inner (two n (d+1) q p) empty else inner empty (two n (d+1) q p)) else if b6 q.1 d=0 then inner (leaf q) (leaf p) else inner (leaf p) (leaf q)
def put(p:PairT):Nat->PW->PW
  | _,empty=>leaf p
  | d,leaf q=>if q.1=p.1 then leaf p else two (256-d) d q p
  | d,inner a b=>if b6 p.1 d=0 then inner (put p (d+1) a) b else inner a (put p (d+1) b)
  | _,hid h=>hid h
def bad(a b:PW):Bool:=(a.kind==0&&b.kind==0)||(a.kind==0&&b.kind==1)||(a.kind==1&&b.kind==0)
end PW
def Leads(way:List Nat)(k:List UInt8):Prop:=∀i,i<way.length->b6 k i=way[i]!
instance(way:List Nat)(k:List UInt8):Decidable (Leads way k):=Nat.decidableBallLT way.length λi _=>b6 k i=way[i]!
theorem Leads.more{way:List Nat}{k:List UInt8}{b:Nat}:Leads (way++[b]) k↔Leads way k/\b6 k way.length=b:=by
 constructor
 ·intro h
  refine⟨λi hi=>?_,?_⟩
  ·have:=h i (by rw [aB];exact cG hi (pU _ _))
   rw [this,getElem!_pos (way++[b]) _ (by rw [aB];exact cG hi (pU _ _)),sA hi,getElem!_pos way i hi]
  ·have:=h way.length (by rw [aB];exact pT _)
   rw [this,getElem!_pos (way++[b]) _ (by rw [aB];exact pT _),rJ (aE _)]
   simp
 ·rintro⟨h1,h2⟩ i hi
  rw [aB,a9] at hi
  by_cases e:i=way.length
  ·subst e
   rw [h2,getElem!_pos (way++[b]) _ (by rw [aB];exact pT _),rJ (aE _)]
   simp
  ·have hi:i<way.length:=by omega
   rw [h1 i hi,getElem!_pos way i hi,getElem!_pos (way++[b]) _ (by rw [aB];exact cG hi (pU _ _)),sA hi]
namespace PW
def Right:List Nat->PW->Prop
  | _,empty=>True
  | way,leaf p=>p.1.length=32/\p.2.length=32/\Leads way p.1
  | way,inner a b=>way.length<256/\Right (way++[0]) a/\Right (way++[1]) b/\bad a b=false
  | _,hid h=>h.length=32
def read:Nat->List Nat->List UInt8->Except Nat (PW×List UInt8)
  | _,_,[]=>.error 10
  | n,way,x::b =>
    if x=0 then .ok (empty,b)
    else if x=1 then(if b.length<64 then .error 10 else if Leads way (b.take 32) then .ok (leaf (b.take 32,(b.drop 32).take 32),b.drop 64) else .error 13)
    else if x=2 then(match n with
      | 0=>.error 13
      | n+1=>match read n (way++[0]) b with
        | .error e=>.error e
        | .ok (l,b1)=>match read n (way++[1]) b1 with
          | .error e=>.error e
          | .ok (r,b2)=>if bad l r then .error 13 else .ok (inner l r,b2))
    else if x=3 then(if b.length<32 then .error 10 else .ok (hid (b.take 32),b.drop 32))
    else .error 13
def parse(b:List UInt8):Except Nat PW:=match read 256 [] b with
  | .error e=>.error e
  | .ok (w,[])=>.ok w
  | .ok _=>.error 11
theorem read_ok:∀{n:Nat} {way:List Nat} {b:List UInt8} {w:PW} {rest:List UInt8},n+way.length=256->read n way b = .ok (w,rest)->Right way w/\b=w.bytes++rest
 | _,_,[],_,_,_,h=>by unfold read at h;cases h
 | n,way,x::b,w,rest,hn,h=>by
  unfold read at h
  by_cases h0:x=0
  ·rw [if_pos h0] at h
   injection h with h
   injection h with h1 h2
   subst h1 h2 h0;exact⟨trivial,rfl⟩
  rw [if_neg h0] at h
  by_cases h1:x=1
  ·rw [if_pos h1] at h
   by_cases hl:b.length<64
   ·rw [if_pos hl] at h;cases h
   rw [if_neg hl] at h
   by_cases hw:Leads way (b.take 32)
   ·rw [if_pos hw] at h
    injection h with h
    injection h with e1 e2
    subst e1 e2 h1;refine⟨⟨by rw [aR];omega,by rw [aR,dI];omega,hw⟩,?_⟩
    show _=1::(b.take 32++(b.drop 32).take 32)++b.drop 64
    rw [mO,aY,show b.drop 64=(b.drop 32).drop 32 by rw [List.drop_drop],cQ,cQ]
   ·rw [if_neg hw] at h;cases h
  rw [if_neg h1] at h
  by_cases h2:x=2
  ·rw [if_pos h2] at h
   cases n with
   | zero=>cases h
   | succ n =>
    dsimp only at h
    cases hr:read n (way++[0]) b with
    | error e=>rw [hr] at h;cases h
    | ok u =>
     obtain⟨l,b1⟩:=u;rw [hr] at h
     dsimp only at h
     cases hr2:read n (way++[1]) b1 with
     | error e=>rw [hr2] at h;cases h
     | ok u =>
      obtain⟨r,b2⟩:=u;rw [hr2] at h
      dsimp only at h
      obtain⟨k1,k2⟩:=read_ok (by rw [aB,a9];omega) hr;obtain⟨k3,k4⟩:=read_ok (by rw [aB,a9];omega) hr2
      by_cases hb:bad l r=true
      ·rw [if_pos hb] at h;cases h
      ·rw [if_neg hb] at h
       injection h with h
       injection h with e1 e2
       subst e1 e2 h2;refine⟨⟨by omega,k1,k3,by simpa using hb⟩,?_⟩;rw [k2,k4]
       show _=2::(l.bytes++r.bytes)++b2
       simp
  rw [if_neg h2] at h
  by_cases h3:x=3
  ·rw [if_pos h3] at h
   by_cases hl:b.length<32
   ·rw [if_pos hl] at h;cases h
   rw [if_neg hl] at h
   injection h with h
   injection h with e1 e2
   subst e1 e2 h3;refine⟨by show(b.take 32).length=32;rw [aR];omega,?_⟩
   show _=3::b.take 32++b.drop 32
   rw [mO,cQ]
  ·rw [if_neg h3] at h;cases h
theorem read_right:∀{n:Nat} {way:List Nat} {w:PW} {rest:List UInt8},n+way.length=256->Right way w->read n way (w.bytes++rest) = .ok (w,rest)
 | n,way,empty,rest,_,_=>by
  show read n way (0::rest)=_
  unfold read
  rfl
 | n,way,leaf p,rest,_,⟨h1,h2,h3⟩=>by
  show read n way (1::(p.1++p.2++rest))=_
  have e1:(p.1++p.2++rest).take 32=p.1:=by rw [aY,jI (by omega),bE (by omega)]
  have e2:(p.1++p.2++rest).drop 32=p.2++rest:=by rw [aY,jL (by omega),fF (by omega),fR]
  have e3:(p.1++p.2++rest).drop 64=rest:=by rw [show(64:Nat)=32+32 from rfl,<-List.drop_drop,e2,jL (by omega),fF (by omega),fR]
  have e4:(p.2++rest).take 32=p.2:=by rw [jI (by omega),bE (by omega)]
  unfold read
  rw [if_neg (by decide),if_pos rfl,if_neg (by rw [aB,aB];omega),e1,e2,e3,e4,if_pos h3]
 | n,way,inner a b,rest,hn,⟨h1,h2,h3,h4⟩=>by
  show read n way (2::(a.bytes++b.bytes++rest))=_
  obtain⟨m,rfl⟩:∃m,n=m+1:=⟨n-1,by omega⟩
  unfold read
  rw [if_neg (by decide),if_neg (by decide),if_pos rfl]
  dsimp only
  rw [aY,read_right (by rw [aB,a9];omega) h2]
  dsimp only
  rw [read_right (by rw [aB,a9];omega) h3]
  dsimp only
  rw [if_neg (by rw [h4];decide)]
 | n,way,hid h,rest,_,h1=>by
  have h1:h.length=32:=h1
  show read n way (3::(h++rest))=_
  unfold read
  rw [if_neg (by decide),if_neg (by decide),if_neg (by decide),if_pos rfl,if_neg (by rw [aB];omega),jI (by omega),bE (by omega),jL (by omega),fF (by omega),fR]
theorem parse_bytes{w:PW}(h:Right [] w):parse w.bytes = .ok w:=by
 have:=read_right (rest:=[]) rfl h;rw [bQ] at this
 unfold parse
 rw [this]
abbrev keyL(d:Nat)(ks:List (List UInt8)):List (List UInt8):=ks.filter λk=>b6 k d==0
abbrev keyR(d:Nat)(ks:List (List UInt8)):List (List UInt8):=ks.filter λk=>b6 k d != 0
def Of:Nat->List PairT->List (List UInt8)->PW->Prop
  | _,l,_,empty=>l=[]
  | _,l,_,leaf p=>l=[p]
  | d,l,ks,inner a b=>d<256/\2<=l.length/\Of (d+1) (bR d l) (keyL d ks) a/\Of (d+1) (bB d l) (keyR d ks) b
  | d,l,ks,hid h=>ks=[]/\l≠[]/\h=dY (256-d) l
theorem halves(d:Nat)(l:List PairT):(bR d l).length+(bB d l).length=l.length:=by
 unfold bR bB
 induction l with
 | nil=>rfl
 | cons x l ih =>
  by_cases h:b6 x.1 d=0
  ·simp [h] at ih ⊢
   omega
  ·simp [h] at ih ⊢
   omega
theorem Of.root:∀{d:Nat} {l:List PairT} {ks:List (List UInt8)} {w:PW},Of d l ks w->w.root=dY (256-d) l
 | _,l,_,empty,h=>by
  have h:l=[]:=h;subst h;exact(j9 _).symm
 | _,l,_,leaf p,h=>by
  have h:l=[p]:=h;subst h;exact(jA _ p).symm
 | d,l,_,inner a b,⟨h1,h2,h3,h4⟩=>by
  have e:256-d=(255-d)+1:=by omega
  rw [e,kR h2]
  show fM a.root b.root=_
  rw [h3.root,h4.root,show 255-(255-d)=d by omega,show 256-(d+1)=255-d by omega]
 | _,_,_,hid _,h=>h.2.2
theorem Of.right:∀{way:List Nat} {l:List PairT} {ks:List (List UInt8)} {w:PW},Of way.length l ks w->(∀p∈l,p.1.length=32/\p.2.length=32/\Leads way p.1)->Right way w
 | _,_,_,empty,_,_=>trivial
 | _,l,_,leaf p,h,hl=>hl p (by have h:l=[p]:=h;rw [h];exact aP)
 | way,l,_,inner a b,⟨h1,h2,h3,h4⟩,hl=>by
  have e:∀x:Nat,(way++[x]).length=way.length+1:=λx=>by rw [aB,a9]
  refine⟨h1,Of.right (by rw [e];exact h3) λp hp=>?_,Of.right (by rw [e];exact h4) λp hp=>?_,?_⟩
  ·obtain⟨k1,k2⟩:=fZ.1 hp
   obtain⟨l1,l2,l3⟩:=hl p k1;exact⟨l1,l2,Leads.more.2 ⟨l3,k2⟩⟩
  ·obtain⟨k1,k2⟩:=fH.1 hp
   obtain⟨l1,l2,l3⟩:=hl p k1;have:=iY p.1 way.length;exact⟨l1,l2,Leads.more.2 ⟨l3,by omega⟩⟩
  ·have hs:=halves way.length l
   have hE:∀{d:Nat} {m:List PairT} {k:List (List UInt8)} {w:PW},Of d m k w->(w.kind=0->m.length=0)/\(w.kind=1->m.length=1):=λ{d m k w} h=>by
    cases w with
    | empty=>have h:m=[]:=h;subst h;exact⟨λ_=>rfl,λh=>(by cases h)⟩
    | leaf p=>have h:m=[p]:=h;subst h;exact⟨λh=>(by cases h),λ_=>rfl⟩
    | inner=>exact⟨λh=>(by cases h),λh=>(by cases h)⟩
    | hid=>exact⟨λh=>(by cases h),λh=>(by cases h)⟩
   have ha:=hE h3;have hb:=hE h4
   unfold bad
   generalize a.kind=x at *;generalize b.kind=y at *;simp only [Bool.or_eq_false_iff,Bool.and_eq_false_iff,beq_eq_false_iff_ne]
   omega
 | way,l,_,hid h,⟨_,h2,h3⟩,hl=>by
  show h.length=32
  rw [h3]
  cases l with
  | nil=>exact absurd rfl h2
  | cons p l =>
   cases l with
   | nil=>rw [jA];exact digest256_len _
   | cons q l =>
    generalize 256-way.length=r
    cases r with
    | zero=>rfl
    | succ r=>exact digest256_len _
theorem Of.tells:∀{d:Nat} {l:List PairT} {ks:List (List UInt8)} {w:PW} {k:List UInt8},Of d l ks w->k∈ks->cP l->tell k (find k d w)=(match mY l k with
  | some v=>(v,true,false)
  | none=>(dE,false,false))
 | _,l,_,empty,k,h,_,_=>by
  have h:l=[]:=h;subst h
  rfl
 | _,l,_,leaf p,k,h,_,_=>by
  have h:l=[p]:=h;subst h
  show(if p.1=k then _ else _)=_
  by_cases e:p.1=k
  ·rw [if_pos e]
   subst e
   simp [mY]
  ·rw [if_neg e]
   simp [mY,e]
 | d,l,ks,inner a b,k,⟨h1,h2,h3,h4⟩,hk,hs=>by
  show tell k (if b6 k d=0 then find k (d+1) a else find k (d+1) b)=_
  by_cases e:b6 k d=0
  ·rw [if_pos e,h3.tells (List.mem_filter.2 ⟨hk,by simpa using e⟩) (hs.filter _)]
   have:mY (bR d l) k=mY l k:=by
    cases hg:mY l k with
    | some v=>exact(l5 (hs.filter _)).2 (fZ.2 ⟨(l5 hs).1 hg,e⟩)
    | none=>exact l6.2 λq hq=>l6.1 hg q (fZ.1 hq).1
   rw [this]
  ·rw [if_neg e,h4.tells (List.mem_filter.2 ⟨hk,by simpa using e⟩) (hs.filter _)]
   have:mY (bB d l) k=mY l k:=by
    cases hg:mY l k with
    | some v=>exact(l5 (hs.filter _)).2 (fH.2 ⟨(l5 hs).1 hg,e⟩)
    | none=>exact l6.2 λq hq=>l6.1 hg q (fH.1 hq).1
   rw [this]
 | _,_,ks,hid _,k,h,hk,_=>by
  rw [h.1] at hk
  cases hk
def cut:Nat->Nat->List PairT->List (List UInt8)->PW
  | _,_,[],_=>empty
  | _,d,p::l,[]=>hid (dY (256-d) (p::l))
  | _,_,[p],_::_=>leaf p
  | 0,_,_::_::_,_::_=>empty
  | n+1,d,p::q::l,k::ks=>inner (cut n (d+1) (bR d (p::q::l)) (keyL d (k::ks))) (cut n (d+1) (bB d (p::q::l)) (keyR d (k::ks)))
theorem cut_of:∀(n:Nat) {d:Nat} {l:List PairT} (ks:List (List UInt8)),n+d=256->cP l->gP l->c7 d l->Of d l ks (cut n d l ks)
 | n,d,[],_,_,_,_,_=>by
  cases n<;>rfl
 | n,d,p::l,[],_,_,_,_=>by
  cases n<;>exact⟨rfl,by simp,rfl⟩
 | n,d,[p],k::ks,_,_,_,_=>by
  cases n<;>rfl
 | 0,d,p::q::l,k::ks,hn,hs,hk,hsh=>by
  obtain rfl:d=256:=by omega
  have:=hsh.one hs hk
  simp at this
 | n+1,d,p::q::l,k::ks,hn,hs,hk,hsh=>⟨by omega,by simp,cut_of n _ (by omega) (hs.filter _) (hk.filter _) hsh.left,cut_of n _ (by omega) (hs.filter _) (hk.filter _) hsh.right⟩
end PW
end Go.Proofs.YtlhlkofpjhpaoaaGreatDoor
namespace Go.Proofs.YtlhlkofpjhpaoaaGreatDoor
open Go.RowKit Go.IntWalk Nums
section
variable{α:Type}{fe:α->SQ}{l:List α}{P:Program}{T:List TyR}{b:Base}{ops:Array Oper}{Q:Exit->Act->World->Prop}{N:Nat}{E:SE}{L:List LV}{R:List Res}{F M:World->Prop}{o:Oper}{rest:List Oper}{k:Nat}{t e:TypeId}{x y z:Operand}{A:Option Addr}{lo c sz bs g:Nat}
theorem l_appZ{A2':(Nat->Nat)->Option Addr}{n c2:Nat}{u:SV}(hT:OkT P T)(i:Nat)(m:List α)(hg:o.guard=none)(hd:o.dst=some k)(hk:aQ k N=true)(ho:o.op = .call { callee:=.builtin .append,args:=#[x,y],argTypes:=#[t,t] })(hs:slS T t=some (e,sz,bs))(hx:evS E x=some (.v (.slice A n c)))(hy:evS E y=some u)(hu:∀G,u.den G = .slice (A2' G) m.length c2)
 (hi:R[i]?=some (OwnS lo e sz fe A c l))(hn:n=l.length)(hrd:∀G S w,View G S L R F M w->Rd sz fe (A2' G) c2 m w)(h0:0<sz)(hb:(l.length+m.length)*bs<=140737488355328)(hm:l.length+m.length<=9223372036854775807-64)(hlo:lo<=b.B.heap.size)
 (hc:∀A' c',lS P b ops Q N rest ⟨(k,.v (.slice A' (l++m).length c'))::E,L,R.set i (OwnS lo e sz fe A' c' (l++m)),F,M⟩):lS P b ops Q N (o::rest) ⟨E,L,R,F,M⟩:=λa w ⟨G,S,f1,f2,f3⟩=>by
 have hR:=hrd G S w f3.view;obtain⟨S1,h5,hput⟩:=f3.put hi;have e1:=f1.eval (evS_ok hx);have e2:=f1.eval (evS_ok hy);rw [hu G] at e2;generalize A2' G=A2 at *;subst hn
 have key:∃A' c' w' S',(Builtin.append_ #[t,t] o.type #[.slice A l.length c,.slice A2 m.length c2]).run P w = .ok (.slice A' (l++m).length c') w'/\Chg S1 w w'/\(OwnS lo e sz fe A' c' (l++m)).holds w' S'/\∀k,S' k->k<w.heap.size->S1 k:=by
  cases hA2:A2 with
  | none =>
   have hc2:=hR.2.2.1 hA2;have hml:m=[]:=List.eq_nil_of_length_eq_zero (by have:=hR.1;omega);subst hml;subst hc2;obtain⟨ht,ie,zz,hie,hz,hsz,hbs,hzs,_⟩:=slS_ok hT hs;have hr:=run_append_owned_none (P:=P) w lo t o.type e ie sz ht hie _ l.length (flatF fe l) h5.2.1;refine⟨A,c,w,S1,by rw [bQ];exact hr,Chg.refl _ _,by rw [bQ];exact h5,λ_ h _=>h⟩
  | some ad =>
   refine OwnS.grow hT (d:=c2) (ad:=ad) o.type hs h0 h5 hR.2.2.2.1 (λj v hj=>?_) hb hm (Nat.le_trans hlo f3.chg.size);have hlen:=flatF_len hR.2.2.2.1;have hjl:=(bG.1 hj).1
   have hml:0<m.length:=by
    rcases Nat.eq_zero_or_pos m.length with h|h
    ·rw [hlen,h,Nat.zero_mul] at hjl
     omega
    ·exact h
   obtain⟨bb,oo,e,_,hcell⟩:=hR.2.2.2.2 hml;rw [hA2] at e
   injection e with e
   subst e
   have hq:j/sz<m.length:=by
    rw [hlen] at hjl;exact Nat.div_lt_of_lt_mul (by rwa [Nat.mul_comm] at hjl)
   obtain⟨B,Z,h9,h10,_⟩:=flatF_split hR.2.2.2.1 (aJ hq);have hmod:=Nat.div_add_mod j sz;have hlt:=Nat.mod_lt j h0;have hcl:=(hR.2.2.2.1 _ (List.getElem_mem hq)).2
   have hv:(fe m[j/sz]).cl[j%sz]?=some v:=by
    rw [h9,List.getElem?_append_right (by omega),h10,List.getElem?_append_left (by omega)] at hj
    rwa [show j-sz*(j/sz)=j%sz by omega] at hj
   have:=hcell (j/sz) _ (aJ hq) (j%sz) v hv;rw [Addr.add_mid]
   rwa [Nat.add_assoc,hmod] at this
 obtain⟨A',c',w',S',hr,hch,ho',hS'⟩:=key;obtain⟨S'',h6⟩:=hput _ _ _ hch ho' hS'
 refine wpl_go (v:=.slice A' (l++m).length c') (w':=w') (oneS hg) (by
  unfold execOp
  simp only [ho,resolve,invoke,builtin,aG,aH,aD,List.map_toArray,List.map_cons,List.map_nil,e1,e2,SV.den,SQ.den,SC.den,hr]) ?_
 rw [hd];exact hc A' c' _ _ ⟨G,S'',f1.put hk _,f2.cons trivial,h6⟩
end
theorem rd_part{j off n:Nat}{l:List UInt8}{L:List LV}{R:List Res}{F M:World->Prop}(ps:List Pt)(hj:lookL L j=some ps)(hat:atP ps off=some (.agg n (By l).toArray))(hl:l.length=n)(hm:n<=9223372036854775807):∀G S w,View G S L R F M w->Rd 1 eB (some ⟨G j,off,none⟩) n l w:=λG S w hv=>by
 obtain⟨z,hz,rfl,hps⟩:=lookL_mem hj;have hb:=(hv.var z hz).1;have hok:=(hv.var z hz).2.1;rw [hps] at hb hok;obtain⟨_,A,Z,e,hA⟩:=atP_ok hok hat;have hr:=range_of hb e;rw [hA] at hr;refine⟨Nat.le_of_eq hl,hm,λh=>(by cases h),okF_B l,λ_=>⟨G z.j,off,rfl,hb.lt,λi x hi j v hj=>?_⟩⟩
 cases j with
 | zero =>
  have e:v = .int .u8 (x.toNat:Int):=(cO ((show(eB x).cl[0]?=some (.int .u8 (x.toNat:Int)) from rfl).symm.trans hj)).symm;obtain⟨h2,h3⟩:=bG.1 hi;have h4:=By_at? h2;rw [getElem!_pos l i h2,h3] at h4;have h5:=hr i (.int .u8 (x.toNat:Int)) (by simpa [Pt.cells] using h4);rw [e,Nat.one_mul,Nat.add_zero];exact h5
 | succ j =>
  have:(eB x).cl[j+1]?=none:=rfl;rw [this] at hj
  cases hj
abbrev newB(l:List UInt8):Post PX:={ ret:=λx=>.v (.slice x.1 l.length x.2),own:=λ_=>[],n:=λx=>Rd 1 eB x.1 x.2 l }
structure ND where
  k:Nat
  key:List UInt8
  val:List UInt8
  l:Int
  r:Int
def At(ns:List ND):PW->Nat->Prop
  | .empty,n=>ns[n]?=some ⟨0,dE,dE, -1, -1⟩
  | .leaf p,n=>ns[n]?=some ⟨1,p.1,p.2, -1, -1⟩
  | .inner a b,n=>∃i j:Nat,ns[n]?=some ⟨2,dE,dE,i,j⟩/\At ns a i/\At ns b j
  | .hid h,n=>ns[n]?=some ⟨3,dE,h, -1, -1⟩
def PW.Good:PW->Prop
  | .empty=>True
  | .leaf p=>OkT2 p
  | .inner a b=>Good a/\Good b
  | .hid h=>h.length=32
theorem PW.Right.good:∀{way:List Nat} {w:PW},PW.Right way w->w.Good
 | _,.empty,_=>trivial
 | _,.leaf _,h=>⟨h.1,h.2.1⟩
 | _,.inner _ _,h=>⟨h.2.1.good,h.2.2.1.good⟩
 | _,.hid _,h=>h
theorem PW.Good.root_len:∀{w:PW},w.Good->w.root.length=32
 | .empty,_=>rfl
 | .leaf _,_=>digest256_len _
 | .inner _ _,_=>digest256_len _
 | .hid _,h=>h
namespace PW
def ty:PW->TypeId
  | .empty=>154
  | .leaf _=>160
  | .inner _ _=>167
  | .hid _=>156
def val:PW->Value
  | .empty=>.iface 154 (SQ.p []).den
  | .leaf p=>.iface 160 (SQ.p [.agg 32 (By (gX p)).toArray,.agg 32 (By p.1).toArray,.agg 32 (By p.2).toArray]).den
  | .inner a b=>.iface 167 (SQ.p [.agg 32 (By (fM a.root b.root)).toArray,.agg 2 #[a.val,b.val]]).den
  | .hid h=>.iface 156 (SQ.p [.agg 32 (By h).toArray]).den
def ps:PW->List Pt
  | .empty=>[]
  | .leaf p=>[.agg 32 (By (gX p)).toArray,.agg 32 (By p.1).toArray,.agg 32 (By p.2).toArray]
  | .inner a b=>[.agg 32 (By (fM a.root b.root)).toArray,.agg 2 #[a.val,b.val]]
  | .hid h=>[.agg 32 (By h).toArray]
theorem val_eq(w:PW):w.val = .iface w.ty (SQ.p w.ps).den:=by cases w<;>rfl
theorem val_cells(w:PW):w.val.cells = #[w.val]:=by cases w<;>rfl
theorem val_one(w:PW):w.val.oneCell'=true:=by cases w<;>rfl
end PW
theorem agg_ok{l:List UInt8}(h:l.length=32):(Pt.agg 32 (By l).toArray).Ok:=(eY_ok h).1 _ (by simp [SQ.parts1,eY])
def sdW(a b:PW):List Pt:=[.agg 2 #[a.val,b.val]]
theorem sdW_ok(a b:PW):OkP (sdW a b):=λp hp=>by
 rw [aF.1 hp];refine⟨rfl,λv hv=>?_⟩
 rcases aL.1 hv with rfl|hv
 ·exact a.val_one
 ·rw [aF.1 hv]
  exact b.val_one
theorem PW.ps_ok{w:PW}(h:w.Good):OkP w.ps:=by
 cases w with
 | empty=>intro p hp;cases hp
 | leaf p =>
  intro x hx
  simp only [PW.ps,aL,mN,or_false] at hx
  rcases hx with rfl|rfl|rfl
  ·exact agg_ok (digest256_len _)
  ·exact agg_ok h.1
  ·exact agg_ok h.2
 | inner a b =>
  intro x hx
  rcases aL.1 hx with rfl|hx
  ·exact agg_ok (digest256_len _)
  ·exact sdW_ok a b x hx
 | hid l =>
  intro x hx
  rw [aF.1 hx];exact agg_ok h
theorem own_wbit:Own 84:=λ_ _=>by go_simp
theorem wbit_S{k:List UInt8}(hk:k.length=32)(n:Nat)(hn:n<256):Spec 84 [(eY 32 k).den,.int .u8 (n:Int)] [] (λ_=>True) (one (.v (.int .u8 ((b6 k n:Nat):Int)))):=by
 refine spec_S [eY 32 k,.c (.v (.int .u8 (n:Int)))] 14 Tryz.func84 rfl (by rw [Tryz.ntmps84];rfl) (two_ok (eY_ok hk).1 trivial) λb=>?_;refine s_auto TY_ok rfl ?_;refine s_regA TY_ok rfl λK hK=>?_;refine l_num 6 ((n/8:Nat):Int) rfl (wrapB (by rw [Int.tdiv_eq_ediv_of_nonneg (by omega)];omega) (by omega) (by omega)) ?_;refine l_op (.a 2 (0+1*(n/8))) trivial rfl rfl rfl (runO_ixA (n/8) rfl Tryz.underlying45 rfl rfl rfl (by omega)) ?_;refine l_opV (.v (.int .u8 ((k[n/8]!).toNat:Int))) trivial rfl rfl rfl (runO_ldA _ rfl rfl rfl (row_at (by omega)) Tryz.underlying5 rfl) ?_;have hlt:=(k[n/8]!).toNat_lt;have hb:b6 k n=(k[n/8]!).toNat/2^(7-n%8)%2:=rfl;generalize (k[n/8]!).toNat=v at *;refine l_autoS TY_ok rfl ?_;refine l_num 11 ((7-n%8:Nat):Int) rfl (wrapB (by rw [Int.tmod_eq_emod_of_nonneg (by omega)];omega) (by omega) (by omega)) ?_;refine l_op (.v (.int .u8 ((v/2^(7-n%8):Nat):Int))) trivial rfl rfl rfl (run_shr8 (by omega) rfl rfl rfl) ?_;have h2:v/2^(7-n%8)<256:=c8 (Nat.div_le_self _ _) hlt;generalize v/2^(7-n%8)=z at *;refine l_op (.v (.int .u8 (bits .and .u8 (z:Int) 1))) trivial rfl rfl rfl (run_and8 rfl rfl rfl) ?_;refine l_num 13 ((z%2:Nat):Int) rfl (low1T z h2) ?_;refine l_autoS TY_ok rfl ?_;refine s_end (hK _ ?_);exact s_ret (k_ret TY_ok () rfl (by decide) rfl (congrArg (λx:Nat=>RV.v (.int .u8 (x:Int))) hb) rfl (λ_ _ _=>trivial) (λ_ _=>trivial))
def PW.rootF:PW->FuncId
  | .empty=>203
  | .leaf _=>207
  | .inner _ _=>209
  | .hid _=>205
theorem own_wroot(w:PW):Own w.rootF:=by
 cases w
 ·exact λ_ _=>by unfold PW.rootF;go_simp
 ·exact λ_ _=>by unfold PW.rootF;go_simp
 ·exact λ_ _=>by unfold PW.rootF;go_simp
 ·exact λ_ _=>by unfold PW.rootF;go_simp
theorem has_root(w:PW):ownM Tryz.prog w.ty "witan/witness.root" w.rootF=true:=by
 cases w
 ·show ownM Tryz.prog 154 "witan/witness.root" 203 = true
  kernel_rfl
 ·show ownM Tryz.prog 160 "witan/witness.root" 207 = true
  kernel_rfl
 ·show ownM Tryz.prog 167 "witan/witness.root" 209 = true
  kernel_rfl
 ·show ownM Tryz.prog 156 "witan/witness.root" 205 = true
  kernel_rfl
theorem wroot_S{w:PW}(h:w.Good):Spec w.rootF [(SQ.p w.ps).den] [] (λ_=>True) (one (.q (eY 32 w.root))):=by
 cases w with
 | empty =>
  refine spec_S [.p []] 4 Tryz.func203 rfl (by rw [Tryz.ntmps203];rfl) (one_ok (PW.ps_ok h)) λb=>?_;refine s_auto TY_ok rfl ?_;refine s_auto TY_ok rfl ?_;exact s_ret (k_ret TY_ok () rfl (by decide) rfl rfl rfl (λ_ _ _=>trivial) (λ_ _=>trivial))
 | leaf p =>
  refine spec_S [.p (PW.leaf p).ps] 5 Tryz.func207 rfl (by rw [Tryz.ntmps207];rfl) (one_ok (PW.ps_ok h)) λb=>?_;refine s_auto TY_ok rfl ?_;refine s_auto TY_ok rfl ?_;exact s_ret (k_ret TY_ok () rfl (by decide) rfl rfl rfl (λ_ _ _=>trivial) (λ_ _=>trivial))
 | inner a b =>
  refine spec_S [.p (PW.inner a b).ps] 5 Tryz.func209 rfl (by rw [Tryz.ntmps209];rfl) (one_ok (PW.ps_ok h)) λb=>?_;refine s_auto TY_ok rfl ?_;refine s_auto TY_ok rfl ?_;exact s_ret (k_ret TY_ok () rfl (by decide) rfl rfl rfl (λ_ _ _=>trivial) (λ_ _=>trivial))
 | hid l =>
  refine spec_S [.p (PW.hid l).ps] 5 Tryz.func205 rfl (by rw [Tryz.ntmps205];rfl) (one_ok (PW.ps_ok h)) λb=>?_;refine s_auto TY_ok rfl ?_;refine s_auto TY_ok rfl ?_;exact s_ret (k_ret TY_ok () rfl (by decide) rfl rfl rfl (λ_ _ _=>trivial) (λ_ _=>trivial))
end Go.Proofs.YtlhlkofpjhpaoaaGreatDoor
namespace Go.Proofs.YtlhlkofpjhpaoaaGreatDoor
open Go.RowKit Go.IntWalk Nums
section
variable{b:Base}{ops:Array Oper}{Q:Exit->Act->World->Prop}{N:Nat}{E:SE}{L:List LV}{R R' own:List Res}{F M F':World->Prop}{o:Oper}{rest:List Oper}{k:Nat}{α:Type}{post:Post α}{f:FuncId}{x:Operand}{name:String}{xs:Array Operand}{ats:Array TypeId}{svs:List SV}{G:Nat->Nat}{S:Nat->Prop}{w0:World}{Z:Act->Prop}{W:PW}
theorem l_callW(args:List Value)(hg:o.guard=none)(hd:o.dst=some k)(hk:aQ k N=true)(hf:Own f)(ho:o.op = .call { callee:=.invoke x name,args:=xs,argTypes:=ats })(hx0:evS E x=some (.v W.val))(hm:ownM Tryz.prog W.ty name f=true)(hx:evSs E xs.toList=some svs)
 (ha:∀G:Nat->Nat,(∀x∈L,∀g,x.g=some g->G x.j=g)->svs.map (SV.den G)=args)(hs:Spec f ((SQ.p W.ps).den::args) own F' post)(hF:∀w,F w->M w->F' w)
 (hn:∀x,lS Tryz.prog b ops Q N rest ⟨(k,(post.ret x).sv)::E,L,post.own x++R',λw=>post.p x w/\F w,λw=>post.n x w/\M w⟩):lS Tryz.prog b ops Q N (o::rest) ⟨E,L,own++R',F,M⟩ :=
 l_callI args hg hd hk hf ho (by rw [hx0,W.val_eq]) hm hx ha hs hF hn
theorem n_callW{r:RV}(hst:StW b G S L R F M w0)(args:List Value)(hg:o.guard=none)(hd:o.dst=some k)(hk:aQ k N=true)(hf:Own f)(ho:o.op = .call { callee:=.invoke x name,args:=xs,argTypes:=ats })(hx0:evS E x=some (.v W.val))(hm:ownM Tryz.prog W.ty name f=true)(hx:evSs E xs.toList=some svs)
 (ha:svs.map (SV.den G)=args)(hs:Spec f ((SQ.p W.ps).den::args) [] (λ_=>True) (one r))(hr:r.sv.Ok)
 (hn:nS Tryz.prog ops N w0 Z G rest ((k,r.sv)::E)):nS Tryz.prog ops N w0 Z G (o::rest) E:=by
 refine n_f hst r.sv hr (λC0 Q' _ hQ=>λa ha'=>?_) hn;rw [RV.sv_den] at hQ;refine b_call1 (f:=f) (args:=((SQ.p W.ps).den::args).toArray) (v:=r.den) (by simp [Region.wanted,hg]) (λw _=>(hs w (λ_=>False) (λ_=>False) (λ_ h=>h) (λ_ h=>h.elim) (λ_ _=>trivial)).mono λ_ _ ⟨_,_,h1,_,h2,_⟩=>⟨h1,h2.up λ_ _ h=>h⟩) (λw=>?_) (by rw [hd];exact hQ _ (ha'.put hk _))
 have h0:a.eval x = .iface W.ty (SQ.p W.ps).den:=by rw [<-W.val_eq];exact ha'.eval (evS_ok hx0)
 have h1:=run_callI hf hm ho h0 w;rw [map_eval (args:=(svs.map (SV.den G)).toArray) (ha'.evals _ _ (by rw [evSs_ok hx])),ha,show #[(SQ.p W.ps).den]++args.toArray=((SQ.p W.ps).den::args).toArray by simp] at h1;exact h1
end
theorem own_wleafOf:Own 119:=λ_ _=>by go_simp
def lfQ(p:PairT):SQ:=.p (PW.leaf p).ps
theorem wleafOf_S{p:PairT}(hp:OkT2 p):Spec 119 [(eY 32 p.1).den,(eY 32 p.2).den] [] Tsh (one (.q (lfQ p))):=by
 refine spec_S [eY 32 p.1,eY 32 p.2] 13 Tryz.func119 rfl (by rw [Tryz.ntmps119];rfl) (two_ok (eY_ok hp.1).1 (eY_ok hp.2).1) λb=>?_;refine s_auto TY_ok rfl ?_;refine s_regH 8 (by decide) (by kernel_rfl) (by kernel_rfl) λK hK G S w0 hst=>?_;refine h_lit TY_ok [(0:UInt8)] rfl rfl rfl rfl rfl rfl (λ_=>rfl) rfl (by decide) (by decide) λB=>?_;refine h_op hst (.s 2 0 32 32) trivial rfl rfl rfl rfl (runO_all rfl Tryz.underlying45 rfl rfl) ?_;refine h_op hst (.s 3 0 32 32) trivial rfl rfl rfl rfl (runO_all rfl Tryz.underlying45 rfl rfl) ?_;refine h_parts [.slice (some ⟨B,0,none⟩) 1 1,(SV.s 2 0 32 32).den G,(SV.s 3 0 32 32).den G] [[0],p.1,p.2] hst rfl rfl rfl rfl rfl rfl rfl (by decide) (by decide) (λw hw hu=>?_) λA=>?_
 ·have h2:Rd 1 eB (some ⟨B,0,none⟩) 1 [0] w:=hu 0 _ rfl (by kernel_rfl)
  exact⟨h2.sb,sb_var (j:=2) rfl hp.1 (by decide) G S w hw,sb_var (j:=3) rfl hp.2 (by decide) G S w hw,trivial⟩
 refine h_call (r:=.q (eY 32 (gX p))) hst [.slice (some ⟨A,0,none⟩) 3 3] rfl rfl rfl rfl own_tsum rfl rfl (λ_=>rfl) (eY_ok (n:=32) (digest256_len _)).1 (λw hw hu=>?_) ?_
 ·have hA:PT w (some ⟨A,0,none⟩) [[0],p.1,p.2]:=hu 3 _ rfl (by kernel_rfl)
  have hr2:=sum256_f (some ⟨A,0,none⟩) [[0],p.1,p.2] 3 w hw.fact hA (by simp) (by simp)
  have e:gX p=b9 bL [[0],p.1,p.2].flatten:=by simp [gX]
  show Calls Tryz.prog _ _ w λe w'=>e = .returned (.agg (By (gX p)).toArray)/\_
  rw [e];exact hr2
 refine h_auto TY_ok hst rfl ?_;refine h_end hst ?_;refine l_autoS TY_ok rfl ?_;refine s_end (hK _ ?_);exact s_ret (k_ret TY_ok () rfl (by decide) rfl rfl rfl (λ_ _ _=>trivial) (λ_ _=>trivial))
theorem own_winnerOf:Own 123:=λ_ _=>by go_simp
theorem winnerOf_S{x y:PW}(hx:x.Good)(hy:y.Good):Spec 123 [.agg #[x.val,y.val]] [] Tsh (one (.q (.p (PW.inner x y).ps))):=by
 refine spec_S [.p (sdW x y)] 18 Tryz.func123 rfl (by rw [Tryz.ntmps123];rfl) (one_ok (sdW_ok x y)) λb=>?_;have hx32:=hx.root_len;have hy32:=hy.root_len
 have sz:∀l:List UInt8,l.length=32->(By l).toArray.size=32:=λl h=>by rw [aU,By_len,h]
 refine s_auto TY_ok rfl ?_;refine s_new 6 [⟨3,45,(By dE).toArray⟩,⟨4,45,(By dE).toArray⟩] (by decide) rfl ⟨⟨rfl,rfl,rfl,rfl,rfl⟩,⟨rfl,rfl,rfl,rfl,rfl⟩,trivial⟩ (by kernel_rfl) (by kernel_rfl) (by kernel_rfl) λK hK G S w0 hst=>?_;refine n_op hst (.a 1 (0+1*0)) trivial rfl rfl rfl (runO_ixA 0 rfl Tryz.underlying165 rfl rfl rfl (by decide)) ?_;refine n_opV hst (.v x.val) trivial rfl rfl rfl (runO_ldA _ rfl rfl rfl rfl Tryz.underlying89 rfl) ?_;refine n_callW hst [] rfl rfl rfl (own_wroot x) rfl rfl (has_root x) rfl rfl (wroot_S hx) (eY_ok hx32).1 ?_;refine n_op hst (.a 1 (0+1*1)) trivial rfl rfl rfl (runO_ixA 1 rfl Tryz.underlying165 rfl rfl rfl (by decide)) ?_;refine n_opV hst (.v y.val) trivial rfl rfl rfl (runO_ldA _ rfl rfl rfl rfl Tryz.underlying89 rfl) ?_;refine n_callW hst [] rfl rfl rfl (own_wroot y) rfl rfl (has_root y) rfl rfl (wroot_S hy) (eY_ok hy32).1 ?_;refine n_new hst [⟨3,none,45,[.agg 32 (By x.root).toArray]⟩,⟨4,none,45,[.agg 32 (By y.root).toArray]⟩] [(By dE).toArray,(By dE).toArray] [.tmp 7,.tmp 10] rfl rfl rfl (λu hu=>?_) ⟨rfl,rfl,trivial⟩ rfl ⟨⟨rfl,rfl,rfl⟩,⟨rfl,rfl,rfl⟩,rfl⟩ ⟨⟨rfl,?_,?_,By_one _⟩,⟨rfl,?_,?_,By_one _⟩,trivial⟩ ?_
 ·rcases aL.1 hu with rfl|hu
  ·exact(eY_ok hx32).1
  ·rw [aF.1 hu]
   exact(eY_ok hy32).1
 ·exact(sz dE rfl).trans (sz _ hx32).symm
 ·show _=some (By x.root).toArray.size
  rw [sz _ hx32]
  rfl
 ·exact(sz dE rfl).trans (sz _ hy32).symm
 ·show _=some (By y.root).toArray.size
  rw [sz _ hy32]
  rfl
 refine s_end (hK _ ?_);refine s_keep [1,2,3,4] [1,2,3,4] rfl rfl ?_;refine s_regH 7 (by decide) (by kernel_rfl) (by kernel_rfl) λK hK G S w0 hst=>?_;refine h_lit TY_ok [(1:UInt8)] rfl rfl rfl rfl rfl rfl (λ_=>rfl) rfl (by decide) (by decide) λB=>?_;refine h_op hst (.s 3 0 32 32) trivial rfl rfl rfl rfl (runO_all rfl Tryz.underlying45 rfl rfl) ?_;refine h_op hst (.s 4 0 32 32) trivial rfl rfl rfl rfl (runO_all rfl Tryz.underlying45 rfl rfl) ?_;refine h_parts [.slice (some ⟨B,0,none⟩) 1 1,(SV.s 3 0 32 32).den G,(SV.s 4 0 32 32).den G] [[1],x.root,y.root] hst rfl rfl rfl rfl rfl rfl rfl (by decide) (by decide) (λw hw hu=>?_) λA=>?_
 ·have h2:Rd 1 eB (some ⟨B,0,none⟩) 1 [1] w:=hu 0 _ rfl (by kernel_rfl)
  exact⟨h2.sb,sb_var (j:=3) rfl hx32 (by decide) G S w hw,sb_var (j:=4) rfl hy32 (by decide) G S w hw,trivial⟩
 refine h_call (r:=.q (eY 32 (fM x.root y.root))) hst [.slice (some ⟨A,0,none⟩) 3 3] rfl rfl rfl rfl own_tsum rfl rfl (λ_=>rfl) (eY_ok (n:=32) (digest256_len _)).1 (λw hw hu=>?_) ?_
 ·have hA:PT w (some ⟨A,0,none⟩) [[1],x.root,y.root]:=hu 3 _ rfl (by kernel_rfl)
  have hr2:=sum256_f (some ⟨A,0,none⟩) [[1],x.root,y.root] 3 w hw.fact hA (by simp) (by simp)
  have e:fM x.root y.root=b9 bL [[1],x.root,y.root].flatten:=by simp [fM]
  show Calls Tryz.prog _ _ w λe w'=>e = .returned (.agg (By (fM x.root y.root)).toArray)/\_
  rw [e];exact hr2
 refine h_auto TY_ok hst rfl ?_;refine h_end hst ?_;refine l_autoS TY_ok rfl ?_;refine s_end (hK _ ?_);exact s_ret (k_ret TY_ok () rfl (by decide) rfl rfl rfl (λ_ _ _=>trivial) (λ_ _=>trivial))
section
variable{N:Nat}{E:SE}{o:Oper}{x:Operand}{W:PW}
theorem run_nilI(ho:o.op = .nilCheck x)(hx:evS E x=some (.v W.val)) :
  ∀(G:Nat->Nat) (a:Act) (w:World),Fr N (denE G E) a->(execOp a.eval o).run Tryz.prog w = .ok (.value ((SV.v W.val).den G)) w:=λG a w ha=>by
 have h1:a.eval x=W.val:=ha.eval (evS_ok hx)
 unfold execOp
 rw [ho]
 dsimp only
 rw [h1,W.val_eq]
 rfl
end
theorem row32{l:List UInt8}(h:l.length=32):(By l).toArray.size=32:=by rw [aU,By_len,h]
theorem inner_cell{a b:PW}:(catP (PW.inner a b).ps)[32]?=some a.val/\(catP (PW.inner a b).ps)[33]?=some b.val:=by
 have h:=row32 (l:=fM a.root b.root) (digest256_len _)
 show((By (fM a.root b.root)).toArray ++ #[a.val,b.val])[32]?=_/\((By (fM a.root b.root)).toArray ++ #[a.val,b.val])[33]?=_
 rw [qL (by omega),qL (by omega),h];exact⟨rfl,rfl⟩
def PW.layF:PW->FuncId
  | .empty=>202
  | .leaf _=>206
  | .inner _ _=>208
  | .hid _=>204
theorem own_wlay(w:PW):Own w.layF:=by
 cases w
 ·exact λ_ _=>by unfold PW.layF;go_simp
 ·exact λ_ _=>by unfold PW.layF;go_simp
 ·exact λ_ _=>by unfold PW.layF;go_simp
 ·exact λ_ _=>by unfold PW.layF;go_simp
theorem has_lay(w:PW):ownM Tryz.prog w.ty "witan/witness.lay" w.layF=true:=by
 cases w
 ·show ownM Tryz.prog 154 "witan/witness.lay" 202 = true
  kernel_rfl
 ·show ownM Tryz.prog 160 "witan/witness.lay" 206 = true
  kernel_rfl
 ·show ownM Tryz.prog 167 "witan/witness.lay" 208 = true
  kernel_rfl
 ·show ownM Tryz.prog 156 "witan/witness.lay" 204 = true
  kernel_rfl
abbrev outO(l:List UInt8):Post PX:={ ret:=λx=>.v (.slice x.1 l.length x.2),own:=λx=>[OwnS 0 5 1 eB x.1 x.2 l] }
theorem wlay_S:∀(w:PW),w.Good->∀(A:Option Addr) (c:Nat) (l:List UInt8),l.length+w.bytes.length<=1000000->Spec w.layF [(SQ.p w.ps).den,.slice A l.length c] [OwnS 0 5 1 eB A c l] (λ_=>True) (outO (l++w.bytes)):=by
 intro w
 induction w with
 | empty =>
  intro hg A c l hl
  refine spec_S [.p [],.c (.v (.slice A l.length c))] 8 Tryz.func202 rfl (by rw [Tryz.ntmps202];rfl) (two_ok (PW.ps_ok hg) trivial) λb=>?_;have hl:l.length+1<=1000000:=hl;refine s_auto TY_ok rfl ?_;refine s_regA TY_ok rfl λK hK=>?_;refine l_push TY_ok 0 (0:UInt8) rfl rfl rfl rfl rfl rfl rfl (okF_B [0] 0 aP) (by decide) (by decide) (by show(l.length+1)*1<=_;omega) (by omega) (aI _) λA1 c1=>?_;refine l_autoS TY_ok rfl ?_;refine s_end (hK _ ?_);exact s_ret (k_ret TY_ok (A1,c1) rfl (by decide) rfl rfl rfl (λ_ _ _=>trivial) (λ_ _=>trivial))
 | leaf p =>
  intro hg A c l hl
  have hp:OkT2 p:=hg
  have e:l++(PW.leaf p).bytes=l++[1]++p.1++p.2:=by simp [PW.bytes]
  have hl:l.length+(1+64)<=1000000:=by
   have:(PW.leaf p).bytes.length=1+64:=by simp [PW.bytes,hp.1,hp.2]
   omega
  rw [e];refine spec_S [.p (PW.leaf p).ps,.c (.v (.slice A l.length c))] 14 Tryz.func206 rfl (by rw [Tryz.ntmps206];rfl) (two_ok (PW.ps_ok hg) trivial) λb=>?_;refine s_auto TY_ok rfl ?_;refine s_seq λK hK=>?_;refine s_anyP [0,3,4,6,7] 8 2 (λ_=>True) (by kernel_rfl) rfl (λ_ _ _=>trivial) ?_;refine p_frontS (L0:=[]) TY_ok 0 (by kernel_rfl) rfl rfl rfl rfl rfl rfl (λ_ h=>by cases h) (λ_ _ _ h=>by cases h) ?_;refine p_frontS (L0:=[]) TY_ok 3 (by kernel_rfl) rfl rfl rfl rfl rfl rfl (λ_ h=>by cases h) (λ_ _ _ h=>by cases h) ?_;refine p_frontO (.s 2 32 32 32) trivial 4 (by kernel_rfl) rfl rfl rfl rfl rfl (runO_all rfl Tryz.underlying45 rfl rfl) ?_;refine p_frontS (L0:=[]) TY_ok 6 (by kernel_rfl) rfl rfl rfl rfl rfl rfl (λ_ h=>by cases h) (λ_ _ _ h=>by cases h) ?_;refine p_frontO (.s 2 64 32 32) trivial 7 (by kernel_rfl) rfl rfl rfl rfl rfl (runO_all rfl Tryz.underlying45 rfl rfl) ?_;refine p_step 1 (by kernel_rfl) rfl λK1 hK1=>?_;refine l_list TY_ok 0 [(1:UInt8)] rfl rfl rfl rfl rfl (λ_=>rfl) rfl (by decide) (by decide) (okF_B _) (aI _) λB=>?_;refine l_free 0 rfl ?_;refine s_end (hK1 _ (λ_ _ _=>trivial) ?_);refine p_step 2 (by kernel_rfl) rfl λK2 hK2=>?_;refine l_appY TY_ok 0 [(1:UInt8)] rfl rfl rfl rfl rfl rfl rfl rfl rfl (rd_fact λ_ h _=>h.1) (by decide) (by show(l.length+1)*1<=_;omega) (by show l.length+1<=_;omega) (aI _) λA1 c1=>?_;refine s_end (hK2 _ (λ_ _ _=>trivial) ?_);refine p_step 5 (by kernel_rfl) rfl λK3 hK3=>?_;refine l_appZ (A2':=λG=>some ⟨G 2,32,none⟩) (c2:=32) TY_ok 0 p.1 rfl rfl rfl rfl rfl rfl rfl (λ_=>by rw [hp.1];rfl) rfl rfl (rd_part (PW.leaf p).ps rfl rfl hp.1 (by decide)) (by decide) (by simp [hp.1];omega) (by simp [hp.1];omega) (aI _) λA2 c2=>?_;refine s_end (hK3 _ (λ_ _ _=>trivial) ?_);refine p_tail [8,9] (by kernel_rfl) rfl ?_;refine l_appZ (A2':=λG=>some ⟨G 2,64,none⟩) (c2:=32) TY_ok 0 p.2 rfl rfl rfl rfl rfl rfl rfl (λ_=>by rw [hp.2];rfl) rfl rfl (rd_part (PW.leaf p).ps rfl rfl hp.2 (by decide)) (by decide) (by simp [hp.1,hp.2];omega) (by simp [hp.1,hp.2];omega) (aI _) λA3 c3=>?_;refine l_autoS TY_ok rfl ?_;refine s_end (hK _ ?_);exact s_ret (k_ret TY_ok (A3,c3) rfl (by decide) rfl rfl rfl (λ_ _ _=>trivial) (λ_ _=>trivial))
 | hid h =>
  intro hg A c l hl
  have hp:h.length=32:=hg
  have e:l++(PW.hid h).bytes=l++[3]++h:=by simp [PW.bytes]
  have hl:l.length+(1+32)<=1000000:=by
   have:(PW.hid h).bytes.length=1+32:=by simp [PW.bytes,hp]
   omega
  rw [e];refine spec_S [.p (PW.hid h).ps,.c (.v (.slice A l.length c))] 11 Tryz.func204 rfl (by rw [Tryz.ntmps204];rfl) (two_ok (PW.ps_ok hg) trivial) λb=>?_;refine s_auto TY_ok rfl ?_;refine s_seq λK hK=>?_;refine s_anyP [0,3,4] 5 2 (λ_=>True) (by kernel_rfl) rfl (λ_ _ _=>trivial) ?_;refine p_frontS (L0:=[]) TY_ok 0 (by kernel_rfl) rfl rfl rfl rfl rfl rfl (λ_ h=>by cases h) (λ_ _ _ h=>by cases h) ?_;refine p_frontS (L0:=[]) TY_ok 3 (by kernel_rfl) rfl rfl rfl rfl rfl rfl (λ_ h=>by cases h) (λ_ _ _ h=>by cases h) ?_;refine p_frontO (.s 2 0 32 32) trivial 4 (by kernel_rfl) rfl rfl rfl rfl rfl (runO_all rfl Tryz.underlying45 rfl rfl) ?_;refine p_step 1 (by kernel_rfl) rfl λK1 hK1=>?_;refine l_list TY_ok 0 [(3:UInt8)] rfl rfl rfl rfl rfl (λ_=>rfl) rfl (by decide) (by decide) (okF_B _) (aI _) λB=>?_;refine l_free 0 rfl ?_;refine s_end (hK1 _ (λ_ _ _=>trivial) ?_);refine p_step 2 (by kernel_rfl) rfl λK2 hK2=>?_;refine l_appY TY_ok 0 [(3:UInt8)] rfl rfl rfl rfl rfl rfl rfl rfl rfl (rd_fact λ_ h _=>h.1) (by decide) (by show(l.length+1)*1<=_;omega) (by show l.length+1<=_;omega) (aI _) λA1 c1=>?_;refine s_end (hK2 _ (λ_ _ _=>trivial) ?_);refine p_tail [5,6] (by kernel_rfl) rfl ?_;refine l_appZ (A2':=λG=>some ⟨G 2,0,none⟩) (c2:=32) TY_ok 0 h rfl rfl rfl rfl rfl rfl rfl (λ_=>by rw [hp];rfl) rfl rfl (rd_part (PW.hid h).ps rfl rfl hp (by decide)) (by decide) (by simp [hp];omega) (by simp [hp];omega) (aI _) λA3 c3=>?_;refine l_autoS TY_ok rfl ?_;refine s_end (hK _ ?_);exact s_ret (k_ret TY_ok (A3,c3) rfl (by decide) rfl rfl rfl (λ_ _ _=>trivial) (λ_ _=>trivial))
 | inner x y ihx ihy =>
  intro hg A c l hl
  have e:l++(PW.inner x y).bytes=l++[2]++x.bytes++y.bytes:=by simp [PW.bytes]
  have hl:l.length+(1+x.bytes.length+y.bytes.length)<=1000000:=by
   have:(PW.inner x y).bytes.length=1+x.bytes.length+y.bytes.length:=by simp [PW.bytes];omega
   omega
  rw [e];refine spec_S [.p (PW.inner x y).ps,.c (.v (.slice A l.length c))] 20 Tryz.func208 rfl (by rw [Tryz.ntmps208];rfl) (two_ok (PW.ps_ok hg) trivial) λb=>?_;have hpo:=PW.ps_ok hg;obtain⟨hca,hcb⟩:=inner_cell (a:=x) (b:=y);generalize hps:(PW.inner x y).ps=ps at *;refine s_auto TY_ok rfl ?_;refine s_locs λG=>?_;have hsub:∀u∈([⟨2,some (G 2),167,ps⟩]:List LV),u∈withG G [⟨2,none,167,ps⟩]/\u.g.isSome=true:=λu hu=>⟨hu,by rw [aF.1 hu];rfl⟩;refine s_seq λK hK=>?_;refine s_anyP [0,1,2,3,4,5,6,9,10,12,13] 14 2 (InvL [⟨2,some (G 2),167,ps⟩]) (by kernel_rfl) rfl (inv_of hsub) ?_;refine p_frontS TY_ok 0 (by kernel_rfl) rfl rfl rfl rfl rfl rfl (λx hx=>(hsub x hx).1) (λ_ h=>h) ?_;refine p_frontO (.a 2 (0+32+1*1)) trivial 1 (by kernel_rfl) rfl rfl rfl rfl rfl (runO_ixA 1 rfl Tryz.underlying165 rfl rfl rfl (by decide)) ?_;refine p_frontA (.v y.val) trivial 2 (by kernel_rfl) rfl rfl rfl rfl rfl (λx hx=>(hsub x hx).1) (λ_ h=>h) (runO_ldL _ rfl rfl rfl hcb Tryz.underlying89 rfl) ?_;refine p_frontS TY_ok 3 (by kernel_rfl) rfl rfl rfl rfl rfl rfl (λx hx=>(hsub x hx).1) (λ_ h=>h) ?_;refine p_frontO (.a 2 (0+32+1*0)) trivial 4 (by kernel_rfl) rfl rfl rfl rfl rfl (runO_ixA 0 rfl Tryz.underlying165 rfl rfl rfl (by decide)) ?_;refine p_frontA (.v x.val) trivial 5 (by kernel_rfl) rfl rfl rfl rfl rfl (λx hx=>(hsub x hx).1) (λ_ h=>h) (runO_ldL _ rfl rfl rfl hca Tryz.underlying89 rfl) ?_;refine p_frontS TY_ok 6 (by kernel_rfl) rfl rfl rfl rfl rfl rfl (λx hx=>(hsub x hx).1) (λ_ h=>h) ?_;refine p_frontO (.v x.val) trivial 9 (by kernel_rfl) rfl rfl rfl rfl rfl (run_nilI rfl rfl) ?_;refine p_frontS TY_ok 10 (by kernel_rfl) rfl rfl rfl rfl rfl rfl (λx hx=>(hsub x hx).1) (λ_ h=>h) ?_;refine p_frontO (.v y.val) trivial 12 (by kernel_rfl) rfl rfl rfl rfl rfl (run_nilI rfl rfl) ?_;refine p_frontS TY_ok 13 (by kernel_rfl) rfl rfl rfl rfl rfl rfl (λx hx=>(hsub x hx).1) (λ_ h=>h) ?_;refine p_step 7 (by kernel_rfl) rfl λK1 hK1=>?_;refine l_list TY_ok 0 [(2:UInt8)] rfl rfl rfl rfl rfl (λ_=>rfl) rfl (by decide) (by decide) (okF_B _) (aI _) λB=>?_;refine l_free 0 rfl ?_;refine s_end (hK1 _ (inv_of hsub) ?_);refine p_step 8 (by kernel_rfl) rfl λK2 hK2=>?_;refine l_appY TY_ok 0 [(2:UInt8)] rfl rfl rfl rfl rfl rfl rfl rfl rfl (rd_fact λ_ h _=>h.1) (by decide) (by show(l.length+1)*1<=_;omega) (by show l.length+1<=_;omega) (aI _) λA1 c1=>?_;refine s_end (hK2 _ (inv_of hsub) ?_);refine p_step 11 (by kernel_rfl) rfl λK3 hK3=>?_;refine l_R ([OwnS 0 5 1 eB A1 c1 (l++[2])]++[]) rfl ?_;have hspx:=ihx hg.1 A1 c1 (l++[2]) (by rw [aB,a9];omega)
  refine l_callW (W:=x) (own:=[OwnS 0 5 1 eB A1 c1 (l++[2])]) (R':=[]) (post:=outO (l++[2]++x.bytes)) (F':=λ_=>True) (f:=x.layF) [.slice A1 (l++[2]).length c1] rfl rfl rfl (own_wlay x) rfl rfl (has_lay x) rfl (λ_ _=>rfl) ?_ ?_ ?_
  ·exact hspx
  ·exact λ_ _ _=>trivial
  rintro⟨A2,c2⟩
  refine s_end (hK3 _ (inv_of hsub) ?_);refine p_tail [14,15] (by kernel_rfl) rfl ?_;refine l_R ([OwnS 0 5 1 eB A2 c2 (l++[2]++x.bytes)]++[]) rfl ?_;have hspy:=ihy hg.2 A2 c2 (l++[2]++x.bytes) (by rw [aB,aB,a9];omega);refine l_callW (W:=y) (own:=[OwnS 0 5 1 eB A2 c2 (l++[2]++x.bytes)]) (R':=[]) (post:=outO (l++[2]++x.bytes++y.bytes)) (F':=λ_=>True) (f:=y.layF) [.slice A2 (l++[2]++x.bytes).length c2] rfl rfl rfl (own_wlay y) rfl rfl (has_lay y) rfl (λ_ _=>rfl) ?_ ?_ ?_
  ·exact hspy
  ·exact λ_ _ _=>trivial
  rintro⟨A3,c3⟩
  refine l_autoS TY_ok rfl ?_;refine s_end (hK _ ?_);exact s_ret (k_ret TY_ok (A3,c3) rfl (by decide) rfl rfl rfl (λ_ _ _=>trivial) (λ_ _=>trivial))
section
variable{P:Program}{ti a b:TypeId}{ms:Array (String×TypeId)}{v u:Value}{w:World}
theorem equalI_ne(d:Nat)(hi:P.underlying ti=some (.interface ms))(hne:a≠b):(b7 (d+1) ti (.iface a v) (.iface b u)).run P w = .ok false w:=by
 rw [b7];simp only [aG,run_underlying hi,aD,if_pos hne,aH]
theorem equalI_eq(d:Nat){i:TypeInfo}(hi:P.underlying ti=some (.interface ms))(hinfo:P.info? a=some i)(hc:i.comparable=true):(b7 (d+1) ti (.iface a v) (.iface a u)).run P w=(b7 d a v u).run P w:=by
 rw [b7]
 simp [run_underlying hi,typeInfo,hinfo,hc]
theorem eq_iface{r:Bool}(hne:(b7 10000 ti (.iface a v) (.iface b u)).run P w = .ok r w):(binOp .eql ti (.iface a v) (.iface b u)).run P w = .ok (.bool r) w:=by
 simp only [binOp]
 simp [Op.equal,Op.maxDepth,hne]
theorem guard_iface{op:BinOp}{x y:Operand}:(eqGuard op ti x y (.iface a v) (.iface b u)).run P w = .ok () w:=by
 cases op<;>simp [eqGuard]
end
theorem fields_empty:Tryz.prog.underlying 154 = some (.struct (Tryz.prog.fieldsOf 154))/\(Tryz.prog.fieldsOf 154).toList=[]:=by
 unfold Program.fieldsOf
 rw [Tryz.underlying154];exact⟨rfl,rfl⟩
theorem comparable_empty:(Tryz.prog.info? 154).map (·.comparable)=some true:=by kernel_rfl
theorem stood_empty:Tryz.prog.stoodInHeld 154 = false:=by kernel_rfl
def PW.isE:PW->Bool
  | .empty=>true
  | _=>false
section
variable{N:Nat}{E:SE}{o:Oper}{x y:Operand}{t':TypeId}{W:PW}
theorem run_isE(ho:o.op = .binOp .eql 89 x y t')(hx:evS E x=some (.v W.val))(hy:evS E y=some (.v PW.empty.val)) :
  ∀(G:Nat->Nat) (a:Act) (w:World),Fr N (denE G E) a->(execOp a.eval o).run Tryz.prog w = .ok (.value ((SV.v (.bool W.isE)).den G)) w:=λG a w ha=>by
 have h1:a.eval x = .iface W.ty (SQ.p W.ps).den:=by rw [<-W.val_eq];exact ha.eval (evS_ok hx)
 have h2:a.eval y = .iface 154 (.agg #[]):=ha.eval (evS_ok hy);obtain⟨i,hi,hc⟩:=Option.map_eq_some_iff.1 comparable_empty
 have key:(b7 10000 89 (.iface W.ty (SQ.p W.ps).den) (.iface 154 (.agg #[]))).run Tryz.prog w = .ok W.isE w:=by
  cases W with
  | empty =>
   show(b7 (9999+1) 89 (.iface 154 (.agg #[])) (.iface 154 (.agg #[]))).run Tryz.prog w = .ok true w
   rw [equalI_eq 9999 Tryz.underlying89 hi hc,run_equalIn_struct w 9998 _ _ _ fields_empty.1 stood_empty,fields_empty.2,Op.eqFields,aH]
  | leaf=>exact equalI_ne 9999 Tryz.underlying89 (by show(160 : Nat) ≠ 154;decide)
  | inner=>exact equalI_ne 9999 Tryz.underlying89 (by show(167 : Nat) ≠ 154;decide)
  | hid=>exact equalI_ne 9999 Tryz.underlying89 (by show(156 : Nat) ≠ 154;decide)
 unfold execOp
 simp only [ho,h1,h2,aG,guard_iface,aD,eq_iface key,aH]
 rfl
end
def PW.top:PW->Value
  | .empty=>.nilIface
  | w=>w.val
theorem PW.top_ok(w:PW):w.top.oneCell'=true/\w.top.cells = #[w.top]:=by cases w<;>exact⟨rfl,rfl⟩
def prQ(w:PW):SQ:=.p [.one (.v w.top)]
theorem prQ_ok(w:PW):(prQ w).Ok:=λp hp=>by
 rw [aF.1 hp];exact⟨trivial,w.top_ok⟩
theorem own_wpart:Own 55:=λ_ _=>by go_simp
theorem own_wnode:Own 57:=λ_ _=>by go_simp
theorem wpart_S(w:PW):Spec 55 [w.val] [] (λ_=>True) (one (.q (prQ w))):=by
 refine spec_S [.c (.v w.val)] 10 Tryz.func55 rfl (by rw [Tryz.ntmps55];rfl) (one_ok trivial) λb=>?_;refine s_auto TY_ok rfl ?_;refine s_seq λK hK=>?_;refine s_regA TY_ok rfl λK1 hK1=>?_;refine l_op (.v PW.empty.val) trivial rfl rfl rfl (run_mkI rfl Tryz.underlying154 rfl rfl) ?_;refine l_op (.v (.bool w.isE)) trivial rfl rfl rfl (run_isE rfl rfl rfl) ?_;refine s_end (hK1 _ ?_)
 cases w with
 | empty =>
  refine s_yes rfl ?_;refine s_auto TY_ok rfl ?_;exact s_ret (k_ret TY_ok () rfl (by decide) rfl rfl rfl (λ_ _ _=>trivial) (λ_ _=>trivial))
 | leaf =>
  refine s_no rfl ?_;refine s_skip (hK _ ?_);refine s_auto TY_ok rfl ?_;exact s_ret (k_ret TY_ok () rfl (by decide) rfl rfl rfl (λ_ _ _=>trivial) (λ_ _=>trivial))
 | inner =>
  refine s_no rfl ?_;refine s_skip (hK _ ?_);refine s_auto TY_ok rfl ?_;exact s_ret (k_ret TY_ok () rfl (by decide) rfl rfl rfl (λ_ _ _=>trivial) (λ_ _=>trivial))
 | hid =>
  refine s_no rfl ?_;refine s_skip (hK _ ?_);refine s_auto TY_ok rfl ?_;exact s_ret (k_ret TY_ok () rfl (by decide) rfl rfl rfl (λ_ _ _=>trivial) (λ_ _=>trivial))
theorem wnode_S(w:PW):Spec 57 [(prQ w).den] [] (λ_=>True) (one (.v w.val)):=by
 refine spec_S [prQ w] 10 Tryz.func57 rfl (by rw [Tryz.ntmps57];rfl) (one_ok (prQ_ok w)) λb=>?_;refine s_auto TY_ok rfl ?_;refine s_seq λK hK=>?_
 cases w with
 | empty =>
  refine s_regA TY_ok rfl λK1 hK1=>?_;refine l_op (.v (.bool true)) trivial rfl rfl rfl (run_eqNilN _ Tryz.underlying89 rfl rfl) ?_;refine s_end (hK1 _ ?_);refine s_yes rfl ?_;refine s_regA TY_ok rfl λK2 hK2=>?_;refine l_op (.v PW.empty.val) trivial rfl rfl rfl (run_mkI rfl Tryz.underlying154 rfl rfl) ?_;refine l_autoS TY_ok rfl ?_;refine s_end (hK2 _ ?_);exact s_ret (k_ret TY_ok () rfl (by decide) rfl rfl rfl (λ_ _ _=>trivial) (λ_ _=>trivial))
 | leaf p =>
  refine s_regA TY_ok rfl λK1 hK1=>?_;refine l_op (.v (.bool false)) trivial rfl rfl rfl (run_eqNilI _ Tryz.underlying89 rfl rfl) ?_;refine s_end (hK1 _ ?_);refine s_no rfl ?_;refine s_skip (hK _ ?_);refine s_auto TY_ok rfl ?_;exact s_ret (k_ret TY_ok () rfl (by decide) rfl rfl rfl (λ_ _ _=>trivial) (λ_ _=>trivial))
 | inner x y =>
  refine s_regA TY_ok rfl λK1 hK1=>?_;refine l_op (.v (.bool false)) trivial rfl rfl rfl (run_eqNilI _ Tryz.underlying89 rfl rfl) ?_;refine s_end (hK1 _ ?_);refine s_no rfl ?_;refine s_skip (hK _ ?_);refine s_auto TY_ok rfl ?_;exact s_ret (k_ret TY_ok () rfl (by decide) rfl rfl rfl (λ_ _ _=>trivial) (λ_ _=>trivial))
 | hid h =>
  refine s_regA TY_ok rfl λK1 hK1=>?_;refine l_op (.v (.bool false)) trivial rfl rfl rfl (run_eqNilI _ Tryz.underlying89 rfl rfl) ?_;refine s_end (hK1 _ ?_);refine s_no rfl ?_;refine s_skip (hK _ ?_);refine s_auto TY_ok rfl ?_;exact s_ret (k_ret TY_ok () rfl (by decide) rfl rfl rfl (λ_ _ _=>trivial) (λ_ _=>trivial))
theorem own_wRoot:Own 40:=λ_ _=>by go_simp
theorem own_wBytes:Own 35:=λ_ _=>by go_simp
theorem wRoot_S{w:PW}(h:w.Good):Spec 40 [(prQ w).den] [] (λ_=>True) (one (.q (eY 32 w.root))):=by
 refine spec_S [prQ w] 6 Tryz.func40 rfl (by rw [Tryz.ntmps40];rfl) (one_ok (prQ_ok w)) λb=>?_;refine s_auto TY_ok rfl ?_;refine s_regA TY_ok rfl λK hK=>?_;refine l_call0 [(prQ w).den] rfl rfl rfl own_wnode rfl rfl (λ_ _=>rfl) (wnode_S w) (λ_ _ _=>trivial) λ_=>?_;have hr:=wroot_S h;refine l_R ([]++[]) rfl ?_;refine l_callW (W:=w) (own:=[]) (R':=[]) (post:=one (.q (eY 32 w.root))) (F':=λ_=>True) (f:=w.rootF) [] rfl rfl rfl (own_wroot w) rfl rfl (has_root w) rfl (λ_ _=>rfl) ?_ ?_ ?_
 ·exact hr
 ·exact λ_ _ _=>trivial
 intro _
 refine l_autoS TY_ok rfl ?_;refine s_end (hK _ ?_);exact s_ret (k_ret TY_ok () rfl (by decide) rfl rfl rfl (λ_ _ _=>trivial) (λ_ _=>trivial))
theorem wBytes_S{w:PW}(h:w.Good)(hl:w.bytes.length<=1000000):Spec 35 [(prQ w).den] [] (λ_=>True) (outO w.bytes):=by
 refine spec_S [prQ w] 6 Tryz.func35 rfl (by rw [Tryz.ntmps35];rfl) (one_ok (prQ_ok w)) λb=>?_;refine s_auto TY_ok rfl ?_;refine s_regA TY_ok rfl λK hK=>?_;refine l_call0 [(prQ w).den] rfl rfl rfl own_wnode rfl rfl (λ_ _=>rfl) (wnode_S w) (λ_ _ _=>trivial) λ_=>?_;have hr:=wlay_S w h none 0 [] (by simpa using hl);refine l_nil0 0 5 1 eB ?_;refine l_R ([OwnS 0 5 1 eB none 0 []]++[]) rfl ?_;refine l_callW (W:=w) (own:=[OwnS 0 5 1 eB none 0 []]) (R':=[]) (post:=outO w.bytes) (F':=λ_=>True) (f:=w.layF) [.slice none 0 0] rfl rfl rfl (own_wlay w) rfl rfl (has_lay w) rfl (λ_ _=>rfl) ?_ ?_ ?_
 ·exact hr
 ·exact λ_ _ _=>trivial
 rintro⟨A,c⟩
 refine l_autoS TY_ok rfl ?_;refine s_end (hK _ ?_);exact s_ret (k_ret TY_ok (A,c) rfl (by decide) rfl rfl rfl (λ_ _ _=>trivial) (λ_ _=>trivial))
theorem run_ldEl{α:Type}{P:Program}{T:List TyR}{N:Nat}{E:SE}{o:Oper}{x:Operand}{t:TypeId}{k' c j off g a:Nat}{fe:α->SQ}{l:List α}{y:α}{q:SQ}{L:List LV}{R:List Res}{F M:World->Prop}(hT:OkT P T)(ho:o.op = .load t x)(hx:evS E x=some (.v (.pointer (some ⟨g,a+k'*j+off,none⟩))))(hi:l[j]?=some y)(hl:loadS T (fe y).parts1 t off=some q)(hok:OkP (fe y).parts1)(h:∀G S w,View G S L R F M w->Rd k' fe (some ⟨g,a,none⟩) c l w) :
  ∀(G:Nat->Nat) (S:Nat->Prop) (ac:Act) (w:World),Fr N (denE G E) ac->View G S L R F M w->(execOp ac.eval o).run P w = .ok (.value ((SV.q q).den G)) w:=λG S ac w ha hv=>by
 have e1:=ha.eval (evS_ok hx);obtain⟨b',o',e,_,hr⟩:=(h G S w hv).2.2.2.2 (c8 (aI _) (bG.1 hi).1)
 injection e with e
 injection e with e2 e3
 subst e2 e3;have h13:=(loadS_at hT hok hl).2 (w:=w) (g:=g) (base:=a+k'*j) (by rw [<-SQ.cl_parts hok];exact hr j y hi)
 unfold execOp
 simp only [ho,e1,SV.den,SQ.den,SC.den,h13,aG,aH,aD]
def tyK:Nat->TypeId
  | 0=>154
  | 1=>160
  | 2=>167
  | _=>156
def zK:Nat->List Pt
  | 0=>[]
  | 1=>[.agg 32 (By dE).toArray,.agg 32 (By dE).toArray,.agg 32 (By dE).toArray]
  | 2=>[.agg 32 (By dE).toArray,.agg 2 #[.nilIface,.nilIface]]
  | _=>[.agg 32 (By dE).toArray]
theorem zK_ok(k:Nat):OkP (zK k):=by
 match k with
 | 0=>exact okPB_ok (by kernel_rfl)
 | 1=>exact okPB_ok (by kernel_rfl)
 | 2=>exact okPB_ok (by kernel_rfl)
 | _+3=>exact okPB_ok (by show okPB [.agg 32 (By dE).toArray]=true;kernel_rfl)
def PW.asK(W:PW)(k:Nat):List Pt:=match bO W.kind k with
  | true=>W.ps
  | false=>zK k
theorem PW.asK_ok{W:PW}(h:W.Good)(k:Nat):OkP (W.asK k):=by
 unfold PW.asK
 split
 ·exact PW.ps_ok h
 ·exact zK_ok k
theorem ty_kind(W:PW):W.ty=tyK W.kind:=by cases W<;>rfl
theorem zero_K:∀k,k<4->(Tryz.prog.info? (tyK k)).map (·.zero)=some (some (SQ.p (zK k)).den)
 | 0,_=>by show(Tryz.prog.info? 154).map (·.zero)=some (some (SQ.p []).den);kernel_rfl
 | 1,_=>by show(Tryz.prog.info? 160).map (·.zero)=some (some (SQ.p (zK 1)).den);kernel_rfl
 | 2,_=>by show(Tryz.prog.info? 167).map (·.zero)=some (some (SQ.p (zK 2)).den);kernel_rfl
 | 3,_=>by show(Tryz.prog.info? 156).map (·.zero)=some (some (SQ.p (zK 3)).den);kernel_rfl
 | k+4,h=>absurd h (by omega)
theorem under_K:∀k,k<4->∃d,Tryz.prog.underlying (tyK k)=some d/\isI d=false
 | 0,_=>⟨_,Tryz.underlying154,rfl⟩
 | 1,_=>⟨_,Tryz.underlying160,rfl⟩
 | 2,_=>⟨_,Tryz.underlying167,rfl⟩
 | 3,_=>⟨_,Tryz.underlying156,rfl⟩
 | k+4,h=>absurd h (by omega)
theorem tyK_inj:∀i j,i<4->j<4->tyK i=tyK j->i=j:=by
 have h:∀i:Fin 4,∀j:Fin 4,tyK i.1=tyK j.1->i.1=j.1:=by decide +kernel
 exact λi j hi hj=>h ⟨i,hi⟩ ⟨j,hj⟩
theorem kind_lt(W:PW):W.kind<4:=by cases W<;>simp [PW.kind]
section
variable{b:Base}{ops:Array Oper}{Q:Exit->Act->World->Prop}{N:Nat}{E:SE}{L:List LV}{R:List Res}{F M:World->Prop}{o:Oper}{rest:List Oper}{j:Nat}{x:Operand}{ti:TypeId}
theorem l_kind(k:Nat){W:PW}(hW:W.Good)(h4:k<4)(hg:o.guard=none)(hd:o.dst=some j)(hj:aQ j N=true)(ho:o.op = .typeAssert x ti (tyK k) true)(hx:evS E x=some (.v W.val))
 (hn:lS Tryz.prog b ops Q N rest ⟨(j,.t [.p (W.asK k),.c (.v (.bool (bO W.kind k)))])::E,L,R,F,M⟩):lS Tryz.prog b ops Q N (o::rest) ⟨E,L,R,F,M⟩:=by
 obtain⟨d,hu,hi⟩:=under_K k h4;refine l_op (.t [.p (W.asK k),.c (.v (.bool (bO W.kind k)))]) (λy hy=>?_) hg hd hj ?_ hn
 ·rcases aL.1 hy with rfl|hy
  ·exact PW.asK_ok hW k
  ·rw [aF.1 hy];exact trivial
 ·unfold PW.asK
  by_cases e:W.kind=k
  ·have e2:bO W.kind k=true:=by rw [e];exact Nat.beq_refl k
   rw [e2];exact run_asYes ho hu hi (by rw [hx,W.val_eq,ty_kind,e]) rfl
  ·have e2:bO W.kind k=false:=by
    cases h:bO W.kind k with
    | true=>exact absurd (Nat.eq_of_beq_eq_true h) e
    | false=>rfl
   rw [e2];exact run_asNo ho hu hi (by rw [hx,W.val_eq]) (λh=>e (tyK_inj _ _ (kind_lt W) h4 (by rw [<-ty_kind,h]))) (zero_K k h4)
end
theorem wrap_u8(d:Nat):IntKind.u8.wrap (((d%256:Nat):Int)+1)=(((d+1)%256:Nat):Int):=by
 unfold IntKind.wrap
 simp [IntKind.bits,IntKind.signed]
def tellR(u:List UInt8×Bool×Bool):RV:=.t [eY 32 u.1,.c (.v (.bool u.2.1)),.c (.v (.int .i64 (if u.2.2 then 100 else 0)))]
theorem own_wget:Own 62:=λ_ _=>by go_simp
theorem wget_S{k:List UInt8}(hk:k.length=32)(w:PW)(hr:w.Right []):Spec 62 [w.val,(eY 32 k).den] [] (λ_=>True) (one (tellR (PW.tell k (PW.find k 0 w)))):=by
 refine spec_S [.c (.v w.val),eY 32 k] 37 Tryz.func62 rfl (by rw [Tryz.ntmps62];rfl) (two_ok trivial (eY_ok hk).1) λb=>?_;generalize hres:PW.tell k (PW.find k 0 w)=res;refine s_auto TY_ok rfl ?_;refine s_auto TY_ok rfl ?_;refine s_block ?_
 let F:PW×List Nat->Env:=λ⟨W,way⟩=>⟨[(0,.v W.val),(3,.a 3 0),(4,.a 4 0),(7,.v (.int .u8 ((way.length%256:Nat):Int)))],[⟨4,none,45,[.agg 32 (By dE).toArray]⟩,⟨3,none,45,[.agg 32 (By k).toArray]⟩],[],λ_=>True,λ_=>True⟩
 refine c_weak (e':=F (w,[])) ⟨⟨rfl,rfl,rfl,rfl,trivial⟩,⟨rfl,rfl,rfl,rfl,trivial⟩,.refl _,λ_ _ _=>trivial,λ_ _=>trivial⟩ (s_loop (λy=>256-y.2.length) F (λy=>y.1.Right y.2/\PW.tell k (PW.find k y.2.length y.1)=res) ?_ (w,[]) ⟨hr,hres⟩)
 rintro⟨W,way⟩ ⟨hW,hres⟩
 dsimp only at hW hres
 refine s_seq λK hK=>?_;refine s_block ?_;refine s_seq λK1 hK1=>?_;refine s_auto TY_ok rfl ?_;refine s_block ?_;refine s_regA TY_ok rfl λK2 hK2=>?_;refine l_kind 2 hW.good (by decide) rfl rfl rfl rfl rfl ?_;refine l_autoS TY_ok rfl ?_;refine s_end (hK2 _ ?_)
 cases W with
 | inner x y =>
  obtain⟨hlt,hx,hy,_⟩:=hW;refine s_yes rfl ?_;refine s_auto TY_ok rfl ?_;refine s_seq λK3 hK3=>?_;refine s_lit ?_;refine l_autoS TY_ok rfl ?_;obtain⟨hca,hcb⟩:=inner_cell (a:=x) (b:=y);have e256:way.length%256=way.length:=Nat.mod_eq_of_lt hlt;refine l_num 18 (way.length:Int) rfl (by rw [e256]) ?_;refine l_call0 [(eY 32 k).den,.int .u8 (way.length:Int)] rfl rfl rfl own_wbit rfl rfl (λ_ _=>rfl) (wbit_S hk way.length hlt) (λ_ _ _=>trivial) λ_=>?_;refine l_autoS TY_ok rfl ?_;have hb2:=iY k way.length
  by_cases hb:b6 k way.length=0
  ·refine l_num 19 0 rfl (by rw [hb];rfl) ?_
   refine l_op (.a 8 (0+32+1*0)) trivial rfl rfl rfl (runO_ixA 0 rfl Tryz.underlying165 rfl rfl rfl (by decide)) ?_;refine l_opV (.v x.val) trivial rfl rfl rfl (runO_ldA _ rfl rfl rfl hca Tryz.underlying89 rfl) ?_;refine l_autoS TY_ok rfl ?_;refine s_end (hK3 _ (s_exit (k_passB rfl (k_pass (k_out (hK _ ?_))))));refine s_autoE TY_ok rfl ?_;exact k_next (x,way++[0]) ⟨hx,by rw [<-hres,aB,a9];show _=PW.tell k (if b6 k way.length=0 then _ else _);rw [if_pos hb]⟩ (by rw [aB,a9];show 256-(way.length+1)<256-way.length;omega) ⟨⟨rfl,rfl,rfl,congrArg some (congrArg SV.v (congrArg (bH .u8) (by rw [aB,a9];exact wrap_u8 way.length))),trivial⟩,⟨rfl,rfl,rfl,rfl,trivial⟩,.refl _,λ_ _ _=>trivial,λ_ _=>trivial⟩
  ·refine l_num 19 1 rfl (by rw [show b6 k way.length=1 by omega];rfl) ?_
   refine l_op (.a 8 (0+32+1*1)) trivial rfl rfl rfl (runO_ixA 1 rfl Tryz.underlying165 rfl rfl rfl (by decide)) ?_;refine l_opV (.v y.val) trivial rfl rfl rfl (runO_ldA _ rfl rfl rfl hcb Tryz.underlying89 rfl) ?_;refine l_autoS TY_ok rfl ?_;refine s_end (hK3 _ (s_exit (k_passB rfl (k_pass (k_out (hK _ ?_))))));refine s_autoE TY_ok rfl ?_;exact k_next (y,way++[1]) ⟨hy,by rw [<-hres,aB,a9];show _=PW.tell k (if b6 k way.length=0 then _ else _);rw [if_neg hb]⟩ (by rw [aB,a9];show 256-(way.length+1)<256-way.length;omega) ⟨⟨rfl,rfl,rfl,congrArg some (congrArg SV.v (congrArg (bH .u8) (by rw [aB,a9];exact wrap_u8 way.length))),trivial⟩,⟨rfl,rfl,rfl,rfl,trivial⟩,.refl _,λ_ _ _=>trivial,λ_ _=>trivial⟩
 | empty =>
  refine s_no rfl ?_;refine s_regA TY_ok rfl λK4 hK4=>?_;refine l_kind (W:=.empty) 1 hW.good (by decide) rfl rfl rfl rfl rfl ?_;refine l_autoS TY_ok rfl ?_;refine s_end (hK4 _ ?_);refine s_no rfl ?_;refine s_regA TY_ok rfl λK5 hK5=>?_;refine l_kind (W:=.empty) 3 hW.good (by decide) rfl rfl rfl rfl rfl ?_;refine l_autoS TY_ok rfl ?_;refine s_end (hK5 _ ?_);refine s_no rfl ?_;refine s_skip (hK1 _ ?_);refine s_auto TY_ok rfl ?_;exact s_ret (k_ret TY_ok () rfl (by decide) rfl (by rw [<-hres];rfl) rfl (λ_ _ _=>trivial) (λ_ _=>trivial))
 | leaf p =>
  have hp:OkT2 p:=hW.good;refine s_no rfl ?_;refine s_regA TY_ok rfl λK4 hK4=>?_;refine l_kind (W:=.leaf p) 1 hW.good (by decide) rfl rfl rfl rfl rfl ?_;refine l_autoS TY_ok rfl ?_;refine s_end (hK4 _ ?_);refine s_yes rfl ?_;refine s_auto TY_ok rfl ?_;refine s_regA TY_ok rfl λK6 hK6=>?_;refine l_op (.b (decide (p.1=k))) trivial rfl rfl rfl (run_eqY rfl rfl rfl Tryz.underlying45 (by kernel_rfl) hp.1 hk) ?_;refine s_end (hK6 _ ?_);refine s_ifD (p.1=k) rfl (λhe=>?_) (λhe=>?_)
  ·refine s_auto TY_ok rfl ?_
   exact s_ret (k_ret TY_ok () rfl (by decide) rfl (by rw [<-hres];show tellR (if p.1=k then _ else _)=_;rw [if_pos he];rfl) rfl (λ_ _ _=>trivial) (λ_ _=>trivial))
  ·refine s_skip (hK1 _ ?_)
   refine s_auto TY_ok rfl ?_;exact s_ret (k_ret TY_ok () rfl (by decide) rfl (by rw [<-hres];show tellR (if p.1=k then _ else _)=_;rw [if_neg he];rfl) rfl (λ_ _ _=>trivial) (λ_ _=>trivial))
 | hid h =>
  refine s_no rfl ?_;refine s_regA TY_ok rfl λK4 hK4=>?_;refine l_kind (W:=.hid h) 1 hW.good (by decide) rfl rfl rfl rfl rfl ?_;refine l_autoS TY_ok rfl ?_;refine s_end (hK4 _ ?_);refine s_no rfl ?_;refine s_regA TY_ok rfl λK5 hK5=>?_;refine l_kind (W:=.hid h) 3 hW.good (by decide) rfl rfl rfl rfl rfl ?_;refine l_autoS TY_ok rfl ?_;refine s_end (hK5 _ ?_);refine s_yes rfl ?_;refine s_auto TY_ok rfl ?_;refine s_auto TY_ok rfl ?_;exact s_ret (k_ret TY_ok () rfl (by decide) rfl (by rw [<-hres];rfl) rfl (λ_ _ _=>trivial) (λ_ _=>trivial))
theorem PW.tell_len{k:List UInt8}:∀{d:Nat} {w:PW},w.Good->(PW.tell k (PW.find k d w)).1.length=32
 | _,.empty,_=>rfl
 | _,.leaf p,h=>by
  show(if p.1=k then(p.2,true,false) else(dE,false,false)).1.length=32
  split
  ·exact h.2
  ·rfl
 | _,.hid _,_=>rfl
 | d,.inner a b,h=>by
  show(PW.tell k (if b6 k d=0 then PW.find k (d+1) a else PW.find k (d+1) b)).1.length=32
  split
  ·exact PW.tell_len h.1
  ·exact PW.tell_len h.2
theorem tellR_ok{u:List UInt8×Bool×Bool}(h:u.1.length=32):(tellR u).sv.Ok:=λx hx=>by
 simp only [aL,mN,or_false] at hx
 rcases hx with rfl|rfl|rfl
 ·exact(eY_ok h).1
 ·exact trivial
 ·exact trivial
theorem own_wGet:Own 41:=λ_ _=>by go_simp
theorem wGet_S{k:List UInt8}(hk:k.length=32)(w:PW)(hr:w.Right []):Spec 41 [(prQ w).den,(eY 32 k).den] [] (λ_=>True) (one (tellR (PW.tell k (PW.find k 0 w)))):=by
 refine spec_S [prQ w,eY 32 k] 14 Tryz.func41 rfl (by rw [Tryz.ntmps41];rfl) (two_ok (prQ_ok w) (eY_ok hk).1) λb=>?_;have hget:=wget_S hk w hr;have hl:=PW.tell_len (k:=k) (d:=0) hr.good;generalize PW.tell k (PW.find k 0 w)=res at *;refine s_auto TY_ok rfl ?_;refine s_regD 7 (by decide) (by kernel_rfl) (by kernel_rfl) λK1 hK1 G S w0 hst=>?_;refine g_autoS TY_ok hst rfl ?_;refine g_callS (F':=λ_=>True) hst [(prQ w).den] rfl rfl rfl own_wnode rfl rfl (λ_=>rfl) (wnode_S w) trivial (λ_ _ _ _=>trivial) ?_;refine g_autoS TY_ok hst rfl ?_;refine g_callS (F':=λ_=>True) (r:=tellR res) hst [w.val,(eY 32 k).den] rfl rfl rfl own_wget rfl rfl (λ_=>rfl) hget ?_ (λ_ _ _ _=>trivial) ?_
 ·exact tellR_ok hl
 refine g_autoS TY_ok hst rfl ?_;refine g_endS hst ?_;refine l_autoS TY_ok rfl ?_;refine s_end (hK1 _ ?_);exact s_ret (k_ret TY_ok () rfl (by decide) rfl rfl rfl (λ_ _ _=>trivial) (λ_ _=>trivial))
theorem built_sides(t1 t2:TypeId)(v1 v2:Value):Tryz.prog.built 165 [(0,.iface t1 v1),(1,.iface t2 v2)]=some #[.iface t1 v1,.iface t2 v2]:=by kernel_rfl
theorem run_sides{N:Nat}{E:SE}{o:Oper}{x y:Operand}{X Y:PW}(ho:o.op = .build 165 #[(0,x),(1,y)])(hx:evS E x=some (.v X.val))(hy:evS E y=some (.v Y.val)) :
  ∀(G:Nat->Nat) (a:Act) (w:World),Fr N (denE G E) a->(execOp a.eval o).run Tryz.prog w = .ok (.value ((SV.p (sdW X Y)).den G)) w:=λG a w ha=>by
 have h1:a.eval x = .iface X.ty (SQ.p X.ps).den:=by rw [<-X.val_eq];exact ha.eval (evS_ok hx)
 have h2:a.eval y = .iface Y.ty (SQ.p Y.ps).den:=by rw [<-Y.val_eq];exact ha.eval (evS_ok hy)
 unfold execOp
 have h:Tryz.prog.built 165 (Array.map (λx:Nat×Operand=>(x.1,a.eval x.2)) #[(0,x),(1,y)]).toList=some #[.iface X.ty (SQ.p X.ps).den,.iface Y.ty (SQ.p Y.ps).den]:=by
  rw [Array.toList_map]
  show Tryz.prog.built 165 [(0,a.eval x),(1,a.eval y)]=_
  rw [h1,h2];exact built_sides _ _ _ _
 simp only [ho,aG,run_build w 165 _ _ h,aD,aH];rw [<-X.val_eq,<-Y.val_eq]
 rfl
structure RSw where
  A:Option Addr
  c:Nat
  l:List UInt8
  e:Nat
namespace RSw
def ps(s:RSw):List Pt:=[.one (.v (.slice s.A s.l.length s.c)),.one (.v (.int .i64 (s.e:Int)))]
def rd(s:RSw)(w:World):Prop:=Rd 1 eB s.A s.c s.l w
instance{s:RSw}:Pst s.rd:=⟨λ_ _ h hb=>Rd.later h hb⟩
def fail(s:RSw)(x:Nat):RSw:=⟨s.A,s.c,s.l,if s.e=0 then x else s.e⟩
def cut(s:RSw)(n:Nat):RSw:=⟨cutA s.A s.c n,s.c-n,s.l.drop n,s.e⟩
theorem rd_cut{s:RSw}{n:Nat}{w:World}(h:s.rd w)(hn:n<=s.l.length):(s.cut n).rd w:=Rd.part h hn
theorem fail_e{s:RSw}{x:Nat}(h:s.e≠0):s.fail x=s:=by
 unfold fail
 rw [if_neg h]
theorem fail_0{s:RSw}{x:Nat}(h:s.e=0):s.fail x=⟨s.A,s.c,s.l,x⟩:=by
 unfold fail
 rw [if_pos h]
end RSw
abbrev RdQ(g:Nat)(s:RSw):Res:=ObjS g 125 s.ps
abbrev ptV(g:Nat):Value:=.pointer (some ⟨g,0,none⟩)
theorem own_wfails:Own 61:=λ_ _=>by go_simp
theorem own_wtake:Own 118:=λ_ _=>by go_simp
theorem own_wkind:Own 80:=λ_ _=>by go_simp
theorem own_whash:Own 83:=λ_ _=>by go_simp
theorem wfails_S(g:Nat)(s:RSw)(x:Nat):Spec 61 [ptV g,.int .i64 (x:Int)] [RdQ g s] (λ_=>True) { ret:=λ_:Unit=>.t [],own:=λ_=>[RdQ g (s.fail x)] }:=by
 refine spec_S [.c (.v (ptV g)),.c (.v (.int .i64 (x:Int)))] 13 Tryz.func61 rfl (by rw [Tryz.ntmps61];rfl) (two_ok trivial trivial) λb=>?_;refine s_regA TY_ok rfl λK hK=>?_;refine l_ldO TY_ok rfl rfl rfl rfl rfl rfl (obj_own 0 rfl) ?_;refine l_autoS TY_ok rfl ?_;refine s_end (hK _ ?_);refine s_ifD ((s.e:Int)=0) rfl (λh0=>?_) (λh0=>?_)
 ·refine s_lit ?_
  refine l_autoS TY_ok rfl ?_;refine l_stO TY_ok 0 rfl rfl rfl rfl rfl rfl rfl ?_;exact s_end (k_ret TY_ok () rfl (by decide) rfl rfl (by rw [RSw.fail_0 (by omega)];rfl) (λ_ _ _=>trivial) (λ_ _=>trivial))
 ·exact s_skip (k_ret TY_ok () rfl (by decide) rfl rfl (by rw [RSw.fail_e (by omega)]) (λ_ _ _=>trivial) (λ_ _=>trivial))
def RSw.can(s:RSw)(n:Nat):Prop:=s.e=0/\n<=s.l.length
theorem wtake_yes(g:Nat)(s:RSw)(n:Nat)(h:s.can n):Spec 118 [ptV g,.int .i64 (n:Int)] [RdQ g s] s.rd { ret:=λ_:Unit=>.v (.slice s.A n s.c),own:=λ_=>[RdQ g (s.cut n)] }:=by
 obtain⟨A,c,l,e⟩:=s;obtain⟨he,hn⟩:=h
 dsimp only at he hn
 subst he;refine spec_S [.c (.v (ptV g)),.c (.v (.int .i64 (n:Int)))] 36 Tryz.func118 rfl (by rw [Tryz.ntmps118];rfl) (two_ok trivial trivial) λb=>?_;refine s_pure (l.length<=c/\(A=none->c=0)) (λw hw _=>⟨hw.1,hw.2.2.1⟩) λ⟨hlc,hA⟩=>?_;refine s_auto TY_ok rfl ?_;refine s_seq λK hK=>?_;refine s_regA TY_ok rfl λK1 hK1=>?_;refine l_ldO TY_ok rfl rfl rfl rfl rfl rfl (obj_own 0 rfl) ?_;refine l_autoS TY_ok rfl ?_;refine s_end (hK1 _ ?_);refine s_ifD ((l.length:Int)<(n:Int)) rfl (λh0=>absurd h0 (by omega)) (λ_=>?_);refine s_skip (hK _ ?_);refine s_seq λK2 hK2=>?_;refine s_regA TY_ok rfl λK3 hK3=>?_;refine l_ldO TY_ok rfl rfl rfl rfl rfl rfl (obj_own 0 rfl) ?_;refine l_autoS TY_ok rfl ?_;refine s_end (hK3 _ ?_);refine s_ifD (((0:Nat):Int)≠0) rfl (λh0=>absurd rfl h0) (λ_=>?_);refine s_skip (hK2 _ ?_);refine s_regA TY_ok rfl λK4 hK4=>?_;refine l_ldO TY_ok rfl rfl rfl rfl rfl rfl (obj_own 0 rfl) ?_;refine l_autoS TY_ok rfl ?_;refine l_op (.v (.slice A n c)) trivial rfl rfl rfl (run_cutHi (sz:=1) (by kernel_rfl) (by omega) hA rfl Tryz.underlying51 rfl rfl) ?_;refine l_autoS TY_ok rfl ?_;refine s_end (hK4 _ ?_);refine s_regA TY_ok rfl λK5 hK5=>?_;refine l_ldO TY_ok rfl rfl rfl rfl rfl rfl (obj_own 0 rfl) ?_;refine l_autoS TY_ok rfl ?_;refine l_op (.v (.slice (cutA A c n) (l.length-n) (c-n))) trivial rfl rfl rfl (run_cutLo hn hlc hA rfl rfl rfl) ?_;refine l_autoS TY_ok rfl ?_;refine l_stO TY_ok 0 rfl rfl rfl rfl rfl rfl rfl ?_;refine s_end (hK5 _ ?_);refine s_auto TY_ok rfl ?_;exact s_ret (k_ret TY_ok () rfl (by decide) rfl rfl (by show [ObjS g _ [.one (.v (.slice (cutA A c n) (l.drop n).length (c-n))),_]]=_;rw [dI];rfl) (λ_ _ _=>trivial) (λ_ _=>trivial))
theorem wtake_no(g:Nat)(s:RSw)(n:Nat)(h:¬s.can n):Spec 118 [ptV g,.int .i64 (n:Int)] [RdQ g s] (λ_=>True) { ret:=λ_:Unit=>.v (.slice none 0 0),own:=λ_=>[RdQ g (s.fail 10)] }:=by
 refine spec_S [.c (.v (ptV g)),.c (.v (.int .i64 (n:Int)))] 36 Tryz.func118 rfl (by rw [Tryz.ntmps118];rfl) (two_ok trivial trivial) λb=>?_;refine s_auto TY_ok rfl ?_;refine s_seq λK hK=>?_;refine s_regA TY_ok rfl λK1 hK1=>?_;refine l_ldO TY_ok rfl rfl rfl rfl rfl rfl (obj_own 0 rfl) ?_;refine l_autoS TY_ok rfl ?_;refine s_end (hK1 _ ?_)
 have hne:(s.fail 10).e≠0:=by
  show(if s.e=0 then 10 else s.e)≠0
  split
  ·decide
  ·assumption
 have hrest:∀en,Weak en ⟨[(0,.v (ptV g)),(4,.v (.slice none 0 0))],[],[RdQ g (s.fail 10)],λ_=>True,λ_=>True⟩->kS b K 36 en:=by
  intro en hw
  refine k_weak hw (hK _ ?_);refine s_seq λK2 hK2=>?_;refine s_regA TY_ok rfl λK3 hK3=>?_;refine l_ldO TY_ok rfl rfl rfl rfl rfl rfl (obj_own 0 rfl) ?_;refine l_autoS TY_ok rfl ?_;refine s_end (hK3 _ ?_);refine s_ifD (((s.fail 10).e:Int)≠0) rfl (λh0=>?_) (λh0=>absurd (by omega) h0);refine s_auto TY_ok rfl ?_;exact s_ret (k_ret TY_ok () rfl (by decide) rfl rfl rfl (λ_ _ _=>trivial) (λ_ _=>trivial))
 refine s_ifD ((s.l.length:Int)<(n:Int)) rfl (λh0=>?_) (λh0=>?_)
 ·refine s_lit ?_
  refine l_autoS TY_ok rfl ?_;refine l_R ([RdQ g s]++[]) rfl ?_;refine l_callA [ptV g,.int .i64 10] rfl rfl rfl own_wfails rfl rfl (λ_ _=>rfl) (wfails_S g s 10) (λ_ _ _=>trivial) λ_=>?_;exact s_end (hrest _ ⟨⟨rfl,rfl,trivial⟩,trivial,.refl _,λ_ _ _=>trivial,λ_ _=>trivial⟩)
 ·have he:s.e≠0:=λe=>h ⟨e,by omega⟩
  exact s_skip (hrest _ ⟨⟨rfl,rfl,trivial⟩,trivial,by rw [RSw.fail_e he],λ_ _ _=>trivial,λ_ _=>trivial⟩)
theorem RSw.can_cons{s:RSw}(h:s.can 1):∃x r,s.l=x::r:=by
 obtain⟨_,h⟩:=h
 cases hl:s.l with
 | nil=>rw [hl] at h;exact absurd h (by decide)
 | cons x r=>exact⟨x,r,rfl⟩
theorem wkind_yes(g:Nat)(s:RSw){x:UInt8}{r:List UInt8}(h:s.can 1)(hx:s.l=x::r):Spec 80 [ptV g] [RdQ g s] s.rd { ret:=λ_:Unit=>.v (.int .u8 (x.toNat:Int)),own:=λ_=>[RdQ g (s.cut 1)] }:=by
 refine spec_S [.c (.v (ptV g))] 10 Tryz.func80 rfl (by rw [Tryz.ntmps80];rfl) (one_ok trivial) λb=>?_;refine s_auto TY_ok rfl ?_;refine s_auto TY_ok rfl ?_;refine s_seq λK hK=>?_;refine s_anyP [0,1] 3 1 (λ_=>True) (by kernel_rfl) rfl (λ_ _ _=>trivial) ?_;refine p_frontO (.s 3 0 1 1) trivial 0 (by kernel_rfl) rfl rfl rfl rfl rfl (runO_all rfl Tryz.underlying210 rfl rfl) ?_;refine p_frontS (L0:=[]) TY_ok 1 (by kernel_rfl) rfl rfl rfl rfl rfl rfl (λ_ h=>by cases h) (λ_ _ _ h=>by cases h) ?_;refine p_step 2 (by kernel_rfl) rfl λK1 hK1=>?_;refine l_R ([RdQ g s]++[]) rfl ?_;refine l_callA [ptV g,.int .i64 1] rfl rfl rfl own_wtake rfl rfl (λ_ _=>rfl) (wtake_yes g s 1 h) (λ_ h _=>h) λ_=>?_;refine s_end (hK1 _ (λ_ _ _=>trivial) ?_);refine p_tail [3] (by kernel_rfl) rfl ?_;refine l_copyV (A:=s.A) (c:=s.c) (z:=[0]) (l:=[x]) rfl rfl rfl rfl rfl rfl rfl rfl (aE 1) (rd_fact λw h _=>?_) ?_
 ·have h2:s.rd w:=h.2
  have:=h2.take 1;rw [hx] at this;exact this
 refine s_end (hK _ ?_);refine s_regA TY_ok rfl λK2 hK2=>?_;refine l_op (.a 3 (0+1*0)) trivial rfl rfl rfl (runO_ixA 0 rfl Tryz.underlying210 rfl rfl rfl (by decide)) ?_;refine l_opV (.v (.int .u8 (x.toNat:Int))) trivial rfl rfl rfl (runO_ldA _ rfl rfl rfl rfl Tryz.underlying5 rfl) ?_;refine l_autoS TY_ok rfl ?_;refine s_end (hK2 _ ?_);exact s_ret (k_ret TY_ok () rfl (by decide) rfl rfl rfl (λ_ _ _=>trivial) (λ_ _=>trivial))
theorem wkind_no(g:Nat)(s:RSw)(h:¬s.can 1):Spec 80 [ptV g] [RdQ g s] (λ_=>True) { ret:=λ_:Unit=>.v (.int .u8 0),own:=λ_=>[RdQ g (s.fail 10)] }:=by
 refine spec_S [.c (.v (ptV g))] 10 Tryz.func80 rfl (by rw [Tryz.ntmps80];rfl) (one_ok trivial) λb=>?_;refine s_auto TY_ok rfl ?_;refine s_auto TY_ok rfl ?_;refine s_seq λK hK=>?_;refine s_anyP [0,1] 3 1 (λ_=>True) (by kernel_rfl) rfl (λ_ _ _=>trivial) ?_;refine p_frontO (.s 3 0 1 1) trivial 0 (by kernel_rfl) rfl rfl rfl rfl rfl (runO_all rfl Tryz.underlying210 rfl rfl) ?_;refine p_frontS (L0:=[]) TY_ok 1 (by kernel_rfl) rfl rfl rfl rfl rfl rfl (λ_ h=>by cases h) (λ_ _ _ h=>by cases h) ?_;refine p_step 2 (by kernel_rfl) rfl λK1 hK1=>?_;refine l_R ([RdQ g s]++[]) rfl ?_;refine l_callA [ptV g,.int .i64 1] rfl rfl rfl own_wtake rfl rfl (λ_ _=>rfl) (wtake_no g s 1 h) (λ_ _ _=>trivial) λ_=>?_;refine s_end (hK1 _ (λ_ _ _=>trivial) ?_);refine p_tail [3] (by kernel_rfl) rfl ?_;refine l_copyV (A:=none) (c:=0) (z:=[0]) (l:=[]) rfl rfl rfl rfl rfl rfl rfl rfl (by decide) (rd_fact λw _ _=>Rd.nil _ _ _) ?_;refine s_end (hK _ ?_);refine s_regA TY_ok rfl λK2 hK2=>?_;refine l_op (.a 3 (0+1*0)) trivial rfl rfl rfl (runO_ixA 0 rfl Tryz.underlying210 rfl rfl rfl (by decide)) ?_;refine l_opV (.v (.int .u8 0)) trivial rfl rfl rfl (runO_ldA _ rfl rfl rfl rfl Tryz.underlying5 rfl) ?_;refine l_autoS TY_ok rfl ?_;refine s_end (hK2 _ ?_);exact s_ret (k_ret TY_ok () rfl (by decide) rfl rfl rfl (λ_ _ _=>trivial) (λ_ _=>trivial))
theorem whash_yes(g:Nat)(s:RSw)(h:s.can 32):Spec 83 [ptV g] [RdQ g s] s.rd { ret:=λ_:Unit=>.q (eY 32 (s.l.take 32)),own:=λ_=>[RdQ g (s.cut 32)] }:=by
 refine spec_S [.c (.v (ptV g))] 9 Tryz.func83 rfl (by rw [Tryz.ntmps83];rfl) (one_ok trivial) λb=>?_
 have hl:(s.l.take 32).length=32:=by rw [aR];have:=h.2;omega
 refine s_auto TY_ok rfl ?_;refine s_auto TY_ok rfl ?_;refine s_seq λK hK=>?_;refine s_anyP [0,1] 3 1 (λ_=>True) (by kernel_rfl) rfl (λ_ _ _=>trivial) ?_;refine p_frontO (.s 3 0 32 32) trivial 0 (by kernel_rfl) rfl rfl rfl rfl rfl (runO_all rfl Tryz.underlying45 rfl rfl) ?_;refine p_frontS (L0:=[]) TY_ok 1 (by kernel_rfl) rfl rfl rfl rfl rfl rfl (λ_ h=>by cases h) (λ_ _ _ h=>by cases h) ?_;refine p_step 2 (by kernel_rfl) rfl λK1 hK1=>?_;refine l_R ([RdQ g s]++[]) rfl ?_;refine l_callA [ptV g,.int .i64 32] rfl rfl rfl own_wtake rfl rfl (λ_ _=>rfl) (wtake_yes g s 32 h) (λ_ h _=>h) λ_=>?_;refine s_end (hK1 _ (λ_ _ _=>trivial) ?_);refine p_tail [3] (by kernel_rfl) rfl ?_;refine l_copyV (A:=s.A) (c:=s.c) (z:=dE) (l:=s.l.take 32) rfl rfl rfl rfl rfl (by rw [hl];rfl) rfl rfl (by rw [hl];exact aE _) (rd_fact λw h _=>?_) ?_
 ·have h2:s.rd w:=h.2
  exact h2.take 32
 rw [hl,show dE.drop 32=[] from rfl,bQ];refine s_end (hK _ ?_);refine s_auto TY_ok rfl ?_;exact s_ret (k_ret TY_ok () rfl (by decide) rfl rfl rfl (λ_ _ _=>trivial) (λ_ _=>trivial))
theorem whash_no(g:Nat)(s:RSw)(h:¬s.can 32):Spec 83 [ptV g] [RdQ g s] (λ_=>True) { ret:=λ_:Unit=>.q (eY 32 dE),own:=λ_=>[RdQ g (s.fail 10)] }:=by
 refine spec_S [.c (.v (ptV g))] 9 Tryz.func83 rfl (by rw [Tryz.ntmps83];rfl) (one_ok trivial) λb=>?_;refine s_auto TY_ok rfl ?_;refine s_auto TY_ok rfl ?_;refine s_seq λK hK=>?_;refine s_anyP [0,1] 3 1 (λ_=>True) (by kernel_rfl) rfl (λ_ _ _=>trivial) ?_;refine p_frontO (.s 3 0 32 32) trivial 0 (by kernel_rfl) rfl rfl rfl rfl rfl (runO_all rfl Tryz.underlying45 rfl rfl) ?_;refine p_frontS (L0:=[]) TY_ok 1 (by kernel_rfl) rfl rfl rfl rfl rfl rfl (λ_ h=>by cases h) (λ_ _ _ h=>by cases h) ?_;refine p_step 2 (by kernel_rfl) rfl λK1 hK1=>?_;refine l_R ([RdQ g s]++[]) rfl ?_;refine l_callA [ptV g,.int .i64 32] rfl rfl rfl own_wtake rfl rfl (λ_ _=>rfl) (wtake_no g s 32 h) (λ_ _ _=>trivial) λ_=>?_;refine s_end (hK1 _ (λ_ _ _=>trivial) ?_);refine p_tail [3] (by kernel_rfl) rfl ?_;refine l_copyV (A:=none) (c:=0) (z:=dE) (l:=[]) rfl rfl rfl rfl rfl rfl rfl rfl (by decide) (rd_fact λw _ _=>Rd.nil _ _ _) ?_;refine s_end (hK _ ?_);refine s_auto TY_ok rfl ?_;exact s_ret (k_ret TY_ok () rfl (by decide) rfl rfl rfl (λ_ _ _=>trivial) (λ_ _=>trivial))
end Go.Proofs.YtlhlkofpjhpaoaaGreatDoor
namespace Go.Proofs.YtlhlkofpjhpaoaaGreatDoor
open Go.RowKit Go.IntWalk Nums
end Go.Proofs.YtlhlkofpjhpaoaaGreatDoor
