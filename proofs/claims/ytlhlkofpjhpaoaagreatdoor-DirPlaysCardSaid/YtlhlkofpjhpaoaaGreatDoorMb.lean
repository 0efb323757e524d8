import Derived.Test.YtlhlkofpjhpaoaaGreatDoorMa
import Derived.Laws.Bits64b
import Derived.Laws.BitsAllLaws
import Derived.Laws.Externs
import Derived.Maps.AppendAt
import Derived.Deep.OwnRows
import Derived.Great.BuildSlice
import Derived.Lib.SlBytesConst
open Array renaming replicate->aX,getElem?_eq_some_iff->a7,getD_eq_getD_getElem?->bL,getElem?_eq_getElem->b7,any_eq_true'->cX,getElem?_setIfInBounds_ne->pB,toList_map->rM,size_setIfInBounds->rR
open Bool renaming and_eq_true->aN,or_eq_true->dF
open Go.Act renaming put->pC,eval->sE
open Go.Addr renaming add_mid->dA
open Go.Extern.MathBitsCarry renaming m64->mT
open Go.IntKind renaming wrap_u64->a8
open Go.Oper renaming upon->fT,wp->iU
open Go.Region renaming wanted->aO,ready->aV,binds->cL,noSelect_spec->eG
open Go.Result renaming andThen_ok->aD
open Go.Sem renaming run_bind->aG,run_pure->aH
open List renaming replicate->aA,length_append->aB,mem_cons_of_mem->aJ,getElem?_eq_getElem->aK,mem_cons->aL,mem_cons_self->aP,length_take->aU,getElem?_eq_some_iff->bA,length_cons->bD,getElem?_cons_zero->bH,mem_map->bP,mem_append->bR,append_nil->bT,eq_nil_of_length_eq_zero->bV,map_cons->bX,pairwise_cons->b6,all_eq_true->cA,ext_getElem->cJ,getElem?_take->dE,mem_append_left->g8,mem_range->jK,map_toArray->jU,mem_append_right->j6,range->mF,cons_append->mS,map_nil->oI,getElem?_drop->qQ,getElem?_cons_succ->sU
open List.Pairwise renaming nil->sV
open List.cons renaming injEq->iZ
open Nat renaming le_refl->aF,zero_le->aI,blt->aQ,zero_add->aZ,add_assoc->bZ,add_right_comm->dB,add_zero->eX,pow_mul->mL,and_two_pow_sub_one_eq_mod->qE
open Option.some renaming injEq->aW,inj->cR
open Prod.mk renaming injEq->cY
namespace Go.Proofs.YtlhlkofpjhpaoaaGreatDoor
open Go.RowKit Go.IntWalk
inductive Waits (ops:Array Oper):Nat->Nat->Prop
  | edge {j i:Nat} {o:Oper} (hj:ops[j]?=some o) (h:edgeTo .any o i=true):Waits ops j i
  | via {j m i:Nat} {o:Oper} (hj:ops[j]?=some o) (h:edgeTo .any o m=true) (hm:Waits ops m i):Waits ops j i
theorem edgeTo_spec{o:Oper}{i:Nat}(h:edgeTo .any o i=true):∃e∈o.after,cL .any e=true/\e.on=i:=by
 unfold edgeTo at h
 obtain⟨e,he,hb⟩:=cX.1 h;simp only [aN,beq_iff_eq] at hb;exact⟨e,he,hb.1,hb.2⟩
theorem Closed.waits'{ops:Array Oper}{listed:Array Bool}(hc:Closed .any ops listed){j i:Nat}(h:Waits ops j i):∀o,ops[j]?=some o->(∀e∈o.after,cL .any e=true->listed.getD e.on false=true)->listed.getD i false=true:=by
 induction h with
 | edge hj h =>
  intro o ho hl
  obtain rfl:=cR (hj.symm.trans ho);obtain⟨e,he,hb,rfl⟩:=edgeTo_spec h;exact hl e he hb
 | @via j m i o' hj h hm ih =>
  intro o ho hl
  obtain rfl:=cR (hj.symm.trans ho);obtain⟨e,he,hb,rfl⟩:=edgeTo_spec h;have h1:=hl e he hb
  obtain⟨om,hom⟩:∃om,ops[e.on]?=some om:=by cases hm with
   | edge hj _=>exact⟨_,hj⟩
   | via hj _ _=>exact⟨_,hj⟩
  exact ih om hom (hc _ om hom h1)
def maskE(ms:List Nat):List Edge->Nat
  | []=>0
  | e::l=>if cL .any e then(2^e.on ||| ms.getD e.on 0) ||| maskE ms l else maskE ms l
def maskL:List Oper->List Nat->List Nat
  | [],ms=>ms
  | o::l,ms=>maskL l (ms++[maskE ms o.after.toList])
theorem maskE_spec{ms:List Nat}{i:Nat}:∀{l:List Edge},(maskE ms l).testBit i=true->∃e∈l,cL .any e=true/\(e.on=i\/∃b,ms[e.on]?=some b/\b.testBit i=true)
 | [],h=>by simp [maskE] at h
 | e::l,h=>by
  unfold maskE at h
  split at h
  ·rename_i hb
   rw [Nat.testBit_or,Nat.testBit_or] at h;simp only [dF] at h
   rcases h with(h|h)|h
   ·refine⟨e,by simp,hb,.inl ?_⟩
    rw [Nat.testBit_two_pow] at h
    simpa using h
   ·refine⟨e,by simp,hb,.inr ?_⟩
    rw [List.getD_eq_getElem?_getD] at h
    cases hm:ms[e.on]? with
    | none=>rw [hm] at h;simp at h
    | some b=>rw [hm] at h;exact⟨b,rfl,h⟩
   ·obtain⟨e',he,h'⟩:=maskE_spec h
    exact⟨e',aJ _ he,h'⟩
  ·obtain⟨e',he,h'⟩:=maskE_spec h
   exact⟨e',aJ _ he,h'⟩
def OkM(ops:Array Oper)(ms:List Nat):Prop:=∀j b i:Nat,ms[j]?=some b->b.testBit i=true->Waits ops j i
theorem maskL_ok{ops:Array Oper}:∀(l:List Oper) (ms:List Nat),(∀j,j<l.length->l[j]?=ops[ms.length+j]?)->OkM ops ms->OkM ops (maskL l ms)
 | [],_,_,h=>h
 | o::l,ms,hl,h=>by
  unfold maskL
  refine maskL_ok l _ (λj hj=>?_) ?_
  ·have:=hl (j+1) (by simpa using hj)
   simpa [bZ,Nat.add_comm 1 j] using this
  ·intro j b i hj hb
   rw [List.getElem?_append] at hj
   split at hj
   ·exact h j b i hj hb
   ·rename_i hlt
    have h0:j-ms.length=0:=by
     by_cases e:j-ms.length=0
     ·exact e
     ·exfalso
      obtain⟨k,hk⟩:∃k,j-ms.length=k+1:=⟨j-ms.length-1,by omega⟩;rw [hk] at hj
      simp at hj
    obtain rfl:j=ms.length:=by omega
    rw [h0] at hj;simp only [bH,aW] at hj;subst hj
    have ho:ops[ms.length]?=some o:=by simpa using (hl 0 (by simp)).symm
    obtain⟨e,he,hbd,h5⟩:=maskE_spec hb
    have he':e∈o.after:=by simpa using he
    have hed:edgeTo .any o e.on=true:=by
     unfold edgeTo
     exact cX.2 ⟨e,he',by simp [hbd]⟩
    rcases h5 with rfl|⟨b,hb1,hb2⟩
    ·exact .edge ho hed
    ·exact .via ho hed (h _ b i hb1 hb2)
def othersH(ops:Array Oper)(o:Oper)(k:Nat):List Oper->List Nat->Bool
  | [],_=>true
  | _::_,[]=>false
  | x::l,m::ms=>(m.testBit k||(o.apart ops x&&(stillG x.op || !multiG o.op)))&&othersH ops o k l ms
def headH(ops:Array Oper):List Oper->List Nat->Nat->Bool
  | [],_,_=>true
  | _::_,[],_=>false
  | o::l,_::ms,k=>o.after.all (λe=>!Region.binds .any e||decide (e.on<k))&&othersH ops o k l ms&&headH ops l ms (k+1)
def tailH(ops:Array Oper)(n m:Nat):Bool :=
  Region.noSelect ops&&headH ops (ops.toList.take n) (maskL ops.toList []) 0&&(match (maskL ops.toList [])[n]? with|none=>true|some b=>(mF n).all b.testBit) &&
    decide (ops.size=m+n)&&forcedB .any ops m n (marks n 0 (aX ops.size false))
theorem others_ok{ops:Array Oper}{o:Oper}{k:Nat}:∀{l:List Oper} {ms:List Nat},othersH ops o k l ms=true->∀(j:Nat) (x:Oper),l[j]?=some x->∃m,ms[j]?=some m/\(m.testBit k=true\/(o.apart ops x=true/\(stillG x.op=true\/multiG o.op=false)))
 | [],_,_,j,x,hx=>by simp at hx
 | _::_,[],h,_,_,_=>by cases h
 | y::l,m::ms,h,0,x,hx=>by
  simp only [bH,aW] at hx;subst hx;simp only [othersH,aN,dF,Bool.not_eq_true'] at h;exact⟨m,rfl,h.1⟩
 | y::l,m::ms,h,j+1,x,hx=>by
  simp only [othersH,aN] at h;obtain⟨m',h1,h2⟩:=others_ok h.2 j x (by simpa using hx);exact⟨m',by simpa using h1,h2⟩
theorem head_ok{ops:Array Oper}:∀{l:List Oper} {ms:List Nat} {k:Nat},headH ops l ms k=true->∀(i j:Nat) (x y:Oper),i<j->l[i]?=some x->l[j]?=some y->∃m,ms[j]?=some m/\(m.testBit (k+i)=true\/(x.apart ops y=true/\(stillG y.op=true\/multiG x.op=false)))
 | [],_,_,_,i,_,x,_,_,hx,_=>by simp at hx
 | _::_,[],_,h,_,_,_,_,_,_,_=>by cases h
 | o::l,m::ms,k,h,0,0,x,y,hij,_,_=>absurd hij (by omega)
 | o::l,m::ms,k,h,0,j+1,x,y,_,hx,hy=>by
  simp only [headH,aN] at h;simp only [bH,aW] at hx;subst hx;obtain⟨m',h1,h2⟩:=others_ok h.1.2 j y (by simpa using hy);exact⟨m',by simpa using h1,h2⟩
 | o::l,m::ms,k,h,i+1,0,x,y,hij,_,_=>absurd hij (by omega)
 | o::l,m::ms,k,h,i+1,j+1,x,y,hij,hx,hy=>by
  simp only [headH,aN] at h;obtain⟨m',h1,h2⟩:=head_ok h.2 i j x y (by omega) (by simpa using hx) (by simpa using hy);exact⟨m',by simpa using h1,by rwa [show k+(i+1)=k+1+i by omega]⟩
theorem head_low{ops:Array Oper}:∀{l:List Oper} {ms:List Nat} {k:Nat},headH ops l ms k=true->∀(i:Nat) (x:Oper),l[i]?=some x->∀e∈x.after,cL .any e=true->e.on<k+i
 | [],_,_,_,i,x,hx=>by simp at hx
 | _::_,[],_,h,_,_,_=>by cases h
 | o::l,m::ms,k,h,0,x,hx=>λe he hb=>by
  simp only [headH,aN] at h;simp only [bH,aW] at hx;subst hx;have h5:=Array.all_eq_true'.1 h.1.1 e he
  simpa [hb] using h5
 | o::l,m::ms,k,h,i+1,x,hx=>λe he hb=>by
  simp only [headH,aN] at h;have:=head_low h.2 i x (by simpa using hx) e he hb
  omega
structure Pend(ops:Array Oper)(n:Nat)(l:List (Nat×Oper))(listed:Array Bool):Prop where
  size:listed.size=ops.size
  mem:∀x∈l,ops[x.1]?=some x.2/\x.1<n/\listed.getD x.1 true=false
  out:∀j o,j<n->ops[j]?=some o->listed.getD j true=false->(j,o)∈l
  tail:∀j,n<=j->j<ops.size->listed.getD j true=false
  sort:l.Pairwise λx y=>x.1<y.1
  closed:Closed .any ops listed
theorem getD_in{listed:Array Bool}{j:Nat}(h:j<listed.size):listed.getD j true=listed.getD j false:=by
 simp only [bL];rw [b7 h]
 rfl
theorem Pend.step{ops:Array Oper}{n i:Nat}{o:Oper}{l1 l2:List (Nat×Oper)}{listed:Array Bool}(h:Pend ops n (l1++(i,o)::l2) listed)(hr:i∈aV .any ops listed):Pend ops n (l1++l2) (listed.setIfInBounds i true):=by
 have hs:=h.sort;rw [List.pairwise_append,b6] at hs;have hm:=h.mem (i,o) (by simp)
 have hil:i<listed.size:=by rw [h.size];exact(a7.1 hm.1).1
 refine⟨by rw [rR,h.size],λx hx=>?_,λj o' hj ho hl=>?_,λj hj hjs=>?_,?_,h.closed.set hr⟩
 ·have hne:i≠x.1:=by
   rcases bR.1 hx with h1|h1
   ·have:=hs.2.2 x h1 (i,o) (by simp)
    dsimp only at this
    omega
   ·have:=hs.2.1.1 x h1
    dsimp only at this
    omega
  obtain⟨h1,h2,h3⟩:=h.mem x (by
   rcases bR.1 hx with h1|h1
   ·exact g8 _ h1
   ·exact j6 _ (aJ _ h1))
  exact⟨h1,h2,by rw [getD_set_ne true hne];exact h3⟩
 ·by_cases e:i=j
  ·subst e
   simp [hil] at hl
  ·rw [getD_set_ne true e] at hl
   have h1:=h.out j o' hj ho hl
   rcases bR.1 h1 with h2|h2
   ·exact g8 _ h2
   ·rcases aL.1 h2 with h3|h3
    ·injection h3 with h4 h5
     exact absurd h4.symm e
    ·exact j6 _ h3
 ·rw [getD_set_ne true (by have:=hm.2.1;dsimp only at this;omega)]
  exact h.tail j hj hjs
 ·exact h.sort.sublist (List.Sublist.append (List.Sublist.refl _) (List.sublist_cons_self _ _))
def endG(P:Program)(ops:Array Oper)(Q:Exit->Act->World->Prop)(C0:World->Prop)(T:List Oper)(F:Facts)(a:Act):Prop:=∀w,C0 w->(∀k,F k w)->wpList P ops Q T a w
theorem endG_mono{P:Program}{ops:Array Oper}{Q:Exit->Act->World->Prop}{C0:World->Prop}{T:List Oper}:∀(F F':Facts) (a:Act),(∀k w,F' k w->F k w)->endG P ops Q C0 T F a->endG P ops Q C0 T F' a :=
 λ_ _ _ h hh w hw hF=>hh w hw λk=>h k w (hF k)
section
variable{P:Program}{Rel:World->World->Prop}{ops:Array Oper}{Q:Exit->Act->World->Prop}{C0:World->Prop}
theorem reg_any(hcl:∀w w',C0 w->Rel w w'->C0 w'){n:Nat}{T:List Oper}(hB:tailH ops n T.length=true)(hT:∀j,j<T.length->T[j]?=ops[n+j]?) :
  ∀(N:Nat) (l:List (Nat×Oper)) (listed:Array Bool) (F:Facts) (a:Act) (w:World),l.length=N->Pend ops n l listed->GoodF Rel C0 F w->Unl l F ->
   wpG P Rel ops C0 (endG P ops Q C0 T) l F a->wpAny P .any ops Q (T.length+N) listed a w:=by
 simp only [tailH,aN,decide_eq_true_eq] at hB;obtain⟨⟨⟨⟨hsel,hh⟩,hsk⟩,hsz⟩,hf⟩:=hB;have hM:OkM ops (maskL ops.toList []):=maskL_ok ops.toList [] (λj _=>by simp) (λj b i hj=>by simp at hj)
 have htk:∀(j:Nat) (o:Oper),j<n->ops[j]?=some o->(ops.toList.take n)[j]?=some o:=λj o hj ho=>by
  rw [dE,if_pos hj]
  simpa using ho
 have hI:Inv ops n (marks n 0 (aX ops.size false)):=by
  have:=Inv.marks (listed:=#[]) n (Inv.start (ops:=ops))
  rwa [aZ] at this
 intro N
 induction N with
 | zero =>
  intro l listed F a w hl hP hG hU h
  obtain rfl:=bV hl
  have e:listed=marks n 0 (aX ops.size false):=by
   have hms:∀(k m:Nat) (x:Array Bool),(marks k m x).size=x.size:=by
    intro k
    induction k with
    | zero=>intro m x;rfl
    | succ k ih=>intro m x;rw [marks,ih,rR]
   refine Array.ext (by rw [hms,hP.size,Array.size_replicate]) λj h1 h2=>?_
   have hj:j<ops.size:=by rw [<-hP.size];exact h1
   have h3:=hI j hj;rw [b7 h2] at h3
   injection h3 with h3
   rw [h3]
   have h4:listed.getD j true=listed[j]:=by
    simp only [bL];rw [b7 h1]
    rfl
   by_cases hjn:j<n
   ·rw [decide_eq_true hjn]
    cases hv:listed[j] with
    | true=>rfl
    | false =>
     have h5:=hP.out j ops[j] hjn (b7 hj) (h4.trans hv)
     simp at h5
   ·rw [decide_eq_false hjn,<-h4]
    exact hP.tail j (by omega) hj
  exact wpAny_forced T n listed a w hT (by rw [e];exact hf) (h w hG.cls hG.all)
 | succ N ih =>
  intro l listed F a w hl hP hG hU h
  obtain⟨x0,l0,rfl⟩:∃x l',l=x::l':=by cases l with
   | nil=>simp at hl
   | cons x l=>exact⟨x,l,rfl⟩
  have hm0:=hP.mem x0 (by simp);have hs0:=b6.1 hP.sort
  have hx0:x0.1∈aV .any ops listed:=by
   refine mem_ready.2 ⟨hm0.2.2,x0.2,hm0.1,λe he hb=>?_⟩;have hlow:=head_low hh x0.1 x0.2 (htk _ _ hm0.2.1 hm0.1) e he hb;rw [aZ] at hlow;have hes:e.on<ops.size:=Nat.lt_trans hlow (a7.1 hm0.1).1
   cases hv:listed.getD e.on false with
   | true=>rfl
   | false =>
    rw [<-getD_in (by rw [hP.size];exact hes)] at hv;have h5:=hP.out e.on ops[e.on] (by omega) (b7 hes) hv
    rcases aL.1 h5 with h6|h6
    ·rw [<-h6] at hlow
     exact absurd hlow (by simp)
    ·have:=hs0.1 _ h6
     dsimp only at this
     omega
  refine⟨λh0=>(by rw [h0] at hx0;cases hx0),λi hi=>?_⟩;obtain⟨hiu,o,hio,hall⟩:=mem_ready.1 hi;have his:=(a7.1 hio).1
  have hin:i<n:=by
   by_cases hin:i<n
   ·exact hin
   ·exfalso
    have hr:i∈aV .any ops (marks n 0 (aX ops.size false)):=mem_ready.2 ⟨hI.out his (by omega) true,o,hio,λe he hb=>by
     have h5:=hall e he hb
     have hes:e.on<ops.size:=by
      rcases Nat.lt_or_ge e.on listed.size with h6|h6
      ·rw [<-hP.size];exact h6
      ·simp [Array.getElem?_eq_none h6] at h5
     by_cases hen:e.on<n
     ·exact hI.in_ hes hen false
     ·have h6:=hP.tail e.on (by omega) hes
      rw [getD_in (by rw [hP.size];exact hes),h5] at h6
      cases h6⟩
    have hw:Waits ops i x0.1:=by
     cases hTl:T.length with
     | zero =>
      rw [hTl] at hf;simp only [forcedB,List.isEmpty_iff] at hf;rw [hf] at hr
      cases hr
     | succ m =>
      rw [hTl] at hf;simp only [forcedB,aN,decide_eq_true_eq] at hf;rw [hf.1,List.mem_singleton] at hr;subst hr
      cases hms:(maskL ops.toList [])[i]? with
      | none =>
       exfalso
       have hlen:∀(l:List Oper) (ms:List Nat),(maskL l ms).length=l.length+ms.length:=by
        intro l
        induction l with
        | nil=>intro ms;simp [maskL]
        | cons o l ih=>intro ms;rw [maskL,ih];simp;omega
       rw [List.getElem?_eq_none_iff,hlen] at hms
       simp at hms
       omega
      | some b =>
       rw [hms] at hsk;simp only [cA,jK] at hsk;exact hM i b x0.1 hms (hsk x0.1 hm0.2.1)
    have h7:=hP.closed.waits' hw o hio hall;have h8:=getD_ready hx0;rw [h7] at h8
    cases h8
  have hil:(i,o)∈x0::l0:=hP.out i o hin hio hiu;generalize x0::l0=l at *;clear hm0 hs0 hx0;obtain⟨l1,l2,rfl⟩:=List.append_of_mem hil;have hs:=hP.sort;have hs':=hs;rw [List.pairwise_append,b6] at hs';have hnd:((l1++(i,o)::l2).map (·.1)).Nodup:=List.Pairwise.map _ (λ_ _ h=>Nat.ne_of_lt h) hs
  have hp:∀x∈l1,PairG ops x (i,o):=λx hx=>by
   have hlt:=hs'.2.2 x hx (i,o) (by simp)
   dsimp only at hlt
   have hm:=hP.mem x (g8 _ hx);have hxu:=hm.2.2
   have hxs:x.1<listed.size:=by rw [hP.size];exact(a7.1 hm.1).1
   rw [getD_in hxs] at hxu;obtain⟨m,h1,h2⟩:=head_ok hh x.1 i x.2 o hlt (htk _ _ hm.2.1 hm.1) (htk _ _ hin hio);rw [aZ] at h2
   have h3:x.2.apart ops o=true/\(stillG o.op=true\/multiG x.2.op=false):=by
    rcases h2 with h2|h2
    ·have h7:=hP.closed.waits' (hM i m x.1 h1 h2) o hio hall
     rw [h7] at hxu
     cases hxu
    ·exact h2
   refine⟨Nat.ne_of_lt hlt,h3.1,λe he hb hon=>?_,λe he hb hon=>?_,h3.2,λcs b=>eG hsel x.1 x.2 cs b hm.1,λcs b=>eG hsel i o cs b hio⟩
   ·have h7:=hall e he hb
    rw [hon,hxu] at h7
    cases h7
   ·have h7:=head_low hh x.1 x.2 (htk _ _ hm.2.1 hm.1) e he hb
    dsimp only at hon
    omega
  have h9:=frontG hcl endG_mono (i,o) l2 l1 F a w hp hnd hG hU h;have hP':=hP.step hi
  have hU':Unl (l1++l2) F:=λx hx=>hU x (by
   rcases bR.1 hx with h1|h1
   ·exact g8 _ h1
   ·exact j6 _ (aJ _ h1))
  have hi':i∉(l1++l2).map (·.1):=λhmem=>by
   obtain⟨x,hx,hxi⟩:=bP.1 hmem
   rcases bR.1 hx with h1|h1
   ·have:=hs'.2.2 x h1 (i,o) (by simp)
    dsimp only at this hxi
    omega
   ·have:=hs'.2.1.1 x h1
    dsimp only at this hxi
    omega
  have hlen:(l1++l2).length=N:=by
   simp only [aB,bD] at hl ⊢
   omega
  unfold wpOp
  simp only [hio]
  unfold wpG at h9
  dsimp only at h9
  split
  ·rename_i hw
   rw [if_pos hw] at h9;obtain⟨V,hpv,_,hy,hn⟩:=h9;refine .inl ?_;have h3:=hy w hG.cls (λe _ _=>hG.all e.on)
   have fin:∀u w',Rel w w'->V u w'->wpAny P .any ops Q (T.length+N) (listed.setIfInBounds i true) (a.put o.dst u) w':=λu w' hb hV=>by
    have hC:=hcl _ _ hG.cls hb;have hF:∀k,F k w':=λk=>hG.pers k _ _ (hG.all k) hb;exact ih (l1++l2) _ _ _ w' hlen hP' (hG.up (hpv u) hC hF hV) (hU'.up hi') (hn u w' hC hF hV)
   unfold iU
   generalize (execOp a.eval o).run P w=r at *
   cases r with
   | ok n w' =>
    cases n<;>simp only [uponG] at h3<;>simp only [fT]
    case value u=>exact fin u w' h3.1 h3.2
    case skip=>exact fin _ w' h3.1 h3.2
    case enter f args =>
     obtain⟨e1,hc⟩:=h3;rw [e1]
     exact hc.mono λe w'' ⟨v,he,hb,hV⟩=>by subst he;exact fin v w'' hb hV
   | halt x w'=>simp only [uponG] at h3
  ·rename_i hw
   rw [if_neg hw] at h9;exact ih (l1++l2) _ _ _ w hlen hP' (hG.up (λ_ _ _ _=>trivial) hG.cls hG.all trivial) (hU'.up hi') h9
theorem reg_text(hcl:∀w w',C0 w->Rel w w'->C0 w'){T:List Oper}:∀(l:List (Nat×Oper)) (F:Facts) (a:Act) (w:World),GoodF Rel C0 F w->wpG P Rel ops C0 (endG P ops Q C0 T) l F a->wpList P ops Q (l.map (·.2)++T) a w
 | [],F,a,w,hG,h=>h w hG.cls hG.all
 | x::l,F,a,w,hG,h=>by
  rw [bX,mS]
  unfold wpList
  unfold wpG at h
  split
  ·rename_i hw
   rw [if_pos hw] at h;obtain⟨V,hpv,_,hy,hn⟩:=h;refine .inl ?_;have h3:=hy w hG.cls (λe _ _=>hG.all e.on)
   have fin:∀u w',Rel w w'->V u w'->wpList P ops Q (l.map (·.2)++T) (a.put x.2.dst u) w':=λu w' hb hV=>by
    have hC:=hcl _ _ hG.cls hb;have hF:∀k,F k w':=λk=>hG.pers k _ _ (hG.all k) hb;exact reg_text hcl l _ _ w' (hG.up (hpv u) hC hF hV) (hn u w' hC hF hV)
   unfold iU
   generalize (execOp a.eval x.2).run P w=r at *
   cases r with
   | ok n w' =>
    cases n<;>simp only [uponG] at h3<;>simp only [fT]
    case value u=>exact fin u w' h3.1 h3.2
    case skip=>exact fin _ w' h3.1 h3.2
    case enter f args =>
     obtain⟨e1,hc⟩:=h3;rw [e1]
     exact hc.mono λe w'' ⟨v,he,hb,hV⟩=>by subst he;exact fin v w'' hb hV
   | halt x w'=>simp only [uponG] at h3
  ·rename_i hw
   rw [if_neg hw] at h;exact reg_text hcl l _ _ w (hG.up (λ_ _ _ _=>trivial) hG.cls hG.all trivial) h
end
def idx:Nat->List Oper->List (Nat×Oper)
  | _,[]=>[]
  | k,o::l=>(k,o)::idx (k+1) l
theorem idx_map:∀(k:Nat) (l:List Oper),(idx k l).map (·.2)=l
 | _,[]=>rfl
 | k,o::l=>by rw [idx,bX,idx_map]
theorem idx_len:∀(k:Nat) (l:List Oper),(idx k l).length=l.length
 | _,[]=>rfl
 | k,o::l=>by rw [idx,bD,idx_len,bD]
theorem idx_mem:∀{k:Nat} {l:List Oper} {x:Nat×Oper},x∈idx k l->k<=x.1/\l[x.1-k]?=some x.2
 | _,[],_,h=>by simp [idx] at h
 | k,o::l,x,h=>by
  rcases aL.1 h with rfl|h
  ·exact⟨aF _,by simp⟩
  ·obtain⟨h1,h2⟩:=idx_mem h
   refine⟨by omega,?_⟩;rw [show x.1-k=x.1-(k+1)+1 by omega]
   simpa using h2
theorem mem_idx:∀{k:Nat} {l:List Oper} {j:Nat} {o:Oper},l[j]?=some o->(k+j,o)∈idx k l
 | _,[],_,_,h=>by simp at h
 | k,x::l,0,o,h=>by
  simp only [bH,aW] at h;subst h;exact aP
 | k,x::l,j+1,o,h=>by
  have h1:=mem_idx (k:=k+1) (l:=l) (j:=j) (o:=o) (by simpa using h);rw [show k+(j+1)=k+1+j by omega];exact aJ _ h1
theorem idx_sort:∀(k:Nat) (l:List Oper),(idx k l).Pairwise λx y=>x.1<y.1
 | _,[]=>sV
 | k,o::l=>List.Pairwise.cons (λx hx=>by have:=(idx_mem hx).1;dsimp only;omega) (idx_sort (k+1) l)
abbrev Told:=List (Nat×(World->Prop))
def lookP:Told->Nat->Option (World->Prop)
  | [],_=>none
  | (k,p)::r,j=>match Nat.beq k j with
    | true=>some p
    | false=>lookP r j
def farP(i:Nat)(Fa:Told):Bool:=Fa.all λx=>!Nat.beq x.1 i
def Tell(Fa:Told)(F:Facts):Prop:=∀x∈Fa,∀w,F x.1 w->x.2 w
theorem lookP_mem:∀{Fa:Told} {j:Nat} {p:World->Prop},lookP Fa j=some p->(j,p)∈Fa
 | [],_,_,h=>by cases h
 | (k,q)::r,j,p,h=>by
  unfold lookP at h
  split at h
  ·rename_i e
   obtain rfl:=Nat.eq_of_beq_eq_true e
   cases h
   exact aP
  ·exact aJ _ (lookP_mem h)
theorem Tell.up{Fa:Told}{F:Facts}{i:Nat}{p:World->Prop}(h:Tell Fa F)(hf:farP i Fa=true):Tell Fa (upF F i p):=λx hx w hw=>by
 have h1:=cA.1 hf x hx
 have e:x.1≠i:=by
  rintro rfl
  simp at h1
 rw [upF_ne e] at hw;exact h x hx w hw
theorem Tell.more{Fa:Told}{F:Facts}{i:Nat}{p:World->Prop}(h:Tell Fa F)(hf:farP i Fa=true):Tell ((i,p)::Fa) (upF F i p):=λx hx w hw=>by
 rcases aL.1 hx with rfl|hx
 ·rwa [upF_same] at hw
 ·exact h.up hf x hx w hw
def gF(P:Program)(Rel:World->World->Prop)(ops:Array Oper)(C0:World->Prop)(Q:Facts->Act->Prop)(l:List (Nat×Oper))(N:Nat)(E:List (Nat×Value))(Fa:Told):Prop :=
  ∀a F,Fr N E a->Tell Fa F->wpG P Rel ops C0 Q l F a
def Uses(o:Oper)(Fa:Told)(w:World):Prop:=∀j p,lookP Fa j=some p->edgeTo .any o j=true->p w
section
variable{P:Program}{Rel:World->World->Prop}{C0:World->Prop}{Q:Exit->Act->World->Prop}{N:Nat}{E:List (Nat×Value)}{w:World}{id:Nat}{l:List Oper}
theorem c_gR(n:Nat)(hcl:∀w w',C0 w->Rel w w'->C0 w')(h0:C0 w.drew)(hn:n<=l.length)(hm:P.follows .mixedOrders=true)(hB:tailH l.toArray n (l.drop n).length=true)
 (h:gF P Rel l.toArray C0 (endG P l.toArray Q C0 (l.drop n)) (idx 0 (l.take n)) N E []):cF P (.region id l.toArray true) Q N E w:=λa ha=>by
 refine wp_region_any hm ?_
 have hL:(l.take n).length=n:=by rw [aU];omega
 have hG:GoodF Rel C0 (λ_ _=>True) w.drew:=⟨λ_ _ _ _ _=>trivial,h0,λ_=>trivial⟩
 have hP:Pend l.toArray n (idx 0 (l.take n)) (aX l.toArray.size false):=by
  refine⟨by simp,λx hx=>?_,λj o hj ho _=>?_,λj _ hj=>by
   have hj':j<l.length:=by simpa using hj
   simp [hj'],idx_sort _ _,Closed.none _⟩
  ·obtain⟨_,h2⟩:=idx_mem hx
   rw [Nat.sub_zero,dE] at h2
   split at h2
   ·rename_i hlt
    have h3:x.1<l.length:=(bA.1 h2).1;exact⟨by simpa using h2,hlt,by simp [h3]⟩
   ·cases h2
  ·have h1:=mem_idx (k:=0) (l:=l.take n) (j:=j) (o:=o) (by rw [dE,if_pos hj];simpa using ho)
   rwa [aZ] at h1
 have h2:=reg_any (Q:=Q) hcl hB (λj _=>by simp) n (idx 0 (l.take n)) _ _ a w.drew (by rw [idx_len,hL]) hP hG (λ_ _ _=>trivial) (h a _ ha (λx hx=>by cases hx))
 have e:(l.drop n).length+n=l.toArray.size:=by simp;omega
 rw [e] at h2;exact h2
theorem c_gRF(n:Nat)(hcl:∀w w',C0 w->Rel w w'->C0 w')(h0:C0 w)(h:gF P Rel l.toArray C0 (endG P l.toArray Q C0 (l.drop n)) (idx 0 (l.take n)) N E []):cF P (.region id l.toArray false) Q N E w:=λa ha=>by
 refine wp_region_lit ?_;have hG:GoodF Rel C0 (λ_ _=>True) w:=⟨λ_ _ _ _ _=>trivial,h0,λ_=>trivial⟩;have h2:=reg_text (Q:=Q) hcl (idx 0 (l.take n)) _ a w hG (h a _ ha (λx hx=>by cases hx));rw [idx_map,List.take_append_drop] at h2;exact h2
end
section
variable{P:Program}{Q:Exit->Act->World->Prop}{N:Nat}{E:List (Nat×Value)}{w:World}{id:Nat}{l:List Oper}
theorem c_g(n:Nat)(hn:n<=l.length)(hm:P.follows .mixedOrders=true)(hB:tailH l.toArray n (l.drop n).length=true)
 (h:gF P Bel l.toArray (Up w) (endG P l.toArray Q (Up w) (l.drop n)) (idx 0 (l.take n)) N E []):cF P (.region id l.toArray true) Q N E w:=c_gR (Rel:=Bel) (C0:=Up w) n (λ_ _ h k=>Up.step h k) (Up.drew w) hn hm hB h
theorem c_gF(n:Nat)(h:gF P Bel l.toArray (Up w) (endG P l.toArray Q (Up w) (l.drop n)) (idx 0 (l.take n)) N E []):cF P (.region id l.toArray false) Q N E w:=c_gRF (Rel:=Bel) (C0:=Up w) n (λ_ _ h k=>Up.step h k) (Up.refl w) h
end
section
variable{P:Program}{Rel:World->World->Prop}{ops:Array Oper}{C0:World->Prop}{Q:Facts->Act->Prop}{N:Nat}{E:List (Nat×Value)}{Fa:Told}{o:Oper}{rest:List (Nat×Oper)}{i k:Nat}
theorem g_mem(V:Value->World->Prop)(hg:o.guard=none)(hd:o.dst=some k)(hk:aQ k N=true)(hf:farP i Fa=true)(hm:multiG o.op=true)(hp:∀v,Pers Rel (V v))
 (h:∀a,Fr N E a->∀w,C0 w->Uses o Fa w->uponG P Rel w V ((execOp a.eval o).run P w))(hn:∀v w,C0 w->V v w->gF P Rel ops C0 Q rest N ((k,v)::E) ((i,V v)::Fa)):gF P Rel ops C0 Q ((i,o)::rest) N E Fa:=λa F ha hF=>by
 unfold wpG
 rw [if_pos (by simp [aO,hg])];refine⟨V,hp,.inr hm,λw hw he=>h a ha w hw λj p hj hed=>?_,λv w hw _ hV=>hn v w hw hV _ _ (by dsimp only;rw [hd];exact ha.put hk v) (hF.more hf)⟩;obtain⟨e,h1,h2,rfl⟩:=edgeTo_spec hed;exact hF _ (lookP_mem hj) w (he e h1 h2)
theorem g_op[hR:RelOk Rel](hf:farP i Fa=true)(h:bF P ops (λw=>C0 w/\Uses o Fa w) (λa'=>∀F,Tell Fa F->wpG P Rel ops C0 Q rest F a') [o] N E):gF P Rel ops C0 Q ((i,o)::rest) N E Fa:=λa F ha hF=>by
 have h1:=h a ha
 unfold wpB at h1
 unfold wpG
 split
 ·rename_i hw
  rw [if_pos hw] at h1
  have huse:∀w,(∀e∈o.after,cL .any e=true->F e.on w)->Uses o Fa w:=λw he j p hj hed=>by
   obtain⟨e,h1,h2,rfl⟩:=edgeTo_spec hed;exact hF _ (lookP_mem hj) w (he e h1 h2)
  have hup:∀(V:Value->Prop) (w:World) (r:Result Next),uponB P w V r->uponG P Rel w (λu _=>V u) r:=λV w r hr=>by
   cases r with
   | ok n w' =>
    cases n<;>simp only [uponB] at hr<;>simp only [uponG]
    case value u=>obtain⟨rfl,h⟩:=hr;exact⟨hR.below _ _ (Below.refl _ _),h⟩
    case skip=>obtain⟨rfl,h⟩:=hr;exact⟨hR.below _ _ (Below.refl _ _),h⟩
    case enter f args =>
     obtain⟨rfl,h⟩:=hr;exact⟨rfl,h.mono λe w'' ⟨v,h1,h2,h3⟩=>⟨v,h1,hR.below _ _ h3,h2⟩⟩
   | halt x w'=>simp only [uponB] at hr
  rcases h1 with⟨v,h2,h3⟩|⟨hp,V,h2,h3⟩
  ·exact⟨λu _=>u=v,λ_ _ _ h _=>h,.inl ⟨v,λ_ _ h=>h⟩,λw hw he=>hup (· = v) _ _ (h2 w ⟨hw,huse w he⟩),λu w _ _ hu=>by
    rw [hu]
    exact h3 _ (hF.up hf)⟩
  ·refine⟨λu _=>V u,λ_ _ _ h _=>h,.inr ?_,λw hw he=>hup V _ _ (h2 w ⟨hw,huse w he⟩),λu w _ _ hu=>h3 u hu _ (hF.up hf)⟩
   unfold multiG
   split<;>first|rfl|exact hp
 ·rename_i hw
  rw [if_neg hw] at h1;exact h1 _ (hF.up hf)
theorem g_go(h:gF P Rel ops C0 Q rest N E Fa):bF P ops (λw=>C0 w/\Uses o Fa w) (λa'=>∀F,Tell Fa F->wpG P Rel ops C0 Q rest F a') [] N E:=λa ha=>wpB_nil λF hF=>h a F ha hF
theorem g_end{Q:Exit->Act->World->Prop}{T:List Oper}(h:∀w,C0 w->(∀j p,lookP Fa j=some p->p w)->lF P ops Q T N E w):gF P Rel ops C0 (endG P ops Q C0 T) [] N E Fa:=λa _ ha hF w hw hFw =>
 h w hw (λj _ hj=>hF _ (lookP_mem hj) w (hFw j)) a ha
end
def Us(l:List Nat):List Value:=l.map λx:Nat=>.int .u64 (x:Int)
theorem Us_len(l:List Nat):(Us l).length=l.length:=by simp [Us]
theorem Us_one(l:List Nat):∀u∈Us l,u.oneCell'=true:=by
 intro u hu
 obtain⟨x,_,rfl⟩:=bP.1 hu
 rfl
theorem Us_at{l:List Nat}{j:Nat}(h:j<l.length):(Us l).toArray[j]?=some (.int .u64 (l[j]! : Nat)):=by
 simp [Us,h]
theorem Us_set(l:List Nat)(k x:Nat):(Us l).toArray.setIfInBounds k (.int .u64 (x:Int))=(Us (l.set k x)).toArray:=by
 simp [Us,List.map_set]
theorem maskW(a:Nat)(ha:a<18446744073709551616):bits .and .u64 (a:Int) 2251799813685247=((a%2251799813685248:Nat):Int):=by
 have h:=u64_and_nat a 2251799813685247 ha (by omega);have e:a &&& 2251799813685247=a%2251799813685248:=qE a 51;rw [e] at h;exact h
theorem orW(i x y:Nat)(hx:x%2^i=0)(hy:y<2^i)(h1:x<18446744073709551616)(h2:y<18446744073709551616):bits .or .u64 (x:Int) (y:Int)=((x+y:Nat):Int):=by
 rw [u64_or_nat x y h1 h2,nat_join i x y hx hy]
theorem mask32(a:Nat)(ha:a<18446744073709551616):bits .and .u64 (a:Int) 4294967295=((a%4294967296:Nat):Int):=by
 have h:=u64_and_nat a 4294967295 ha (by omega);have e:a &&& 4294967295=a%4294967296:=qE a 32;rw [e] at h;exact h
theorem div32(a:Nat):(a:Int)/4294967296=((a/4294967296:Nat):Int):=by omega
theorem div51(a:Nat):(a:Int)/2251799813685248=((a/2251799813685248:Nat):Int):=by omega
theorem mulN(a b:Nat):(a:Int)*(b:Int)=((a*b:Nat):Int):=(Int.natCast_mul a b).symm
theorem addN(a b:Nat):(a:Int)+(b:Int)=((a+b:Nat):Int):=(Int.natCast_add a b).symm
theorem wrapN(a:Nat)(ha:a<18446744073709551616):IntKind.u64.wrap (a:Int)=(a:Int):=by rw [a8];omega
theorem wrapM(a:Nat):IntKind.u64.wrap (a:Int)=((a%18446744073709551616:Nat):Int):=by rw [a8];omega
def subEntry:Array Value->Sem Value:=λargs=>do
  let (x,y,b) <-Extern.MathBitsCarry.three "Sub64" args
  pure (Extern.MathBitsCarry.pair ((x+mT-y-b)%mT) (if x<y+b then 1 else 0))
theorem run_sub{P:Program}(x y b:Nat)(hb:b<=1)(w:World) :
  (subEntry #[.int .u64 x,.int .u64 y,.int .u64 b]).run P w =
   .ok (.tuple #[.int .u64 (((x+18446744073709551616-y-b)%18446744073709551616:Nat):Int),.int .u64 ((if x<y+b then 1 else 0:Nat):Int)]) w:=by
 have:b=0\/b=1:=by omega
 rcases this with rfl|rfl<;>rfl
def fb(l:List UInt8)(n:Nat):List UInt8:=(mF 32).map λm=>if m<n then l[m]! else 0
theorem fb_len(l:List UInt8)(n:Nat):(fb l n).length=32:=by simp [fb]
theorem fb_zero(l:List UInt8):fb l 0=aA 32 0:=by
 apply cJ (by simp [fb])
 intro i h1 h2
 rw [List.getElem_replicate]
 simp [fb]
theorem fb_all{l:List UInt8}(h:l.length=32):fb l 32=l:=by
 apply cJ (by simp [fb,h])
 intro i h1 h2
 have h3:i<32:=by simpa [fb] using h1
 simp [fb,h3,h2]
theorem fb_set(l:List UInt8){n:Nat}:(fb l n).set n l[n]! = fb l (n+1):=by
 apply cJ (by simp [fb])
 intro j h1 h2
 rw [List.getElem_set];simp only [fb,List.getElem_map,List.getElem_range]
 by_cases hjk:n=j
 ·subst hjk
  simp
 ·rw [if_neg hjk]
  by_cases hlt:j<n
  ·rw [if_pos hlt,if_pos (by omega)]
  ·rw [if_neg hlt,if_neg (by omega)]
def wd(L k:Nat):Nat:=L/18446744073709551616^k%18446744073709551616
theorem wd_byte(L k j:Nat)(hj:j<8):wd L k/2^(8*j)%256=L/256^(8*k+j)%256:=by
 have e1:(256:Nat)^(8*k+j)=18446744073709551616^k*256^j:=by
  rw [Nat.pow_add,mL]
 have e2:(2:Nat)^(8*j)=256^j:=by rw [mL]
 rw [e1,e2,<-Nat.div_div_eq_div_mul]
 unfold wd
 generalize L/18446744073709551616^k=z
 have h8:j=0\/j=1\/j=2\/j=3\/j=4\/j=5\/j=6\/j=7:=by omega
 rcases h8 with rfl|rfl|rfl|rfl|rfl|rfl|rfl|rfl<;>simp only [Nat.reducePow]<;>omega
structure VL(w:World)(g:Nat)(l:List Value):Prop where
  lt:g<w.heap.size
  cell:∀j v,l[j]?=some v->w.cell? ⟨g,j,none⟩=some v
  free:∀j,j<l.length->w.frozen? ⟨g,j,none⟩=false
theorem By_at?{l:List UInt8}{j:Nat}(h:j<l.length):(By l)[j]?=some (.int .u8 ((l[j]!).toNat:Int)):=by
 have h1:=By_get h
 simpa using h1
theorem f_tail{P:Program}{ops:Array Oper}{Q:Exit->Act->World->Prop}{T:List Oper}{N:Nat}{E:List (Nat×Value)}{w:World}(h:∀w',Up w w'->lF P ops Q T N E w') :
  bF P ops (Up w) (λa'=>∀w',Up w w'->wpList P ops Q T a' w') [] N E:=λa ha=>wpB_nil λw' hw'=>h w' hw' a ha
section
variable{P:Program}{ops:Array Oper}{Q:Exit->Act->World->Prop}{N:Nat}{E:List (Nat×Value)}{w:World}{o:Oper}{rest:List Oper}{k:Nat}
theorem l_nil(h:kF (Q .normal) N E w):lF P ops Q [] N E w:=λa ha=>wpl_nil (h a ha)
theorem l_val{w':World}(v:Value)(hg:o.guard=none)(hd:o.dst=some k)(hk:aQ k N=true)(h:∀a,Fr N E a->(execOp a.eval o).run P w = .ok (.value v) w')(hn:lF P ops Q rest N ((k,v)::E) w'):lF P ops Q (o::rest) N E w:=λa ha=>by
 have h1:=h a ha;have h2:=hn _ (ha.put hk v)
 unfold wpList
 rw [if_pos (by simp [aO,hg])];refine .inl ?_
 unfold iU
 rw [h1];simp only [fT,hd];exact h2
theorem l_move{x:Operand}(v:Value)(hg:o.guard=none)(hd:o.dst=some k)(hk:aQ k N=true)(ho:o.op = .move x)(hx:ev E x=some v)(hn:lF P ops Q rest N ((k,v)::E) w):lF P ops Q (o::rest) N E w :=
 l_val v hg hd hk (λa ha=>by
  have h1:=ha.eval hx
  unfold execOp
  simp only [ho,h1,aH]) hn
theorem l_assign{x:Operand}(v:Value)(hg:o.guard=none)(hd:o.dst=some k)(hk:aQ k N=true)(ho:o.op = .assign x)(hx:ev E x=some v)(hn:lF P ops Q rest N ((k,v)::E) w):lF P ops Q (o::rest) N E w :=
 l_val v hg hd hk (λa ha=>by
  have h1:=ha.eval hx
  unfold execOp
  simp only [ho,h1,aH]) hn
end
structure NV where
  t:Nat
  ty:TypeId
  zs:Array Value
section
variable{P:Program}{N:Nat}
def nvOne(P:Program)(N:Nat)(o:Oper)(v:NV):Prop:=o.guard=none/\o.dst=some v.t/\aQ v.t N=true/\o.op = .alloc v.ty/\(P.info? v.ty).bind (λi=>i.zero.map (·.cells))=some v.zs
def nvOk(P:Program)(N:Nat):List Oper->List NV->Prop
  | _,[]=>True
  | [],_::_=>False
  | o::l,v::vs=>nvOne P N o v/\nvOk P N l vs
theorem nvOk_get:∀{l:List Oper} {vs:List NV},nvOk P N l vs->∀(j:Nat) (v:NV),vs[j]?=some v->∃o:Oper,l[j]?=some o/\nvOne P N o v
 | _,[],_,j,v,hv=>by simp at hv
 | [],_::_,h,_,_,_=>h.elim
 | o::l,v0::vs,h,0,v,hv=>by
  simp only [bH,aW] at hv;subst hv;exact⟨o,rfl,h.1⟩
 | o::l,v0::vs,h,j+1,v,hv=>by
  simp only [sU] at hv;obtain⟨o',h1,h2⟩:=nvOk_get h.2 j v hv;exact⟨o',by simpa using h1,h2⟩
end
def ptrs:List NV->Nat->(Nat->Nat)->List (Nat×Value)->List (Nat×Value)
  | [],_,_,E=>E
  | v::vs,j,gs,E=>(v.t,.pointer (some ⟨gs j,0,none⟩))::ptrs vs (j+1) gs E
def far(E:List (Nat×Value)):List NV->Prop
  | []=>True
  | v::vs=>look E v.t=none/\far E vs
theorem far_mem{E:List (Nat×Value)}:∀{vs:List NV},far E vs->∀(j:Nat) (v:NV),vs[j]?=some v->look E v.t=none
 | [],_,j,v,hv=>by simp at hv
 | v0::vs,h,0,v,hv=>by
  simp only [bH,aW] at hv;subst hv;exact h.1
 | v0::vs,h,j+1,v,hv=>far_mem h.2 j v (by simpa using hv)
section
variable{N:Nat}{E:List (Nat×Value)}{a:Act}
theorem Fr.putFar(h:Fr N E a){k:Nat}(hk:look E k=none)(v:Value):Fr N E (a.put (some k) v):=by
 refine⟨by simp [pC,h.size],h.defers,λj u hj=>?_⟩
 have e:k≠j:=by
  rintro rfl
  rw [hk] at hj
  cases hj
 have h1:=h.get j u hj;simp only [pC,sE,bL] at h1 ⊢;rw [pB (by omega)];exact h1
theorem Fr.more(h:Fr N E a){k:Nat}{v:Value}(hv:a.eval (.tmp k)=v):Fr N ((k,v)::E) a:=by
 refine⟨h.size,h.defers,λj u hj=>?_⟩;rw [look_cons] at hj
 by_cases e:k=j
 ·subst e
  rw [if_pos rfl] at hj
  cases hj
  exact hv
 ·rw [if_neg e] at hj
  exact h.get j u hj
theorem eval_put_same(h:Fr N E a){k:Nat}(hk:aQ k N=true)(v:Value):(a.put (some k) v).eval (.tmp k)=v:=(h.put hk v).get k v (by rw [look_cons,if_pos rfl])
theorem eval_put_ne{k j:Nat}(hk:k≠j)(v:Value):(a.put (some k) v).eval (.tmp j)=a.eval (.tmp j):=by
 simp only [pC,sE,bL];rw [pB (by omega)]
theorem Fr.ptrs(h:Fr N E a)(gs:Nat->Nat):∀(vs:List NV) (j0:Nat),(∀(j:Nat) (v:NV),vs[j]?=some v->a.eval (.tmp v.t) = .pointer (some ⟨gs (j0+j),0,none⟩))->Fr N (ptrs vs j0 gs E) a
 | [],_,_=>h
 | v::vs,j0,hv=>by
  refine Fr.more (Fr.ptrs h gs vs (j0+1) λj u hu=>?_) (hv 0 v rfl);have:=hv (j+1) u (by simpa using hu)
  rwa [<-bZ,dB] at this
end
def newC(ops:Array Oper)(n:Nat)(lend:Array Bool):Nat->List Nat->Array Bool->Bool
  | 0,_,listed=>decide (listed=lend)
  | f+1,rem,listed=>decide (aV .any ops listed=rem.map (n + ·))&&rem.all λj=>newC ops n lend f (rem.erase j) (listed.setIfInBounds (n+j) true)
def tsApart:List NV->Bool
  | []=>true
  | v::vs=>(vs.all λu=>!(v.t==u.t))&&tsApart vs
theorem tsApart_lt:∀{vs:List NV},tsApart vs=true->∀(i j:Nat) (vi vj:NV),i<j->vs[i]?=some vi->vs[j]?=some vj->vi.t≠vj.t
 | [],_,i,j,vi,vj,_,hi,_=>by simp at hi
 | v::vs,h,0,j+1,vi,vj,_,hi,hj=>by
  simp only [tsApart,aN,cA] at h;simp only [bH,aW,sU] at hi hj;subst hi;have:=h.1 vj (List.mem_of_getElem? hj)
  simpa using this
 | v::vs,h,i+1,j+1,vi,vj,hij,hi,hj=>by
  simp only [tsApart,aN] at h;exact tsApart_lt h.2 i j vi vj (by omega) (by simpa using hi) (by simpa using hj)
theorem tsApart_ne{vs:List NV}(h:tsApart vs=true){i j:Nat}{vi vj:NV}(hij:i≠j)(hi:vs[i]?=some vi)(hj:vs[j]?=some vj):vi.t≠vj.t:=by
 rcases Nat.lt_or_gt_of_ne hij with h1|h1
 ·exact tsApart_lt h i j vi vj h1 hi hj
 ·exact(tsApart_lt h j i vj vi h1 hj hi).symm
section
variable{P:Program}{Q:Exit->Act->World->Prop}{N:Nat}{E:List (Nat×Value)}{w:World}
def newEnd(P:Program)(ops:Array Oper)(Q:Exit->Act->World->Prop)(w:World)(vs:List NV)(T:List Oper)(N:Nat)(E:List (Nat×Value)):Prop :=
  ∀gs w',(∀j,j<vs.length->w.heap.size<=gs j)->(∀i j,i<vs.length->j<vs.length->i≠j->gs i≠gs j)->Up w w'->(∀(j:Nat) (v:NV),vs[j]?=some v->Blk w' (gs j) v.ty v.zs)->lF P ops Q T N (ptrs vs 0 gs E) w'
def newPost(P:Program)(ops:Array Oper)(Q:Exit->Act->World->Prop)(w:World)(vs:List NV)(T:List Oper)(N:Nat)(a':Act):Prop :=
  ∃E',Fr N E' a'/\far E' vs/\newEnd P ops Q w vs T N E'
theorem news_any{ops:Array Oper}{n m M:Nat}{lend:Array Bool}(vs:List NV)(hap:tsApart vs=true)(hnv:∀j v,vs[j]?=some v->∃o,ops[n+j]?=some o/\nvOne P N o v)(hE:far E vs)
 (fin:∀gs w0 a,Up w w0->Fr N (ptrs vs 0 gs E) a->(∀j,j<vs.length->w.heap.size<=gs j)->(∀i j,i<vs.length->j<vs.length->i≠j->gs i≠gs j)->(∀(j:Nat) (v:NV),vs[j]?=some v->Blk w0 (gs j) v.ty v.zs) ->
   wpAnyU P .any ops (Up w) Q M m 0 w0 lend a) :
  ∀(f:Nat) (rem:List Nat) (listed:Array Bool) (w0:World) (a:Act) (gs:Nat->Nat),newC ops n lend f rem listed=true->rem.Nodup->f=rem.length->(∀j∈rem,j<vs.length)->Up w w0->Fr N E a ->
   (∀(j:Nat) (v:NV),j∉rem->vs[j]?=some v->w.heap.size<=gs j/\Blk w0 (gs j) v.ty v.zs/\a.eval (.tmp v.t) = .pointer (some ⟨gs j,0,none⟩)) ->
   (∀i j,i<vs.length->j<vs.length->i∉rem->j∉rem->i≠j->gs i≠gs j)->wpAnyU P .any ops (Up w) Q M m f w0 listed a
 | 0,rem,listed,w0,a,gs,hc,_,hf,_,hU,hF,hd,hg=>by
  obtain rfl:rem=[]:=bV hf.symm;simp only [newC,decide_eq_true_eq] at hc;subst hc;refine fin gs w0 a hU (hF.ptrs gs vs 0 λj v hv=>?_) (λj hj=>?_) (λi j hi hj hij=>hg i j hi hj (by simp) (by simp) hij) (λj v hv=>(hd j v (by simp) hv).2.1)
  ·rw [aZ]
   exact(hd j v (by simp) hv).2.2
  ·exact(hd j vs[j] (by simp) (aK hj)).1
 | f+1,rem,listed,w0,a,gs,hc,hnd,hf,hlt,hU,hF,hd,hg=>by
  simp only [newC,aN,decide_eq_true_eq,cA] at hc;obtain⟨hr,hc⟩:=hc;refine⟨?_,λi hi=>?_⟩
  ·rw [hr]
   cases rem with
   | nil=>cases hf
   | cons j rem=>exact List.cons_ne_nil _ _
  ·rw [hr] at hi
   obtain⟨j,hj,rfl⟩:=bP.1 hi;have hjl:=hlt j hj;have hv:vs[j]?=some vs[j]:=aK hjl;generalize vs[j]=v at hv;obtain⟨o,ho,hgd,hds,hb,hop,hz⟩:=hnv j v hv;refine wpAnyU_new (base:=w.heap.size) ho hgd (exec_alloc hop hz) (λ_ _ h k=>h.step k) (λ_ h=>h.size) hU λw1 hw1 hC1 hp=>?_;rw [hds];have hfar:=far_mem hE j v hv;have hal:=(Below.refl w1.heap.size w1).alloc (aF _) (.cells v.zs v.ty)
   have hem:∀i,i∉rem.erase j->i=j\/i∉rem:=λi hi=>by
    by_cases e:i=j
    ·exact .inl e
    ·exact .inr λhm=>hi ((List.mem_erase_of_ne e).2 hm)
   refine news_any vs hap hnv hE fin f (rem.erase j) _ _ _ (λi=>if i=j then w1.heap.size else gs i) (hc j hj) (hnd.erase j) (by rw [List.length_erase_of_mem hj];omega) (λi hi=>hlt i (List.mem_of_mem_erase hi)) (hC1.step hal) (hF.putFar hfar _) ?_ ?_
   ·intro i u hi hu
    by_cases e:i=j
    ·subst e
     obtain rfl:u=v:=cR (hu.symm.trans hv);rw [if_pos rfl];exact⟨hp,Blk.new w1 _ _,eval_put_same hF hb _⟩
    ·rw [if_neg e]
     obtain⟨h1,h2,h3⟩:=hd i u ((hem i hi).resolve_left e) hu;exact⟨h1,(h2.later hw1).later hal,by rw [eval_put_ne (tsApart_ne hap (Ne.symm e) hv hu)];exact h3⟩
   ·intro i k hi hk hir hkr hik
    have hlt1:∀i,i<vs.length->i∉rem->gs i<w1.heap.size:=λi hi hir=>((hd i vs[i] hir (aK hi)).2.1.later hw1).lt
    by_cases e:i=j
    ·rw [if_pos e,if_neg (λh=>hik (e.trans h.symm))]
     have:=hlt1 k hk ((hem k hkr).resolve_left (λh=>hik (e.trans h.symm)))
     omega
    ·rw [if_neg e]
     by_cases e2:k=j
     ·rw [if_pos e2]
      have:=hlt1 i hi ((hem i hir).resolve_left e)
      omega
     ·rw [if_neg e2]
      exact hg i k hi hk ((hem i hir).resolve_left e) ((hem k hkr).resolve_left e2) hik
theorem c_new{id:Nat}{l:List Oper}(n:Nat)(vs:List NV)(hn:n+vs.length<=l.length)(hap:tsApart vs=true)(hnv:nvOk P N (l.drop n) vs)(hm:P.follows .mixedOrders=true)
 (hB:tailB l.toArray n vs.length (l.drop (n+vs.length)).length=true)
 (hC:newC l.toArray n (marks vs.length n (marks n 0 (aX l.toArray.size false))) vs.length (mF vs.length) (marks n 0 (aX l.toArray.size false))=true)
 (hQ:∀c a d v w,Q (.panic c) (a.put d v) w->Q (.panic c) a w)
 (h:bF P l.toArray (Up w) (newPost P l.toArray Q w vs (l.drop (n+vs.length)) N) (l.take n) N E):cF P (.region id l.toArray true) Q N E w:=λa ha=>by
 simp only [tailB,aN,decide_eq_true_eq] at hB;obtain⟨⟨⟨⟨hs,hh⟩,hz⟩,hsk⟩,hf⟩:=hB
 have hL:(l.take n).length=n:=by rw [aU];omega
 refine wp_region_any hm ?_
 have hT:∀j,j<(l.drop (n+vs.length)).length->(l.drop (n+vs.length))[j]?=l.toArray[vs.length+n+j]?:=λj _=>by
  simp only [qQ,List.getElem?_toArray]
  congr 1
  omega
 have hG:wpAnyU P .any l.toArray (Up w) Q (vs.length+n) (l.drop (n+vs.length)).length (vs.length+(l.take n).length) w.drew (aX l.toArray.size false) a:=by
  refine wpAnyU_head (λ_ _ h k=>h.step k) hs hQ vs.length w.drew (Up.drew w) (l.take n) 0 _ a (Closed.none _) (by omega) (λj hj=>?_) (by rw [hL];exact hh) ?_
  ·rw [hL] at hj
   simp [hj]
  rw [hL];refine wpB_mono (λa' h'=>?_) _ a (h a ha);obtain⟨E',hF,hE,hk⟩:=h';refine news_any (E:=E') (w:=w) vs hap (λj v hv=>?_) hE (λgs w0 a hU hF hb hd hB=>⟨λj hj i hi=>?_,λw' hw'=>?_⟩) vs.length (mF vs.length) _ w.drew a' (λ_=>0) hC List.nodup_range (by simp) (λj hj=>by simpa using hj) (Up.drew w) hF ?_ ?_
  ·obtain⟨o,h1,h2⟩:=nvOk_get hnv j v hv
   exact⟨o,by simpa using h1,h2⟩
  ·have h1:=cA.1 hsk j hj
   exact cA.1 h1 i (jK.2 hi)
  ·exact wpAny_forced _ (vs.length+n) _ _ w' hT hf (hk gs w' hb hd (hU.step hw') (λj v hv=>(hB j v hv).later hw') a hF)
  ·intro j v hj hv
   exact absurd (jK.2 (bA.1 hv).1) hj
  ·intro i j hi hj h1
   exact absurd (jK.2 hi) h1
 have h2:=wpAny_of_U (vs.length+(l.take n).length) _ a w.drew hG;rw [hL] at h2
 have e:l.toArray.size=(l.drop (n+vs.length)).length+(vs.length+n):=by rw [hz,bZ]
 rw [<-e] at h2;exact h2
def stOk:List NV->List Operand->List Oper->List Oper->Prop
  | [],[],T,T'=>T=T'
  | v::vs,x::xs,o::T,T'=>(o.guard=none/\o.dst=none/\o.op = .store v.ty (.tmp v.t) x)/\stOk vs xs T T'
  | _,_,_,_=>False
def valOk(P:Program)(E:List (Nat×Value)):List NV->List Operand->List (Array Value)->Prop
  | [],[],[]=>True
  | v::vs,x::xs,c::cs=>(ev E x=some (.agg c)/\v.zs.size=c.size/\(P.info? v.ty).map (·.size)=some c.size/\∀u∈c.toList,u.oneCell'=true)/\valOk P E vs xs cs
  | _,_,_=>False
def blks(w:World):List NV->List (Array Value)->Nat->(Nat->Nat)->Prop
  | v::vs,c::cs,j,gs=>Blk w (gs j) v.ty c/\blks w vs cs (j+1) gs
  | _,_,_,_=>True
theorem l_stores{ops:Array Oper}{T':List Oper}{W:World}{gs:Nat->Nat}:∀(vs:List NV) (xs:List Operand) (cs:List (Array Value)) (T:List Oper) (j0:Nat) (w:World),stOk vs xs T T'->valOk P E vs xs cs ->
  (∀(j:Nat) (v:NV),vs[j]?=some v->look E v.t=some (.pointer (some ⟨gs (j0+j),0,none⟩)))->(∀j,j<vs.length->W.heap.size<=gs (j0+j))->(∀i j,i<vs.length->j<vs.length->i≠j->gs (j0+i)≠gs (j0+j))->Up W w->(∀(j:Nat) (v:NV),vs[j]?=some v->Blk w (gs (j0+j)) v.ty v.zs) ->
  (∀w',Up W w'->(∀g t c,(∀j,j<vs.length->gs (j0+j)≠g)->Blk w g t c->Blk w' g t c)->blks w' vs cs j0 gs->lF P ops Q T' N E w')->lF P ops Q T N E w
 | [],xs,cs,T,j0,w,hst,hv,_,_,_,hU,_,h=>by
  cases xs with
  | cons=>exact hst.elim
  | nil =>
   obtain rfl:T=T':=hst;exact h w hU (λ_ _ _ _ h=>h) (by unfold blks;trivial)
 | v::vs,xs,cs,T,j0,w,hst,hv,hl,hge,hd,hU,hB,h=>by
  cases xs with
  | nil=>exact hst.elim
  | cons x xs =>
   cases T with
   | nil=>exact hst.elim
   | cons o T =>
    cases cs with
    | nil=>exact hv.elim
    | cons c cs =>
     obtain⟨⟨hgd,hds,hop⟩,hst⟩:=hst;obtain⟨⟨hx,hz,hi,ho⟩,hv⟩:=hv
     intro a ha
     have h0:=hB 0 v rfl
     have hd0:∀j,j<vs.length->gs (j0+1+j)≠gs j0:=λj hj=>by
      have:=hd (j+1) 0 (by simpa using hj) (by simp) (by omega)
      rwa [<-bZ,dB,eX] at this
     rw [eX] at h0;refine wpList_store_row hgd v.ty (.tmp v.t) x hop (gs j0) (ha.get _ _ (hl 0 v rfl)) c (ha.eval hx) v.ty v.zs h0 hi hz ho ?_;rw [hds];refine l_stores (gs:=gs) (W:=W) vs xs cs T (j0+1) (w.setRow (gs j0) c) hst hv (λj u hu=>?_) (λj hj=>?_) (λi j hi hj hij=>?_) (up_row hU (hge 0 (by simp)) _) (λj u hu=>?_) (λw' hU' hK hb=>?_) a ha
     ·have:=hl (j+1) u (by simpa using hu)
      rwa [<-bZ,dB] at this
     ·have:=hge (j+1) (by simpa using hj)
      rwa [<-bZ,dB] at this
     ·have:=hd (i+1) (j+1) (by simpa using hi) (by simpa using hj) (by omega)
      rwa [<-bZ,<-bZ,dB,dB j0 j 1] at this
     ·have:=hB (j+1) u (by simpa using hu)
      rw [<-bZ,dB] at this;exact this.rowFar (hd0 j (bA.1 hu).1) _
     ·refine h w' hU' (λg t c' hg hb'=>hK g t c' (λj hj=>?_) (hb'.rowFar (Ne.symm (by have:=hg 0 (by simp);rwa [eX] at this)) _)) ⟨hK _ _ _ hd0 (h0.row _),hb⟩
      have:=hg (j+1) (by simpa using hj)
      rwa [<-bZ,dB] at this
theorem look_ptrs{gs:Nat->Nat}{E:List (Nat×Value)}{k:Nat}:∀(vs:List NV) (j0:Nat),(∀v∈vs,v.t≠k)->look (ptrs vs j0 gs E) k=look E k
 | [],_,_=>rfl
 | v::vs,j0,h=>by
  rw [ptrs,look_cons,if_neg (h v (by simp))];exact look_ptrs vs (j0+1) λu hu=>h u (by simp [hu])
theorem look_ptr{gs:Nat->Nat}{E:List (Nat×Value)}:∀(vs:List NV) (j0:Nat),tsApart vs=true->∀(j:Nat) (v:NV),vs[j]?=some v->look (ptrs vs j0 gs E) v.t=some (.pointer (some ⟨gs (j0+j),0,none⟩))
 | [],_,_,_,_,hv=>by simp at hv
 | v0::vs,j0,hap,0,v,hv=>by
  simp only [bH,aW] at hv;subst hv;rw [ptrs,look_cons,if_pos rfl,eX]
 | v0::vs,j0,hap,j+1,v,hv=>by
  have hne:v0.t≠v.t:=tsApart_ne hap (i:=0) (j:=j+1) (by omega) rfl hv;simp only [tsApart,aN] at hap;rw [ptrs,look_cons,if_neg hne,look_ptr vs (j0+1) hap.2 j v (by simpa using hv),<-bZ,dB]
theorem ev_far{gs:Nat->Nat}{E:List (Nat×Value)}{vs:List NV}(hE:far E vs){x:Operand}{v:Value}(hx:ev E x=some v):ev (ptrs vs 0 gs E) x=some v:=by
 cases x with
 | tmp t =>
  show look (ptrs vs 0 gs E) t=some v
  rw [look_ptrs vs 0 λu hu=>?_]
  ·exact hx
  ·rintro rfl
   obtain⟨j,hj⟩:=List.getElem?_of_mem hu;have h1:=far_mem hE j u hj;have h2:look E u.t=some v:=hx;rw [h1] at h2
   cases h2
 | const u=>exact hx
 | global g=>exact hx
 | func f=>exact hx
theorem valOk_far{gs:Nat->Nat}{E:List (Nat×Value)}{ws:List NV}(hE:far E ws):∀(vs:List NV) (xs:List Operand) (cs:List (Array Value)),valOk P E vs xs cs->valOk P (ptrs ws 0 gs E) vs xs cs
 | [],[],[],_=>trivial
 | _::vs,_::xs,_::cs,h=>⟨⟨ev_far hE h.1.1,h.1.2⟩,valOk_far hE vs xs cs h.2⟩
 | [],[],_::_,h=>h.elim
 | [],_::_,_,h=>h.elim
 | _::_,[],_,h=>h.elim
 | _::_,_::_,[],h=>h.elim
theorem f_new{ops:Array Oper}{vs:List NV}{T T':List Oper}(xs:List Operand)(cs:List (Array Value))(hE:far E vs)(hap:tsApart vs=true)(hst:stOk vs xs T T')(hv:valOk P E vs xs cs)
 (h:∀gs w',(∀j,j<vs.length->w.heap.size<=gs j)->(∀i j,i<vs.length->j<vs.length->i≠j->gs i≠gs j)->Up w w'->blks w' vs cs 0 gs->lF P ops Q T' N (ptrs vs 0 gs E) w') :
  bF P ops (Up w) (newPost P ops Q w vs T N) [] N E:=λa ha=>wpB_nil ⟨E,ha,hE,λgs w' hge hd hU hB=>by
 refine l_stores (W:=w) (gs:=gs) vs xs cs T 0 w' hst (valOk_far hE _ _ _ hv) (λj v hv=>look_ptr vs 0 hap j v hv) (by simpa using hge) (by simpa using hd) hU (by simpa using hB) λw2 hU2 _ hb=>?_
 exact h gs w2 hge hd hU2 hb⟩
end
section
variable{N:Nat}{E:List (Nat×Value)}{a:Act}
theorem Fr.evals(ha:Fr N E a):∀(l:List Operand) (m:List Value),l.map (ev E)=m.map some->l.map a.eval=m
 | [],[],_=>rfl
 | [],_::_,h=>by cases h
 | _::_,[],h=>by cases h
 | y::l,u::m,h=>by
  simp only [bX,iZ] at h ⊢;exact⟨ha.eval h.1,Fr.evals ha l m h.2⟩
theorem Fr.parts(ha:Fr N E a):∀(l:List (Nat×Operand)) (m:List (Nat×Value)),l.map (λp=>(p.1,ev E p.2))=m.map (λp=>(p.1,some p.2))->(l.map λ(i,x)=>(i,a.eval x))=m
 | [],[],_=>rfl
 | [],_::_,h=>by cases h
 | _::_,[],h=>by cases h
 | y::l,u::m,h=>by
  simp only [bX,iZ,cY] at h ⊢;refine⟨?_,Fr.parts ha l m h.2⟩;rw [ha.eval h.1.2,h.1.1]
end
section
variable{P:Program}{ops:Array Oper}{C0:World->Prop}{Q:Act->Prop}{N:Nat}{E:List (Nat×Value)}{o:Oper}{rest:List Oper}{k:Nat}
theorem f_build{t:TypeId}{parts:Array (Nat×Operand)}(vs:List (Nat×Value))(cells:Array Value)(hg:o.guard=none)(hd:o.dst=some k)(hk:aQ k N=true)(ho:o.op = .build t parts)
 (hv:parts.toList.map (λp=>(p.1,ev E p.2))=vs.map (λp=>(p.1,some p.2)))(hb:P.built t vs=some cells)(hn:bF P ops C0 Q rest N ((k,.agg cells)::E)):bF P ops C0 Q (o::rest) N E :=
 f_val _ hg hd hk (λa ha w _=>by
  have h1:=ha.parts _ _ hv
  unfold execOp
  simp only [ho,aG,run_build w t _ cells (by rw [rM,h1];exact hb),aD,aH]) hn
theorem f_eq{t t':TypeId}{x y:Operand}{q:Bool}(xs ys:Array Value)(hg:o.guard=none)(hd:o.dst=some k)(hk:aQ k N=true)(ho:o.op = .binOp .eql t x y t')(hx:ev E x=some (.agg xs))(hy:ev E y=some (.agg ys))
 (ht:P.eqGuardType P.depth t=false)(he:∀w,(Op.equalIn 10000 t (.agg xs) (.agg ys)).run P w = .ok q w)(hn:bF P ops C0 Q rest N ((k,.bool q)::E)):bF P ops C0 Q (o::rest) N E :=
 f_val _ hg hd hk (λa ha w _=>by
  have h1:=ha.eval hx;have h2:=ha.eval hy
  unfold execOp
  simp only [ho,h1,h2,aG,run_eqGuard_agg (hm:=ht),aD,binOp,Op.equal,Op.maxDepth,he,aH]) hn
end
section
variable{ops:Array Oper}{C0:World->Prop}{Q:Act->Prop}{N:Nat}{E:List (Nat×Value)}{o:Oper}{rest:List Oper}{k:Nat}
theorem f_callV{f:FuncId}{xs:Array Operand}{ats:Array TypeId}(args:Array Value)(V:Value->Prop)(hg:o.guard=none)(hd:o.dst=some k)(hk:aQ k N=true)
 (hf:Own f)(hc:∀w,C0 w->Calls Tryz.prog f args w (λe w'=>∃v,e = .returned v/\V v/\Below w.heap.size w w'))
 (ho:o.op = .call { callee:=.value (.func f),args:=xs,argTypes:=ats })(hx:xs.toList.map (ev E)=args.toList.map some)(hn:∀v,V v->bF Tryz.prog ops C0 Q rest N ((k,v)::E)):bF Tryz.prog ops C0 Q (o::rest) N E:=λa ha=>by
 refine b_callV (f:=f) (args:=args) V (by simp [aO,hg]) hf hc ho (ha.evals _ _ hx) λv hv=>?_;rw [hd];exact hn v hv _ (ha.put hk v)
end
section
variable{P:Program}{ops:Array Oper}{Q:Exit->Act->World->Prop}{N:Nat}{E:List (Nat×Value)}{w:World}{o:Oper}{rest:List Oper}{k:Nat}
theorem l_alloc{ty:TypeId}{zs:Array Value}(hg:o.guard=none)(hd:o.dst=some k)(hk:aQ k N=true)(ho:o.op = .alloc ty)(hz:(P.info? ty).bind (λi=>i.zero.map (·.cells))=some zs)
 (hn:lF P ops Q rest N ((k,.pointer (some ⟨w.heap.size,0,none⟩))::E) (w.alloc (.cells zs ty))):lF P ops Q (o::rest) N E w :=
 l_val _ hg hd hk (λ_ _=>exec_alloc ho hz _ w) hn
theorem l_allocA{ty:TypeId}(zs:Array Value)(hg:o.guard=none)(hd:o.dst=some k)(hk:aQ k N=true)(ho:o.op = .alloc ty)(hz:(P.info? ty).bind (λi=>i.zero.map (·.cells))=some zs)
 (hn:∀W g,Up w W->g=w.heap.size->Blk W g ty zs->lF P ops Q rest N ((k,.pointer (some ⟨g,0,none⟩))::E) W):lF P ops Q (o::rest) N E w :=
 l_alloc hg hd hk ho hz (hn _ _ ((Up.refl w).alloc _) rfl (Blk.new w _ _))
theorem l_set{ty t:TypeId}{p x:Operand}(g:Nat)(old cells:Array Value)(hg:o.guard=none)(hd:o.dst=none)(ho:o.op = .store ty p x)(hp:ev E p=some (.pointer (some ⟨g,0,none⟩)))(hx:ev E x=some (.agg cells))
 (hb:Blk w g t old)(hi:(P.info? ty).map (·.size)=some cells.size)(hz:old.size=cells.size)(h1:∀v∈cells.toList,v.oneCell'=true)(hn:lF P ops Q rest N E (w.setRow g cells)):lF P ops Q (o::rest) N E w:=λa ha=>by
 refine wpList_store_row hg ty p x ho g (ha.eval hp) cells (ha.eval hx) t old hb hi hz h1 ?_;rw [hd];exact hn a ha
end
theorem addI(a b:Nat)(h:a+b<9223372036854775808):IntKind.i64.wrap ((a:Int)+(b:Int))=((a+b:Nat):Int):=by rw [i64_left,wrap64_in _ (by omega)];omega
theorem subI(a b:Nat)(h:b<=a)(h2:a<9223372036854775808):IntKind.i64.wrap ((a:Int)-(b:Int))=((a-b:Nat):Int):=by rw [i64_left,wrap64_in _ (by omega)];omega
theorem f_set{P:Program}{ops:Array Oper}{Q:Exit->Act->World->Prop}{N:Nat}{E:List (Nat×Value)}{w:World}{o:Oper}{rest:List Oper}{ty t:TypeId}{p x:Operand}(g:Nat)(old cells:Array Value)(hg:o.guard=none)(hd:o.dst=none)(ho:o.op = .store ty p x)(hp:ev E p=some (.pointer (some ⟨g,0,none⟩)))(hx:ev E x=some (.agg cells))
 (hb:Blk w g t old)(hi:(P.info? ty).map (·.size)=some cells.size)(hz:old.size=cells.size)(h1:∀v∈cells.toList,v.oneCell'=true)(hn:∀w',Up w w'->Blk (w'.setRow g cells) g t cells->lF P ops Q rest N E (w'.setRow g cells)) :
  bF P ops (Up w) (λa'=>∀w',Up w w'->wpList P ops Q (o::rest) a' w') [] N E :=
 f_tail λw' hw'=>l_set g old cells hg hd ho hp hx (hw'.blk hb) hi hz h1 (hn w' hw' ((hw'.blk hb).row _))
def GS(w:World)(base e:Nat)(A:Option Addr)(c:Nat)(xs:List Value):Prop:=w.ownsRow base e 1 (.slice A xs.length c) xs.length xs
section
variable{w w':World}{base e c:Nat}{A:Option Addr}{xs:List Value}
theorem GS.cut(h:GS w base e A c xs):(A=none/\c=0/\xs=[])\/∃g,A=some ⟨g,0,none⟩/\base<=g/\VL w g xs:=by
 rcases h.2 with⟨h1,h2⟩|⟨g,cap,cur,hv,hb,hg,hn,hc,hcs,htk⟩
 ·injection h1 with h3 h4 h5
  exact .inl ⟨h3,h5,bV h2⟩
 ·injection hv with h3 h4 h5
  have hB:Blk w g e cur:=hg;refine .inr ⟨g,h3,hb,hB.lt,λj v hj=>?_,λj _=>hB.free j⟩;rw [hB.cell j];rw [<-htk,dE] at hj
  split at hj
  ·simpa using hj
  ·cases hj
theorem GS.lt(h:GS w base e A c xs):∀k,A.map (·.block)=some k->base<=k/\k<w.heap.size:=λk hk=>by
 rcases h.cut with⟨h1,_,_⟩|⟨g,h1,h2,h3⟩
 ·rw [h1] at hk
  cases hk
 ·rw [h1] at hk
  cases hk
  exact⟨h2,h3.lt⟩
theorem GS.grew{W0:World}(h:GS w base e A c xs)(hbe:Below base W0 w)(hg:w.grownBy w' (A.map (·.block)))(hz:base<=w.heap.size):Below base W0 w':=hbe.grown hg hz λk hk=>(h.lt k hk).1
end
section
variable{ops:Array Oper}{Q:Exit->Act->World->Prop}{N:Nat}{E:List (Nat×Value)}{w:World}{o:Oper}{rest:List Oper}{k:Nat}
theorem l_app{s x:Operand}{t e:TypeId}{z:Value}{base bytes c m d:Nat}{A:Option Addr}{xs news:List Value}{ad:Addr}(hg:o.guard=none)(hd:o.dst=some k)(hk:aQ k N=true)(ho:o.op = .call { callee:=.builtin .append,args:=#[s,x],argTypes:=#[t,t] })
 (hs:ev E s=some (.slice A xs.length c))(hx:ev E x=some (.slice (some ad) m d))(ht:Tryz.prog.underlying t=some (.slice e))(hi:(Tryz.prog.info? e).map (λi=>(i.zero,i.size,i.bytes))=some (some z,1,bytes))(hz1:z.cells.size=1)
 (hown:GS w base e A c xs)(hm:news.length=m)(hnews:∀j u,news[j]?=some u->w.cell? (ad.add j)=some u)(h1:∀u∈news,u.oneCell'=true)(hbytes:(xs.length+m)*bytes<=140737488355328)(h63:xs.length+m<=maxLen)(hbase:base<=w.heap.size)
 (hn:∀A' c' w',GS w' base e A' c' (xs++news)->w.grownBy w' (A.map (·.block))->(A'.map (·.block)=A.map (·.block)\/A'.map (·.block)=some w.heap.size)->lF Tryz.prog ops Q rest N ((k,.slice A' (xs++news).length c')::E) w') :
  lF Tryz.prog ops Q (o::rest) N E w:=by
 obtain⟨i,hi0,hz0,hs0,hb⟩:=info_parts hi
 have hob:∀(B:Option Addr) (n m:Nat),(Value.slice B n m).ownBlock=B.map (·.block):=λB n m=>by cases B<;>rfl
 obtain⟨v',w',hr,ho',hgr,_,hat⟩:=run_append_own_at (P:=Tryz.prog) w base t o.type e i z 1 bytes ht hi0 hz0 hs0 hb hz1 (by omega) _ xs.length xs hown ad m d news (by rw [hm,Nat.mul_one]) hnews h1 h63 hbytes hbase
 have hlen:(xs++news).length=xs.length+m:=by rw [aB,hm]
 rw [<-hlen] at ho'
 obtain⟨A',c',rfl⟩:∃A' c',v' = .slice A' (xs++news).length c':=by
  rcases ho'.2 with⟨h0,hn⟩|⟨g,cap,cur,hv,_⟩
  ·exact⟨none,0,by rw [h0,hn]⟩
  ·exact⟨_,_,hv⟩
 rw [hob] at hgr hat;rw [hob] at hat;refine l_val _ hg hd hk (λa ha=>?_) (hn A' c' w' ho' hgr hat);have h2:=ha.eval hs;have h3:=ha.eval hx
 unfold execOp
 simp only [ho,resolve,invoke,builtin,aG,aH,aD,jU,bX,oI,h2,h3,hr]
end
theorem info_byte:(Tryz.prog.info? 5).map (λi=>(i.zero,i.size,i.bytes))=some (some (.int .u8 0),1,1):=by kernel_rfl
def cop(z:List UInt8)(off:Nat)(l:List UInt8):List UInt8:=z.take off++(l++z.drop (off+l.length))
theorem cop_len{z l:List UInt8}{off:Nat}(h:off+l.length<=z.length):(cop z off l).length=z.length:=by
 simp [cop]
 omega
theorem size_u8:(Tryz.prog.info? 5).map (·.size)=some 1:=by kernel_rfl
def z64:List UInt8:=aA 64 0
def SB(w:World)(v:Value)(l:List UInt8):Prop:=∃A c,v = .slice A l.length c/\SL w 0 w.heap.size A l c
def PT(w:World)(A:Option Addr)(ls:List (List UInt8)):Prop:=Parts w w.heap.size A ls
theorem SB.later{w w':World}{v:Value}{l:List UInt8}(h:SB w v l)(hb:Below w.heap.size w w'):SB w' v l:=by
 obtain⟨A,c,e,h1⟩:=h;exact⟨A,c,e,(h1.below hb (aF _)).more (aF _) hb.size⟩
theorem PT.later{w w':World}{A:Option Addr}{ls:List (List UInt8)}(h:PT w A ls)(hb:Below w.heap.size w w'):PT w' A ls:=λhl=>by
 obtain⟨ad,e,h1,h2⟩:=h.below hb (aF _) hl;refine⟨ad,e,Nat.lt_of_lt_of_le h1 hb.size,λi l hi=>?_⟩;obtain⟨A',c,h3,h4⟩:=h2 i l hi;exact⟨A',c,h3,h4.more (aF _) hb.size⟩
theorem SB.nil(w:World):SB w (.slice none 0 0) []:=⟨none,0,rfl,SL.nil _ _ _⟩
theorem SB.arr{w:World}{g t off n c:Nat}{z l:List UInt8}(h:Blk w g t (By z).toArray)(hl:(z.drop off).take n=l)(hn:l.length=n)(hc:n<=c)(hc2:c<=9223372036854775807):SB w (.slice (some ⟨g,off,none⟩) n c) l:=by
 refine⟨some ⟨g,off,none⟩,c,by rw [hn],by rw [hn];exact hc,hc2,λh=>(by cases h),λ_=>⟨_,rfl,aI _,h.lt,λj x hx=>?_⟩⟩;rw [<-hl,dE] at hx
 split at hx
 ·rw [qQ] at hx
  rw [dA,h.cell]
  simp [By,hx]
 ·cases hx
theorem SB.all{w:World}{g t n:Nat}{l:List UInt8}(h:Blk w g t (By l).toArray)(hn:l.length=n)(hc2:n<=9223372036854775807):SB w (.slice (some ⟨g,0,none⟩) n n) l :=
 SB.arr h (by rw [List.drop_zero,List.take_of_length_le (by omega)]) hn (aF _) hc2
theorem GS.sb{w:World}{base c:Nat}{A:Option Addr}{l:List UInt8}(h:GS w base 5 A c (By l)):SB w (.slice A l.length c) l:=by
 have h2:=h.2;rw [By_len] at h2
 rcases h2 with⟨h1,h3⟩|⟨g,cap,cur,hv,_,hg,hn,hc,_,htk⟩
 ·injection h1 with h4 h5 h6
  have:=bV h3;subst h4 h6 this;exact SB.nil w
 ·injection hv with h4 h5 h6
  subst h4 h6;refine⟨_,c,rfl,hn,by unfold maxLen at hc;omega,λh=>(by cases h),λ_=>⟨_,rfl,aI _,Blk.lt hg,λj x hx=>?_⟩⟩;have hB:Blk w g _ cur:=hg;rw [dA,hB.cell,aZ]
  have h7:(By l)[j]?=some (.int .u8 (x.toNat:Int)):=by simp [By,hx]
  rw [<-htk,dE] at h7
  split at h7
  ·simpa using h7
  ·cases h7
theorem SL.part{w:World}{lo hi c:Nat}{A:Option Addr}{l:List UInt8}(h:SL w lo hi A l c){k n:Nat}(hk:k<=l.length):SL w lo hi (if c=k then A else A.map (·.add k)) ((l.drop k).take n) (c-k):=(h.cut hk).take n
section
variable{ops:Array Oper}{Rel:World->World->Prop}[hR:RelOk Rel]{C0:World->Prop}{Q:Facts->Act->Prop}{N:Nat}{E:List (Nat×Value)}{Fa:Told}{o:Oper}{rest:List (Nat×Oper)}{i k:Nat}
theorem g_call{f:FuncId}{xs:Array Operand}{ats:Array TypeId}(args:Array Value)(V:Value->World->Prop)(hg:o.guard=none)(hd:o.dst=some k)(hk:aQ k N=true)(hf:farP i Fa=true)(hp:∀v,Pers Rel (V v))(hown:Own f)
 (hc:∀w,C0 w->Uses o Fa w->Calls Tryz.prog f args w (λe w'=>∃v,e = .returned v/\V v w'/\Below w.heap.size w w'))
 (ho:o.op = .call { callee:=.value (.func f),args:=xs,argTypes:=ats })(hx:xs.toList.map (ev E)=args.toList.map some)
 (hn:∀v w,C0 w->V v w->gF Tryz.prog Rel ops C0 Q rest N ((k,v)::E) ((i,V v)::Fa)):gF Tryz.prog Rel ops C0 Q ((i,o)::rest) N E Fa :=
 g_mem V hg hd hk hf (by rw [ho];rfl) hp (λa ha w hw hu=>by
  rw [run_call_fn hown ho,map_eval (ha.evals _ _ hx)]
  exact⟨rfl,(hc w hw hu).mono λe w' ⟨v,h1,h2,h3⟩=>⟨v,h1,hR.below _ _ h3,h2⟩⟩) hn
theorem g_alloc{ty:TypeId}(zs:Array Value)(base:Nat)(hg:o.guard=none)(hd:o.dst=some k)(hk:aQ k N=true)(hf:farP i Fa=true)(ho:o.op = .alloc ty)(hz:(Tryz.prog.info? ty).bind (λi=>i.zero.map (·.cells))=some zs)
 (hb:∀w,C0 w->base<=w.heap.size)(hp:∀g,Pers Rel λw=>base<=g/\Blk w g ty zs)
 (hn:∀g w,C0 w->base<=g->Blk w g ty zs->gF Tryz.prog Rel ops C0 Q rest N ((k,.pointer (some ⟨g,0,none⟩))::E) ((i,λw=>base<=g/\Blk w g ty zs)::Fa)):gF Tryz.prog Rel ops C0 Q ((i,o)::rest) N E Fa :=
 g_mem (λv w=>∃g,v = .pointer (some ⟨g,0,none⟩)/\base<=g/\Blk w g ty zs) hg hd hk hf (by rw [ho];rfl) (λv w w' ⟨g,e,h⟩ hr=>⟨g,e,hp g w w' h hr⟩) (λa _ w hw _=>by
  rw [exec_alloc ho hz a w]
  exact⟨hR.below _ _ ((Below.refl w.heap.size w).alloc (aF _) _),w.heap.size,rfl,hb w hw,Blk.new w _ _⟩) (λv w hw ⟨g,e,h1,h2⟩=>by
  subst e
  intro a F ha hF
  refine hn g w hw h1 h2 a F ha λx hx w hw=>?_
  rcases aL.1 hx with rfl|hx
  ·obtain⟨g',e,h⟩:=hF (i,λw=>∃g',Value.pointer (some ⟨g,0,none⟩) = .pointer (some ⟨g',0,none⟩)/\base<=g'/\Blk w g' ty zs) aP w hw
   injection e with e
   injection e with e
   injection e with e
   subst e;exact h
  ·exact hF x (aJ _ hx) w hw)
end
theorem cells_slices:(Tryz.prog.info? 51).map (λi=>(i.zero,i.size,i.bytes))=some (some (.slice none 0 0),1,24):=by kernel_rfl
theorem run_slices(vs:List Value)(n:Nat)(parts:Array (Nat×Value))(hp:parts.toList=(vs.zipIdx 0).map λx=>(x.2,x.1))(hn:vs.length=n)(h0:0<n)(h24:n<=16777216)(h1:∀v∈vs,v.cells = #[v])(w:World) :
  (Instr.buildSlice 168 n parts).run Tryz.prog w = .ok (.slice (some ⟨w.heap.size,0,none⟩) n n) (w.alloc (.cells vs.toArray 51)):=by
 obtain⟨ie,h2,h3,h4,_⟩:=info_parts cells_slices;refine run_buildSlice w 168 51 n parts vs.toArray ie _ Tryz.underlying168 h2 h3 (by rw [h4];omega) (by rw [h4];omega) ?_;rw [hp,h4];exact Great.fill_flat _ _ h1 (by simp [hn])
def All2(w:World):List Value->List (List UInt8)->Prop
  | [],[]=>True
  | v::vs,l::ls=>SB w v l/\All2 w vs ls
  | _,_=>False
theorem All2.len{w:World}:∀{vs:List Value} {ls:List (List UInt8)},All2 w vs ls->vs.length=ls.length
 | [],[],_=>rfl
 | _::_,_::_,h=>by rw [bD,bD,All2.len h.2]
 | [],_::_,h=>h.elim
 | _::_,[],h=>h.elim
theorem All2.get{w:World}:∀{vs:List Value} {ls:List (List UInt8)},All2 w vs ls->∀(i:Nat) l,ls[i]?=some l->∃v,vs[i]?=some v/\SB w v l
 | [],[],_,i,l,h=>by simp at h
 | v::vs,l0::ls,h,0,l,hi=>by
  simp only [bH,aW] at hi;subst hi;exact⟨v,rfl,h.1⟩
 | v::vs,l0::ls,h,i+1,l,hi=>by
  obtain⟨u,h1,h2⟩:=All2.get h.2 i l (by simpa using hi);exact⟨u,by simpa using h1,h2⟩
 | [],_::_,h,_,_,_=>h.elim
 | _::_,[],h,_,_,_=>h.elim
theorem All2.one{w:World}:∀{vs:List Value} {ls:List (List UInt8)},All2 w vs ls->∀v∈vs,v.cells = #[v]/\v.oneCell'=true
 | [],_,_,v,hv=>by simp at hv
 | u::vs,l::ls,h,v,hv=>by
  rcases aL.1 hv with rfl|hv
  ·obtain⟨A,c,rfl,_⟩:=h.1
   exact⟨rfl,rfl⟩
  ·exact All2.one h.2 v hv
 | _::_,[],h,_,_=>h.elim
theorem All2.later{w w':World}(hb:Below w.heap.size w w'):∀{vs:List Value} {ls:List (List UInt8)},All2 w vs ls->All2 w' vs ls
 | [],[],_=>trivial
 | _::_,_::_,h=>⟨h.1.later hb,All2.later hb h.2⟩
 | [],_::_,h=>h.elim
 | _::_,[],h=>h.elim
structure NewS(base:Nat)(vs:List Value)(ls:List (List UInt8))(g:Nat)(w:World):Prop where
  ge:base<=g
  blk:Blk w g 51 vs.toArray
  all:All2 w vs ls
theorem NewS.later{base g:Nat}{vs:List Value}{ls:List (List UInt8)}{w w':World}(h:NewS base vs ls g w)(hb:Below w.heap.size w w'):NewS base vs ls g w':=⟨h.ge,h.blk.later hb,All2.later hb h.all⟩
theorem pt_of{w:World}{g:Nat}{vs:List Value}{ls:List (List UInt8)}{cs:Array Value}{t:Nat}(hB:Blk w g t cs)(htk:∀(j:Nat) (v:Value),vs[j]?=some v->cs[j]?=some v)(h:All2 w vs ls):PT w (some ⟨g,0,none⟩) ls:=λ_=>by
 refine⟨_,rfl,hB.lt,λi l hi=>?_⟩;obtain⟨v,h1,A,c,rfl,h3⟩:=h.get i l hi;refine⟨A,c,?_,h3⟩;rw [dA,hB.cell,aZ];exact htk i _ h1
theorem NewS.pt{base g:Nat}{vs:List Value}{ls:List (List UInt8)}{w:World}(h:NewS base vs ls g w):PT w (some ⟨g,0,none⟩) ls:=pt_of h.blk (λj v hj=>by simpa using hj) h.all
section
variable{ops:Array Oper}{C0:World->Prop}{Q:Facts->Act->Prop}{N:Nat}{E:List (Nat×Value)}{Fa:Told}{o:Oper}{rest:List (Nat×Oper)}{i k:Nat}
theorem g_slices{n:Nat}{parts:Array (Nat×Operand)}(vs:List Value)(ls:List (List UInt8))(base:Nat)(hg:o.guard=none)(hd:o.dst=some k)(hk:aQ k N=true)(hf:farP i Fa=true)(ho:o.op = .buildSlice 168 n parts)
 (hv:parts.toList.map (λp=>(p.1,ev E p.2))=(vs.zipIdx 0).map λx=>(x.2,some x.1))(hn:vs.length=n)(h0:0<n)(h24:n<=16777216)(hb:∀w,C0 w->base<=w.heap.size)(h:∀w,C0 w->Uses o Fa w->All2 w vs ls)
 (hk2:∀g w,C0 w->NewS base vs ls g w->gF Tryz.prog Bel ops C0 Q rest N ((k,.slice (some ⟨g,0,none⟩) n n)::E) ((i,NewS base vs ls g)::Fa)):gF Tryz.prog Bel ops C0 Q ((i,o)::rest) N E Fa :=
 g_mem (λv w=>∃g,v = .slice (some ⟨g,0,none⟩) n n/\NewS base vs ls g w) hg hd hk hf (by rw [ho];rfl) (λv w w' ⟨g,e,h⟩ hr=>⟨g,e,h.later hr⟩) (λa ha w hw hu=>by
  have hA:=h w hw hu
  have hm:∀(l:List (Nat×Operand)) (m:List (Value×Nat)),l.map (λp=>(p.1,ev E p.2))=m.map (λx=>(x.2,some x.1))->l.map (λ(i,x)=>(i,a.eval x))=m.map λx=>(x.2,x.1):=by
   intro l
   induction l with
   | nil=>intro m h;cases m with
    | nil=>rfl
    | cons=>cases h
   | cons p l ih=>intro m h;cases m with
    | nil=>cases h
    | cons u m =>
     simp only [bX,iZ,cY] at h ⊢;exact⟨⟨h.1.1,ha.eval h.1.2⟩,ih m h.2⟩
  have hr:=run_slices vs n (parts.map λ(i,x)=>(i,a.eval x)) (by rw [rM];exact hm _ _ hv) hn h0 h24 (λv hv=>(hA.one v hv).1) w;have hal:=(Below.refl w.heap.size w).alloc (aF _) (.cells vs.toArray 51)
  unfold execOp
  simp only [ho,aG,hr,aD,aH]
  exact⟨hal,w.heap.size,rfl,hb w hw,Blk.new w _ _,All2.later hal hA⟩) (λv w hw ⟨g,e,h2⟩=>by
  subst e
  intro a F ha hF
  refine hk2 g w hw h2 a F ha λx hx w hw=>?_
  rcases aL.1 hx with rfl|hx
  ·obtain⟨g',e,h⟩:=hF (i,λw=>∃g',Value.slice (some ⟨g,0,none⟩) n n = .slice (some ⟨g',0,none⟩) n n/\NewS base vs ls g' w) aP w hw
   injection e with e
   injection e with e
   injection e with e
   subst e;exact h
  ·exact hF x (aJ _ hx) w hw)
end
theorem All2.app{w:World}:∀{vs us:List Value} {ls ms:List (List UInt8)},All2 w vs ls->All2 w us ms->All2 w (vs++us) (ls++ms)
 | [],_,[],_,_,h=>h
 | _::_,_,_::_,_,h,h'=>⟨h.1,All2.app h.2 h'⟩
 | [],_,_::_,_,h,_=>h.elim
 | _::_,_,[],_,h,_=>h.elim
theorem pt_vals{w:World}{ad:Addr}:∀(ls:List (List UInt8)) (o:Nat),(∀(i:Nat) l,ls[i]?=some l->∃v,w.cell? (ad.add (o+i))=some v/\SB w v l)->∃vs,All2 w vs ls/\∀(j:Nat) u,vs[j]?=some u->w.cell? (ad.add (o+j))=some u
 | [],_,_=>⟨[],trivial,λj u h=>by simp at h⟩
 | l::ls,o,h=>by
  obtain⟨v,h1,h2⟩:=h 0 l rfl
  obtain⟨vs,h3,h4⟩:=pt_vals ls (o+1) λi l' hi=>by
   obtain⟨v',h5,h6⟩:=h (i+1) l' (by simpa using hi);exact⟨v',by rw [show o+1+i=o+(i+1) by omega];exact h5,h6⟩
  refine⟨v::vs,⟨h2,h3⟩,λj u hj=>?_⟩
  cases j with
  | zero =>
   simp only [bH,aW] at hj;subst hj;exact h1
  | succ j =>
   have:=h4 j u (by simpa using hj)
   rwa [show o+1+j=o+(j+1) by omega] at this
theorem GS.pt{w:World}{base c:Nat}{A:Option Addr}{vs:List Value}{ls:List (List UInt8)}(h:GS w base 51 A c vs)(hA:All2 w vs ls):PT w A ls/\ls.length<=c/\c<=9223372036854775807:=by
 have hlen:=hA.len
 rcases h.2 with⟨h1,h3⟩|⟨g,cap,cur,hv,_,hg,hn,hc,_,htk⟩
 ·injection h1 with h4 h5 h6
  subst h6;exact⟨λh0=>absurd h0 (by omega),by omega,by omega⟩
 ·injection hv with h4 h5 h6
  subst h4 h6;refine⟨pt_of (cs:=cur) hg (λj v hj=>?_) hA,by omega,by unfold maxLen at hc;omega⟩;rw [<-htk,dE] at hj
  split at hj
  ·simpa using hj
  ·cases hj
theorem NewS.gs{base n g:Nat}{vs:List Value}{ls:List (List UInt8)}{w:World}(h:NewS base vs ls g w)(hn:vs.length=n)(hm:n<=9223372036854775807):GS w base 51 (some ⟨g,0,none⟩) n vs:=by
 refine⟨by simp,.inr ⟨g,n,vs.toArray,rfl,h.ge,h.blk,by omega,by unfold maxLen;omega,by simp [hn],by simp⟩⟩
section
variable{ops:Array Oper}{Q:Exit->Act->World->Prop}{N:Nat}{E:List (Nat×Value)}{w:World}{o:Oper}{rest:List Oper}{k:Nat}
theorem l_appS{s x:Operand}{base c d:Nat}{A X:Option Addr}{vs:List Value}{ls:List (List UInt8)}(hg:o.guard=none)(hd:o.dst=some k)(hk:aQ k N=true)(ho:o.op = .call { callee:=.builtin .append,args:=#[s,x],argTypes:=#[168,168] })
 (hs:ev E s=some (.slice A vs.length c))(hx:ev E x=some (.slice X ls.length d))(hown:GS w base 51 A c vs){W0:World}(hW:Up W0 w)(hP:PT W0 X ls)(h0:X=none->d=0/\ls=[])(hb:(vs.length+ls.length)*24<=140737488355328)(hbase:base<=w.heap.size)
 (hn:∀A' c' w' us,All2 W0 us ls->GS w' base 51 A' c' (vs++us)->w.grownBy w' (A.map (·.block))->lF Tryz.prog ops Q rest N ((k,.slice A' (vs++us).length c')::E) w'):lF Tryz.prog ops Q (o::rest) N E w:=by
 cases X with
 | none =>
  obtain⟨rfl,rfl⟩:=h0 rfl;obtain⟨i,hi0,hz,hs0,hb⟩:=info_parts cells_slices;have hr:=run_append_owned_none (P:=Tryz.prog) w base 168 o.type 51 i 1 Tryz.underlying168 hi0 _ vs.length vs hown;have h1:=hn A c w [] trivial (by rw [bT];exact hown) (World.grownBy.refl _ _);rw [bT] at h1;refine l_val _ hg hd hk (λa ha=>?_) h1;have h2:=ha.eval hs;have h3:=ha.eval hx
  unfold execOp
  simp only [ho,resolve,invoke,builtin,aG,aH,aD,jU,bX,oI,h2,h3,List.length_nil,hr]
 | some ad =>
  obtain⟨us,h1,h2⟩:=pt_vals (w:=W0) (ad:=ad) ls 0 λi l hi=>by
   obtain⟨ad',e,_,h3⟩:=hP (by have:=(bA.1 hi).1;omega)
   injection e with e
   subst e;obtain⟨A',c',h4,h5⟩:=h3 i l hi;exact⟨_,by rw [aZ];exact h4,A',c',rfl,h5⟩
  have hl:=h1.len
  refine l_app (bytes:=24) (z:=.slice none 0 0) (news:=us) (base:=base) (e:=51) (xs:=vs) (A:=A) (c:=c) (ad:=ad) (m:=ls.length) (d:=d) hg hd hk ho hs hx Tryz.underlying168 cells_slices rfl hown hl (λj u hj=>by
   have h5:=h2 j u hj;rw [aZ] at h5
   exact(hW.cell (World.block_lt_of_cell? W0 _ h5)).trans h5) (λu hu=>(h1.one u hu).2) hb (by unfold maxLen;omega) hbase ?_
  intro A' c' w' h3 h4 _
  exact hn A' c' w' us h1 h3 h4
end
structure KeepG(g:Nat)(t:TypeId)(c:Array Value)(w w':World):Prop where
  os:w'.os=w.os
  tape:w'.tape=w.tape
  output:w'.output=w.output
  size:w.heap.size<=w'.heap.size
  block:∀k,k<w.heap.size->k≠g->w'.heap[k]?=w.heap[k]?
  here:g<w.heap.size->w'.heap[g]?=w.heap[g]?\/Blk w' g t c
section
variable{g:Nat}{t:TypeId}{c:Array Value}{w w' w'':World}
theorem KeepG.of(h:Below w.heap.size w w'):KeepG g t c w w':=⟨h.os,h.tape,h.output,h.size,λk hk _=>h.block k hk,λhk=>.inl (h.block g hk)⟩
instance:RelOk (KeepG g t c):=⟨λ_ _=>KeepG.of⟩
end
section
variable{P:Program}{ops:Array Oper}{Q:Exit->Act->World->Prop}{N:Nat}{E:List (Nat×Value)}{w:World}{o:Oper}{rest l:List Oper}{k:Nat}
def WG(ops:Array Oper)(N:Nat)(E:List (Nat×Value))(o:Oper):Prop:=o.guard=none\/∃j b t,o.guard=some (j,b)/\(ops[j]?).bind (·.dst)=some t/\aQ t N=true/\look E t=some (.bool b)
theorem WG.wanted{a:Act}(h:WG ops N E o)(ha:Fr N E a):aO o (yielded ops a.tmps)=true:=by
 rcases h with h|⟨j,b,t,hgd,hj,hN,ht⟩
 ·simp [aO,h]
 ·have htN:t<a.tmps.size:=by rw [ha.size];simpa using hN
  have h2:=ha.get t _ ht
  have h3:a.tmps[t]?=some (.bool b):=by
   simp only [sE,bL] at h2;rw [b7 htN] at h2 ⊢
   simpa using h2
  unfold aO
  rw [hgd]
  simp [yielded,hj,h3]
theorem l_valW(v:Value)(w':World)(hw:WG ops N E o)(hd:o.dst=some k)(hk:aQ k N=true)(h:∀a,Fr N E a->(execOp a.eval o).run P w = .ok (.value v) w')(hn:lF P ops Q rest N ((k,v)::E) w'):lF P ops Q (o::rest) N E w:=λa ha=>by
 have h1:=h a ha;have h2:=hn _ (ha.put hk v)
 unfold wpList
 rw [if_pos (hw.wanted ha)];refine .inl ?_
 unfold iU
 rw [h1];simp only [fT,hd];exact h2
end
def stepV(E:List (Nat×Value)):Op->Option Value
  | .move x=>ev E x
  | .assign x=>ev E x
  | .pick c x y=>match ev E c with
    | some (.bool true)=>ev E x
    | some (.bool false)=>ev E y
    | _=>none
  | .extract x i=>match ev E x with
    | some (.tuple vs)=>vs[i]?
    | _=>none
  | .unOp .not _ x=>match ev E x with
    | some (.bool true)=>some (.bool false)
    | some (.bool false)=>some (.bool true)
    | _=>none
  | .nilCheck x=>match ev E x with
    | some (.pointer (some p))=>some (.pointer (some p))
    | _=>none
  | _=>none
def wantG(ops:Array Oper)(N:Nat)(E:List (Nat×Value))(o:Oper):Option Bool :=
  match o.guard with
  | none=>some true
  | some (j,b)=>match (ops[j]?).bind (·.dst) with
    | some t=>match aQ t N with
      | true=>match look E t with
        | some (.bool true)=>some b
        | some (.bool false)=>some (!b)
        | _=>none
      | false=>none
    | none=>none
theorem wantG_ok{ops:Array Oper}{N:Nat}{E:List (Nat×Value)}{a:Act}{o:Oper}{q:Bool}(ha:Fr N E a)(h:wantG ops N E o=some q):aO o (yielded ops a.tmps)=q:=by
 unfold wantG at h
 split at h
 ·rename_i hg
  injection h with h
  subst h
  simp [aO,hg]
 ·rename_i j b hg
  split at h
  ·rename_i t hj
   split at h
   ·rename_i hN
    have htN:t<a.tmps.size:=by rw [ha.size];simpa using hN
    have key:∀c,look E t=some (.bool c)->a.tmps[t]?=some (.bool c):=λc hc=>by
     have h2:=ha.get t _ hc;simp only [sE,bL] at h2;rw [b7 htN] at h2 ⊢
     simpa using h2
    split at h
    ·rename_i hc
     injection h with h
     subst h
     unfold aO
     rw [hg]
     simp [yielded,hj,key _ hc]
    ·rename_i hc
     injection h with h
     subst h
     unfold aO
     rw [hg]
     cases b<;>simp [yielded,hj,key _ hc]
    ·cases h
   ·cases h
  ·cases h
def bareO(o:Oper):Oper:={ o with guard:=none }
section
variable{P:Program}{ops:Array Oper}{Q:Exit->Act->World->Prop}
theorem wpList_of_Bs{T:List Oper}:∀(L:List Oper) (a:Act) (w:World),L.all (λo=>stillG o.op)=true->wpB P ops (· = w) (λa'=>wpList P ops Q T a' w) L a->wpList P ops Q (L++T) a w
 | [],_,_,_,h=>h
 | o::L,a,w,hs,h=>by
  rw [List.all_cons,aN] at hs
  have key:∀V:Value->Prop,atB P o a w V->(∀v,V v->wpList P ops Q (L++T) (a.put o.dst v) w)->o.wp P a w (wpList P ops Q (L++T)) Q:=λV h3 hk=>by
   unfold atB at h3
   unfold iU
   have hst:=λn w'=>still_ok (P:=P) (ρ:=a.eval) (o:=o) (w:=w) (w':=w') (n:=n) hs.1;generalize (execOp a.eval o).run P w=r at *
   cases r with
   | ok n w' =>
    cases n<;>simp only [uponB] at h3<;>simp only [fT]
    case value u =>
     obtain⟨e1,e2⟩:=h3;rw [e1];exact hk _ e2
    case skip =>
     obtain⟨e1,e2⟩:=h3;rw [e1];exact hk _ e2
    case enter f args =>
     rcases hst _ _ rfl with⟨v,hv⟩|hv<;>cases hv
   | halt x w'=>simp only [uponB] at h3
  rw [mS]
  unfold wpList
  unfold wpB at h
  split at h
  ·rename_i hw
   rw [if_pos hw];refine .inl ?_
   rcases h with⟨v,h3,h4⟩|⟨_,V,h3,h4⟩
   ·exact key (· = v) (h3 w rfl) (λu hu=>by rw [hu];exact wpList_of_Bs L _ w hs.2 h4)
   ·exact key V (h3 w rfl) (λu hu=>wpList_of_Bs L _ w hs.2 (h4 u hu))
  ·rename_i hw
   rw [if_neg hw];exact wpList_of_Bs L _ w hs.2 h
variable{N:Nat}{E:List (Nat×Value)}{w:World}{l T:List Oper}
end
def loopsOf:Code->List Code
  | .loop c=>c::loopsOf c
  | .seq a b=>loopsOf a++loopsOf b
  | .block _ c=>loopsOf c
  | .scope c=>loopsOf c
  | .cond _ a b=>loopsOf a++loopsOf b
  | _=>[]
def argE:Nat->List Value->List (Nat×Value)
  | _,[]=>[]
  | j,v::vs=>(j,v)::argE (j+1) vs
theorem argE_look:∀(vs:List Value) (j k:Nat) (v:Value),look (argE j vs) k=some v->j<=k/\vs[k-j]?=some v
 | [],_,_,_,h=>by cases h
 | u::vs,j,k,v,h=>by
  rw [argE,look_cons] at h
  split at h
  ·rename_i e
   subst e
   cases h
   exact⟨aF _,by simp⟩
  ·obtain⟨h1,h2⟩:=argE_look vs (j+1) k v h
   refine⟨by omega,?_⟩;obtain⟨m,rfl⟩:∃m,k=j+1+m:=⟨k-(j+1),by omega⟩;rw [show j+1+m-(j+1)=m from by omega] at h2;rw [show j+1+m-j=m+1 from by omega]
   simpa using h2
theorem calls_F{P:Program}{f:FuncId}{fn:Func}{c:Code}{vs:List Value}{w:World}{R:Ending->World->Prop}(N:Nat)(hf:P.funcs[f]?=some fn)(hb:fn.body=some c)(hn:vs.length+(fn.ntmps-vs.length)=N)
 (h:cF P c (bodyPost P fn R) N (argE 0 vs) w):Calls P f vs.toArray w R:=by
 refine calls_of_wp hf hb (h _ (Fr.start (by simpa using hn) _ λk v hk=>?_));have:=(argE_look vs 0 k v hk).2
 simpa using this
theorem Fr.at{N:Nat}{E:List (Nat×Value)}{a:Act}(h:Fr N E a){k:Nat}{v:Value}(hk:look E k=some v):a.tmps.getD k undef=v:=h.get k v hk
theorem k_ret_row{P:Program}{fn:Func}{R:Ending->World->Prop}{N:Nat}{E:List (Nat×Value)}{w:World}{q:Tmp}{ty t:TypeId}{d:TypeDesc}(g:Nat)(cs:Array Value)(hr:fn.results = #[.cell q ty])(hq:look E q=some (.pointer (some ⟨g,0,none⟩)))(hb:Blk w g t cs)
 (hu:P.underlying ty=some d)(hd:(match d with | .struct _ | .array _ _=>true|_=>false)=true)(hi:(P.info? ty).map (·.size)=some cs.size)(h:R (.returned (.agg cs)) w):kF (bodyPost P fn R .ret) N E w:=λ_ ha=>bodyPost_ret (results_cell_row hr _ _ g t cs (0,0) d (ha.at hq) hb hu hd hi) ha.defers h
section
variable{ops:Array Oper}{Q:Exit->Act->World->Prop}{N:Nat}{E:List (Nat×Value)}{w:World}{o:Oper}{rest:List Oper}{k:Nat}
theorem ev_args{a:Act}(ha:Fr N E a):∀(l:List Operand) (m:List Value),l.map (ev E)=m.map some->l.map a.eval=m:=by
 intro l
 induction l with
 | nil=>intro m h;cases m with
  | nil=>rfl
  | cons=>cases h
 | cons y l ih=>intro m h;cases m with
  | nil=>cases h
  | cons u m =>
   simp only [bX,iZ] at h ⊢;exact⟨ha.eval h.1,ih m h.2⟩
theorem l_call{f:FuncId}{xs:Array Operand}{ats:Array TypeId}(args:Array Value){R:Ending->World->Prop}(hg:o.guard=none)(hd:o.dst=some k)(hk:aQ k N=true)
 (hf:Own f)(hc:Calls Tryz.prog f args w R)(ho:o.op = .call { callee:=.value (.func f),args:=xs,argTypes:=ats })(hx:xs.toList.map (ev E)=args.toList.map some)
 (hn:∀e w',R e w'->∃v,e = .returned v/\lF Tryz.prog ops Q rest N ((k,v)::E) w'):lF Tryz.prog ops Q (o::rest) N E w:=λa ha=>by
 have hr:=run_call_fn (a:=a) hf ho w;rw [map_eval (ev_args ha _ _ hx)] at hr
 unfold wpList
 rw [if_pos (by simp [aO,hg])];refine .inl ?_
 unfold iU
 rw [hr];simp only [fT,hd]
 exact hc.mono λe w' he=>by
  obtain⟨v,rfl,h1⟩:=hn e w' he;exact h1 _ (ha.put hk v)
end
end Go.Proofs.YtlhlkofpjhpaoaaGreatDoor
