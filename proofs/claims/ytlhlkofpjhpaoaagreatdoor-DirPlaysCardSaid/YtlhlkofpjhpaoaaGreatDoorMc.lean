import Derived.Test.YtlhlkofpjhpaoaaGreatDoorMb
import Derived.Deep.MidRow
import Derived.Laws.Tables
open Array renaming length_toList->a9,toList_append->dI,toArray_toList->dZ
open Bool renaming and_eq_true->aN,false_eq_true->l5
open Go.Builtin renaming len_->mI
open Go.Exit renaming inBlock->dN
open Go.Instr renaming sureAddr->iH,loadAt->iL,fill->jW,storeAt->pE
open Go.Region renaming wanted->aO
open Go.Result renaming andThen_ok->aD
open Go.Sem renaming run_bind->aG,run_pure->aH
open Iff renaming rfl->jO
open List renaming length_append->aB,mem_singleton->aE,mem_cons_of_mem->aJ,mem_cons->aL,mem_cons_self->aP,mem_of_getElem?->aR,append_assoc->a6,getElem?_eq_some_iff->bA,getElem?_cons_zero->bH,mem_map->bP,map_cons->bX,all_eq_true->cA,getElem?_append_right->cG,set_cons_zero->fH,set_cons_succ->fI,getElem?_append_left->fV,pairwise_iff_getElem->gT,getElem_of_mem->gV,map_toArray->jU,not_mem_nil->lM,nodup_cons->oB,map_nil->oI
open List.Pairwise renaming imp_of_mem->oQ,nil->sV
open Nat renaming le_of_ble_eq_true->aC,le_refl->aF,eq_of_beq_eq_true->aM,blt->aQ,zero_add->aZ,beq->bN,add_assoc->bZ,add_zero->eX,lt_irrefl->gI,add_sub_cancel_left->kO,ble->sB
open Option renaming map_some->bI
open Option.some renaming injEq->aW,inj->cR
open Prod.mk renaming injEq->cY
namespace Go.Proofs.YtlhlkofpjhpaoaaGreatDoor
open Go.RowKit Go.IntWalk
structure Chg(D:Nat->Prop)(w w':World):Prop where
  os:w'.os=w.os
  tape:w'.tape=w.tape
  output:w'.output=w.output
  size:w.heap.size<=w'.heap.size
  block:∀k,k<w.heap.size->¬D k->w'.heap[k]?=w.heap[k]?
section
variable{D D':Nat->Prop}{w w' w'':World}
theorem Chg.refl(D:Nat->Prop)(w:World):Chg D w w:=⟨rfl,rfl,rfl,aF _,λ_ _ _=>rfl⟩
theorem Chg.step(h:Chg D w w')(k:Chg D' w' w'')(hd:∀i,i<w.heap.size->D' i->D i):Chg D w w'' :=
 ⟨k.os.trans h.os,k.tape.trans h.tape,k.output.trans h.output,Nat.le_trans h.size k.size,λi hi hn=>(k.block i (Nat.lt_of_lt_of_le hi h.size) (λh'=>hn (hd i hi h'))).trans (h.block i hi hn)⟩
theorem Chg.mono(h:Chg D w w')(hd:∀i,i<w.heap.size->D i->D' i):Chg D' w w':=⟨h.os,h.tape,h.output,h.size,λi hi hn=>h.block i hi λh'=>hn (hd i hi h')⟩
theorem Chg.of_up(h:Up w w'):Chg D w w':=⟨h.os,h.tape,h.output,h.size,λk hk _=>h.block k hk⟩
theorem Chg.up(h:Chg D w w')(hd:∀i,i<w.heap.size->¬D i):Up w w':=⟨h.os,h.tape,h.output,h.size,λk hk=>h.block k hk (hd k hk)⟩
theorem Chg.of_grown{r:Option Nat}(h:w.grownBy w' r):Chg (λk=>r=some k) w w':=⟨h.os,h.tape,h.output,h.size,λk hk hn=>h.block k hk λe=>hn e.symm⟩
theorem Chg.row(w:World)(g:Nat)(cs:Array Value):Chg (λk=>k=g) w (w.setRow g cs):=⟨rfl,rfl,rfl,by simp [World.setRow],λk _ hn=>setRow_other w g k cs hn⟩
end
def Stb(D:Nat->Prop)(p:World->Prop)(w:World):Prop:=∀w',Chg D w w'->p w'
section
variable{D D':Nat->Prop}{w w':World}{p q:World->Prop}
theorem Stb.now(h:Stb D p w):p w:=h w (Chg.refl _ _)
theorem Stb.step(h:Stb D p w)(k:Chg D w w'):Stb D p w':=λw2 h2=>h w2 (k.step h2 λ_ _ h=>h)
theorem Stb.less(h:Stb D p w)(hd:∀k,k<w.heap.size->D' k->D k):Stb D' p w:=λw2 h2=>h w2 (h2.mono hd)
theorem Stb.imp(h:Stb D p w)(hpq:∀w,p w->q w):Stb D q w:=λw2 h2=>hpq _ (h w2 h2)
theorem Stb.and(h:Stb D p w)(h':Stb D q w):Stb D (λw=>p w/\q w) w:=λw2 h2=>⟨h w2 h2,h' w2 h2⟩
theorem Stb.past(h:Stb D p w)(k:Chg D w w')(hd:∀i,i<w.heap.size->D' i->D i):Stb D' p w':=λw2 h2=>h w2 (k.step h2 hd)
end
class Pst (p:World->Prop):Prop where
  later:∀w w',p w->Below w.heap.size w w'->p w'
theorem Stb.of_pst{p:World->Prop}[hp:Pst p]{D:Nat->Prop}{w:World}(h:p w)(hd:∀k,k<w.heap.size->¬D k):Stb D p w:=λw' hw=>hp.later w w' h (hw.up hd)
inductive SC where
  | v (x:Value)
  | b (e:Bool)
  | o (x:Value)
def SC.den:SC->Value
  | .v x=>x
  | .b e=>.bool e
  | .o x=>x
def SC.Ok:SC->Prop
  | .v _=>True
  | .b _=>True
  | .o x=>x.oneCell'=true/\x.cells = #[x]
inductive Pt where
  | one (s:SC)
  | agg (n:Nat) (cs:Array Value)
def Pt.cells:Pt->Array Value
  | .one s=>#[s.den]
  | .agg _ cs=>cs
def Pt.size:Pt->Nat
  | .one _=>1
  | .agg n _=>n
def Pt.Ok:Pt->Prop
  | .one s=>s.Ok/\s.den.oneCell'=true/\s.den.cells = #[s.den]
  | .agg n cs=>cs.size=n/\∀v∈cs.toList,v.oneCell'=true
theorem Pt.Ok.size{p:Pt}(h:p.Ok):p.cells.size=p.size:=by
 cases p with
 | one v=>rfl
 | agg n cs=>exact h.1
theorem Pt.Ok.one{p:Pt}(h:p.Ok):∀v∈p.cells.toList,v.oneCell'=true:=by
 cases p with
 | one v=>intro u hu;simp [Pt.cells] at hu;subst hu;exact h.2.1
 | agg n cs=>exact h.2
def catP:List Pt->Array Value
  | []=>#[]
  | [p]=>p.cells
  | p::q::r=>p.cells++catP (q::r)
def sizeP:List Pt->Nat
  | []=>0
  | p::r=>p.size+sizeP r
def OkP(ps:List Pt):Prop:=∀p∈ps,p.Ok
theorem catP_cons(p:Pt)(r:List Pt):catP (p::r)=p.cells++catP r:=by
 cases r with
 | nil=>simp [catP]
 | cons q r=>rfl
theorem OkP.size:∀{ps:List Pt},OkP ps->(catP ps).size=sizeP ps
 | [],_=>rfl
 | p::r,h=>by rw [catP_cons,Array.size_append,OkP.size (ps:=r) (λq hq=>h q (by simp [hq])),(h p (by simp)).size];rfl
theorem OkP.one:∀{ps:List Pt},OkP ps->∀v∈(catP ps).toList,v.oneCell'=true
 | [],_,v,hv=>by simp [catP] at hv
 | p::r,h,v,hv=>by
  rw [catP_cons,dI,List.mem_append] at hv
  rcases hv with hv|hv
  ·exact(h p (by simp)).one v hv
  ·exact OkP.one (ps:=r) (λq hq=>h q (by simp [hq])) v hv
def atP:List Pt->Nat->Option Pt
  | [],_=>none
  | p::r,off=>match bN off 0 with
    | true=>some p
    | false=>match sB p.size off with
      | true=>atP r (off-p.size)
      | false=>none
def setP:List Pt->Nat->Pt->Option (List Pt)
  | [],_,_=>none
  | p::r,off,q=>match bN off 0 with
    | true=>match bN p.size q.size with
      | true=>some (q::r)
      | false=>none
    | false=>match sB p.size off with
      | true=>(setP r (off-p.size) q).map (p :: ·)
      | false=>none
theorem atP_ok:∀{ps:List Pt} {off:Nat} {p:Pt},OkP ps->atP ps off=some p->p.Ok/\∃A Z,(catP ps).toList=A++(p.cells.toList++Z)/\A.length=off
 | [],_,_,_,h=>by cases h
 | q::r,off,p,hok,h=>by
  have hq:=hok q (by simp)
  unfold atP at h
  split at h
  ·rename_i e
   injection h with h
   subst h;exact⟨hq,[],(catP r).toList,by rw [catP_cons];simp,by simpa using (aM e).symm⟩
  ·split at h
   ·rename_i e
    have e:=aC e;obtain⟨h1,A,Z,h2,h3⟩:=atP_ok (λx hx=>hok x (by simp [hx])) h;exact⟨h1,q.cells.toList++A,Z,by rw [catP_cons,dI,h2,a6],by rw [aB,h3,a9,hq.size];omega⟩
   ·cases h
theorem setP_ok:∀{ps ps':List Pt} {off:Nat} {q:Pt},OkP ps->q.Ok->setP ps off q=some ps'->OkP ps'/\sizeP ps'=sizeP ps/\∃A B Z,(catP ps).toList=A++(B++Z)/\A.length=off/\B.length=q.size/\(catP ps').toList=A++(q.cells.toList++Z)
 | [],_,_,_,_,_,h=>by cases h
 | p::r,ps',off,q,hok,hq,h=>by
  have hp:=hok p (by simp)
  unfold setP at h
  split at h
  ·rename_i e
   split at h
   ·rename_i e2
    injection h with h
    subst h;have e2:=aM e2;refine⟨λx hx=>?_,by simp only [sizeP,e2],[],p.cells.toList,(catP r).toList,by rw [catP_cons];simp,by simpa using (aM e).symm,by rw [a9,hp.size,e2],by rw [catP_cons];simp⟩
    rcases aL.1 hx with rfl|hx
    ·exact hq
    ·exact hok x (by simp [hx])
   ·cases h
  ·split at h
   ·rename_i e
    have e:=aC e
    cases hs:setP r (off-p.size) q with
    | none=>rw [hs] at h;cases h
    | some r' =>
     rw [hs] at h;simp only [bI,aW] at h;subst h;obtain⟨h1,h2,A,B,Z,h3,h4,h5,h6⟩:=setP_ok (λx hx=>hok x (by simp [hx])) hq hs;refine⟨λx hx=>?_,by simp only [sizeP,h2],p.cells.toList++A,B,Z,by rw [catP_cons,dI,h3,a6],by rw [aB,h4,a9,hp.size];omega,h5,by rw [catP_cons,dI,h6,a6]⟩
     rcases aL.1 hx with rfl|hx
     ·exact hp
     ·exact h1 x hx
   ·cases h
inductive SQ where
  | c (s:SC)
  | p (ps:List Pt)
def SQ.den:SQ->Value
  | .c s=>s.den
  | .p ps=>.agg (catP ps)
def SQ.Ok:SQ->Prop
  | .c s=>s.Ok
  | .p ps=>OkP ps
inductive SV where
  | q (x:SQ)
  | a (j off:Nat)
  | s (j off n c:Nat)
  | t (vs:List SQ)
@[match_pattern] abbrev SV.v(x:Value):SV:=.q (.c (.v x))
@[match_pattern] abbrev SV.b(e:Bool):SV:=.q (.c (.b e))
@[match_pattern] abbrev SV.o(x:Value):SV:=.q (.c (.o x))
@[match_pattern] abbrev SV.p(ps:List Pt):SV:=.q (.p ps)
def SV.den(G:Nat->Nat):SV->Value
  | .q x=>x.den
  | .a j off=>.pointer (some ⟨G j,off,none⟩)
  | .s j off n c=>.slice (some ⟨G j,off,none⟩) n c
  | .t vs=>.tuple (vs.map SQ.den).toArray
def SV.Ok:SV->Prop
  | .q x=>x.Ok
  | .a _ _=>True
  | .s _ _ _ _=>True
  | .t vs=>∀x∈vs,x.Ok
def SV.farB(j:Nat):SV->Bool
  | .a i _=>!Nat.beq i j
  | .s i _ _ _=>!Nat.beq i j
  | _=>true
abbrev SE:=List (Nat×SV)
def lookS:SE->Nat->Option SV
  | [],_=>none
  | (k,v)::r,j=>match bN k j with
    | true=>some v
    | false=>lookS r j
def denE(G:Nat->Nat):SE->List (Nat×Value)
  | []=>[]
  | (k,v)::r=>(k,v.den G)::denE G r
theorem look_den(G:Nat->Nat):∀(E:SE) (j:Nat),look (denE G E) j=(lookS E j).map (SV.den G)
 | [],_=>rfl
 | (k,v)::r,j=>by
  unfold denE look lookS
  cases bN k j with
  | true=>rfl
  | false=>exact look_den G r j
def OkE(E:SE):Prop:=∀x∈E,x.2.Ok
theorem lookS_mem:∀{E:SE} {j:Nat} {v:SV},lookS E j=some v->(j,v)∈E
 | [],_,_,h=>by cases h
 | (k,u)::r,j,v,h=>by
  unfold lookS at h
  split at h
  ·rename_i e
   obtain rfl:=aM e
   cases h
   exact aP
  ·exact aJ _ (lookS_mem h)
theorem OkE.get{E:SE}(h:OkE E){j:Nat}{v:SV}(hj:lookS E j=some v):v.Ok:=h _ (lookS_mem hj)
theorem OkE.cons{E:SE}(h:OkE E){k:Nat}{v:SV}(hv:v.Ok):OkE ((k,v)::E):=λx hx=>by
 rcases aL.1 hx with rfl|hx
 ·exact hv
 ·exact h x hx
def evS(E:SE):Operand->Option SV
  | .tmp t=>lookS E t
  | .const v=>some (.v v)
  | .global g=>some (.v (.pointer (some ⟨g,0,none⟩)))
  | .func f=>some (.v (.func (.func f) #[] #[]))
theorem evS_ok{G:Nat->Nat}{E:SE}{x:Operand}{v:SV}(h:evS E x=some v):ev (denE G E) x=some (v.den G):=by
 cases x with
 | tmp t =>
  show look (denE G E) t=_
  rw [look_den];rw [show lookS E t=some v from h]
  rfl
 | const u=>cases h;rfl
 | global g=>cases h;rfl
 | func f=>cases h;rfl
theorem OkE.ev{E:SE}(h:OkE E){x:Operand}{v:SV}(hx:evS E x=some v):v.Ok:=by
 cases x with
 | tmp t=>exact h.get hx
 | const u=>cases hx;trivial
 | global g=>cases hx;trivial
 | func f=>cases hx;trivial
def evSs(E:SE):List Operand->Option (List SV)
  | []=>some []
  | x::r=>match evS E x,evSs E r with
    | some v,some vs=>some (v::vs)
    | _,_=>none
theorem evSs_ok{G:Nat->Nat}{E:SE}:∀{xs:List Operand} {vs:List SV},evSs E xs=some vs->xs.map (ev (denE G E))=(vs.map (SV.den G)).map some
 | [],vs,h=>by cases h;rfl
 | x::r,vs,h=>by
  unfold evSs at h
  split at h
  ·rename_i v us h1 h2
   injection h with h
   subst h;rw [bX,evS_ok h1,evSs_ok h2]
   rfl
  ·cases h
structure LV where
  j:Nat
  g:Option Nat
  t:TypeId
  ps:List Pt
def lookL:List LV->Nat->Option (List Pt)
  | [],_=>none
  | x::r,j=>match bN x.j j with
    | true=>some x.ps
    | false=>lookL r j
theorem lookL_mem:∀{L:List LV} {j:Nat} {ps:List Pt},lookL L j=some ps->∃x∈L,x.j=j/\x.ps=ps
 | [],_,_,h=>by cases h
 | x::r,j,ps,h=>by
  unfold lookL at h
  split at h
  ·rename_i e
   injection h with h
   exact⟨x,aP,aM e,h⟩
  ·obtain⟨y,h1,h2⟩:=lookL_mem h
   exact⟨y,aJ _ h1,h2⟩
def putL:List LV->Nat->List Pt->List LV
  | [],_,_=>[]
  | x::r,j,ps=>match bN x.j j with
    | true=>{ x with ps:=ps }::r
    | false=>x::putL r j ps
def namesL(L:List LV):List Nat:=L.map (·.j)
theorem putL_names:∀(L:List LV) (j:Nat) (ps:List Pt),namesL (putL L j ps)=namesL L
 | [],_,_=>rfl
 | x::r,j,ps=>by
  unfold putL
  split
  ·rfl
  ·exact congrArg (x.j :: ·) (putL_names r j ps)
def farL(j:Nat):List LV->Bool
  | []=>true
  | x::r=>!Nat.beq x.j j&&farL j r
structure Res where
  holds:World->(Nat->Prop)->Prop
  keep:∀{w w':World} {S:Nat->Prop},holds w S->(∀k,S k->w'.heap[k]?=w.heap[k]?)->holds w' S
  lt:∀{w:World} {S:Nat->Prop},holds w S->∀k,S k->k<w.heap.size
def starL:List Res->World->(Nat->Prop)->Prop
  | [],_,S=>∀k,¬S k
  | r::R,w,S=>∃S1 S2,r.holds w S1/\starL R w S2/\(∀k,S k↔S1 k\/S2 k)/\∀k,S1 k->¬S2 k
theorem starL.keep:∀{R:List Res} {w w':World} {S:Nat->Prop},starL R w S->(∀k,S k->w'.heap[k]?=w.heap[k]?)->starL R w' S
 | [],_,_,_,h,_=>h
 | r::_,_,_,_,⟨S1,S2,h1,h2,h3,h4⟩,hk=>⟨S1,S2,r.keep h1 λk hs=>hk k ((h3 k).2 (.inl hs)),h2.keep λk hs=>hk k ((h3 k).2 (.inr hs)),h3,h4⟩
theorem starL.lt:∀{R:List Res} {w:World} {S:Nat->Prop},starL R w S->∀k,S k->k<w.heap.size
 | [],_,_,h,k,hs=>absurd hs (h k)
 | r::_,_,_,⟨_,_,h1,h2,h3,_⟩,k,hs=>((h3 k).1 hs).elim (r.lt h1 k) (h2.lt k)
theorem starL.same{R:List Res}{w:World}{S S':Nat->Prop}(h:starL R w S)(e:∀k,S k↔S' k):starL R w S':=by
 have:S=S':=funext λk=>propext (e k)
 rwa [<-this]
theorem starL.app:∀{R R':List Res} {w:World} {S:Nat->Prop},starL (R++R') w S↔∃S1 S2,starL R w S1/\starL R' w S2/\(∀k,S k↔S1 k\/S2 k)/\∀k,S1 k->¬S2 k
 | [],R',w,S=>⟨λh=>⟨λ_=>False,S,λ_ h=>h,h,λk=>⟨.inr,λh=>h.elim False.elim id⟩,λ_ h=>h.elim⟩,λ⟨S1,S2,h1,h2,h3,_⟩=>by
   show starL R' w S
   exact h2.same λk=>⟨λh=>(h3 k).2 (.inr h),λh=>((h3 k).1 h).resolve_left (h1 k)⟩⟩
 | r::R,R',w,S=>by
  constructor
  ·rintro⟨S1,S2,h1,h2,h3,h4⟩
   obtain⟨S3,S4,h5,h6,h7,h8⟩:=starL.app.1 h2;refine⟨λk=>S1 k\/S3 k,S4,⟨S1,S3,h1,h5,λk=>jO,λk hk h=>h4 k hk ((h7 k).2 (.inl h))⟩,h6,λk=>?_,λk hk h=>?_⟩
   ·rw [h3 k,h7 k,or_assoc]
   ·rcases hk with hk|hk
    ·exact h4 k hk ((h7 k).2 (.inr h))
    ·exact h8 k hk h
  ·rintro⟨S0,S4,⟨S1,S3,h1,h5,h9,h10⟩,h6,h3,h8⟩
   refine⟨S1,λk=>S3 k\/S4 k,h1,starL.app.2 ⟨S3,S4,h5,h6,λk=>jO,λk hk=>h8 k ((h9 k).2 (.inr hk))⟩,λk=>by rw [h3 k,h9 k,or_assoc],λk hk h=>?_⟩
   rcases h with h|h
   ·exact h10 k hk h
   ·exact h8 k ((h9 k).2 (.inl hk)) h
theorem starL.perm{R R':List Res}(h:R.Perm R'):∀{w:World} {S:Nat->Prop},starL R w S->starL R' w S:=by
 induction h with
 | nil=>exact λh=>h
 | cons r _ ih =>
  rintro w S ⟨S1,S2,h1,h2,h3⟩
  exact⟨S1,S2,h1,ih h2,h3⟩
 | swap r r' R =>
  rintro w S ⟨S1,S2,h1,⟨S3,S4,h3,h4,h5,h6⟩,h7,h8⟩
  refine⟨S3,λk=>S1 k\/S4 k,h3,⟨S1,S4,h1,h4,λ_=>jO,λk hk hk'=>h8 k hk ((h5 k).2 (.inr hk'))⟩,λk=>?_,λk hk hk'=>?_⟩
  ·rw [h7 k,h5 k,<-or_assoc,<-or_assoc,or_comm (a:=S1 k)]
  ·rcases hk' with hk'|hk'
   ·exact h8 k hk' ((h5 k).2 (.inl hk))
   ·exact h6 k hk hk'
 | trans _ _ ih1 ih2=>exact λh=>ih2 (ih1 h)
theorem starL.at:∀{R:List Res} {i:Nat} {r:Res} {w:World} {S:Nat->Prop},starL R w S->R[i]?=some r->∃S1 S2,r.holds w S1/\(∀k,S k↔S1 k\/S2 k)/\(∀k,S1 k->¬S2 k)/\starL (R.eraseIdx i) w S2 /\
  ∀(r':Res) (w':World) (S':Nat->Prop),r'.holds w' S'->(∀k,S2 k->w'.heap[k]?=w.heap[k]?)->(∀k,S' k->¬S2 k)->starL (R.set i r') w' λk=>S' k\/S2 k
 | [],_,_,_,_,_,h=>by simp at h
 | r0::R,0,r,w,S,⟨S1,S2,h1,h2,h3,h4⟩,h=>by
  simp only [bH,aW] at h;subst h;exact⟨S1,S2,h1,h3,h4,h2,λr' w' S' hr hk hd=>⟨S',S2,hr,h2.keep hk,λ_=>jO,hd⟩⟩
 | r0::R,i+1,r,w,S,⟨S0,S',h1,h2,h3,h4⟩,h=>by
  obtain⟨S1,S2,h5,h6,h7,h8,h9⟩:=starL.at h2 (by simpa using h);refine⟨S1,λk=>S0 k\/S2 k,h5,λk=>?_,λk hk hk'=>?_,⟨S0,S2,h1,h8,λ_=>jO,λk hk hk'=>h4 k hk ((h6 k).2 (.inr hk'))⟩,λr' w' S3 hr hk hd=>?_⟩
  ·rw [h3 k,h6 k,<-or_assoc,<-or_assoc,or_comm (a:=S0 k)]
  ·rcases hk' with hk'|hk'
   ·exact h4 k hk' ((h6 k).2 (.inl hk))
   ·exact h7 k hk hk'
  ·refine⟨S0,λk=>S3 k\/S2 k,r0.keep h1 λk hs=>hk k (.inl hs),h9 r' w' S3 hr (λk hs=>hk k (.inr hs)) (λk hs hs'=>hd k hs (.inr hs')),λk=>?_,λk hk0 hs=>?_⟩
   ·exact or_left_comm
   ·rcases hs with hs|hs
    ·exact hd k hs (.inl hk0)
    ·exact h4 k hk0 ((h6 k).2 (.inr hs))
structure Env where
  E:SE
  L:List LV
  R:List Res
  F:World->Prop
  M:World->Prop
def Mine(S:Nat->Prop)(G:Nat->Nat)(L:List LV)(k:Nat):Prop:=S k\/∃j∈namesL L,G j=k
def Dof(X S:Nat->Prop)(G:Nat->Nat)(L:List LV)(k:Nat):Prop:=X k\/Mine S G L k
structure Base where
  X:Nat->Prop
  B:World
  D:Nat->Prop
def Nof(b:Base)(S:Nat->Prop)(G:Nat->Nat)(L:List LV)(k:Nat):Prop:=k<b.B.heap.size\/Mine S G L k
structure StW(b:Base)(G:Nat->Nat)(S:Nat->Prop)(L:List LV)(R:List Res)(F M:World->Prop)(w:World):Prop where
  var:∀x∈L,Blk w (G x.j) x.t (catP x.ps)/\OkP x.ps/\∀g,x.g=some g->G x.j=g
  apart:(namesL L).Pairwise λi j=>G i≠G j
  res:starL R w S
  sep:∀j∈namesL L,¬S (G j)
  fact:Stb (Dof b.X S G L) F w
  fresh:Stb (Nof b S G L) M w
  chg:Chg b.D b.B w
  mine:∀k,Mine S G L k->k<b.B.heap.size->b.D k
  old:∀k,b.X k->k<b.B.heap.size/\¬b.D k
structure StA(b:Base)(N:Nat)(e:Env)(G:Nat->Nat)(S:Nat->Prop)(a:Act)(w:World):Prop where
  fr:Fr N (denE G e.E) a
  ok:OkE e.E
  st:StW b G S e.L e.R e.F e.M w
def St(b:Base)(N:Nat)(e:Env)(a:Act)(w:World):Prop:=∃G S,StA b N e G S a w
section
variable{b:Base}{G:Nat->Nat}{S:Nat->Prop}{L:List LV}{R:List Res}{F M:World->Prop}{w w':World}
theorem Dof.nof(h:∀k,b.X k->k<b.B.heap.size/\¬b.D k){k:Nat}(hk:Dof b.X S G L k):Nof b S G L k:=hk.imp (λhx=>(h k hx).1) id
theorem StW.lt(h:StW b G S L R F M w):∀k,Mine S G L k->k<w.heap.size:=λk hk=>by
 rcases hk with hk|⟨j,hj,rfl⟩
 ·exact h.res.lt k hk
 ·obtain⟨x,hx,rfl⟩:=bP.1 hj
  exact(h.var x hx).1.lt
theorem StW.later(h:StW b G S L R F M w)(k:Below w.heap.size w w'):StW b G S L R F M w' :=
 ⟨λx hx=>⟨(h.var x hx).1.later k,(h.var x hx).2⟩,h.apart,h.res.keep λi hi=>k.block i (h.res.lt i hi),h.sep,h.fact.step (Chg.of_up k),h.fresh.step (Chg.of_up k),h.chg.step (D':=λ_=>False) (Chg.of_up k) (λ_ _ h=>h.elim),h.mine,h.old⟩
theorem StW.all(h:StW b G S L R F M w):Stb (Dof b.X S G L) (λw=>F w/\M w) w:=h.fact.and (h.fresh.less λ_ _ hk=>hk.nof h.old)
theorem StW.imp(h:StW b G S L R F M w){F' M':World->Prop}(hF:∀w,F w->M w->F' w)(hM:∀w,M w->M' w):StW b G S L R F' M' w:={ h with fact:=h.all.imp λw hw=>hF w hw.1 hw.2,fresh:=h.fresh.imp hM }
theorem StW.and(h:StW b G S L R F M w){p:World->Prop}(hp:Stb (Dof b.X S G L) p w):StW b G S L R (λw=>p w/\F w) M w:={ h with fact:=hp.and h.fact }
theorem StW.andM(h:StW b G S L R F M w){p:World->Prop}(hp:Stb (Nof b S G L) p w):StW b G S L R F (λw=>p w/\M w) w:={ h with fresh:=hp.and h.fresh }
end
structure TyR where
  t:TypeId
  kind:Nat
  zero:List Pt
  el:Option TypeId:=none
  ik:Option IntKind:=none
  pt:Bool:=false
  w:Nat:=8
def kindOf:TypeDesc->Nat
  | .array _ _=>1
  | .struct _=>2
  | _=>0
def elOf:TypeDesc->Option TypeId
  | .slice e=>some e
  | _=>none
def ikOf:TypeDesc->Option IntKind
  | .int k=>some k
  | _=>none
def ptOf:TypeDesc->Bool
  | .pointer _=>true
  | _=>false
def rowOf(P:Program)(t:TypeId):Option (Nat×Option (Array Value)×Nat×Option (List (Nat×Nat))×Option TypeId×Option IntKind×Bool×Nat) :=
  match P.info? t,P.underlying t with
  | some it,some d=>some (it.size,it.zero.map (·.cells),kindOf d,(match d with
    | .struct fs=>fs.toList.mapM λf=>(P.info? f.type).map λi=>(f.offset,i.size)
    | .array _ e=>(P.info? e).map λ_=>[]
    | _=>some []),elOf d,ikOf d,ptOf d,it.bytes)
  | _,_=>none
def placesP:Nat->List Pt->List (Nat×Nat)
  | _,[]=>[]
  | o,p::r=>(o,p.size)::placesP (o+p.size) r
def TyR.ok(P:Program)(r:TyR):Prop:=rowOf P r.t=some (sizeP r.zero,some (catP r.zero),r.kind,some (match r.kind with|2=>placesP 0 r.zero|_=>[]),r.el,r.ik,r.pt,r.w)/\OkP r.zero
def OkT(P:Program)(T:List TyR):Prop:=∀r∈T,r.ok P
def isOneB:Value->Bool
  | .agg _=>false
  | .tuple _=>false
  | _=>true
theorem isOneB_ok{v:Value}(h:isOneB v=true):v.oneCell'=true/\v.cells = #[v]:=by
 cases v<;>first|exact⟨rfl,rfl⟩|cases h
def okPB(ps:List Pt):Bool:=ps.all λp=>match p with
  | .one (.v v)=>isOneB v
  | .one _=>false
  | .agg n cs=>cs.size==n&&cs.toList.all λv=>v.oneCell'
theorem okPB_ok{ps:List Pt}(h:okPB ps=true):OkP ps:=λp hp=>by
 have:=cA.1 h p hp
 cases p with
 | one s =>
  cases s with
  | v x=>exact⟨trivial,isOneB_ok this⟩
  | b e=>cases this
  | o x=>cases this
 | agg n cs =>
  simp only [aN,beq_iff_eq,cA] at this;exact this
theorem okT_of{P:Program}{T:List TyR}(h:T.map (λr=>rowOf P r.t)=T.map λr=>some (sizeP r.zero,some (catP r.zero),r.kind,some (match r.kind with|2=>placesP 0 r.zero|_=>[]),r.el,r.ik,r.pt,r.w))
 (h2:(T.all λr=>okPB r.zero)=true):OkT P T:=λr hr=>by
 refine⟨?_,okPB_ok (cA.1 h2 r hr)⟩;obtain⟨i,hi,rfl⟩:=gV hr;have h1:=congrArg (·[i]?) h
 simpa [hi] using h1
def findT:List TyR->TypeId->Option TyR
  | [],_=>none
  | r::T,t=>match bN r.t t with
    | true=>some r
    | false=>findT T t
theorem findT_ok{P:Program}:∀{T:List TyR} {t:TypeId} {r:TyR},OkT P T->findT T t=some r->r.ok P/\r.t=t
 | [],_,_,_,h=>by cases h
 | r0::T,t,r,hT,h=>by
  unfold findT at h
  split at h
  ·rename_i e
   injection h with h
   subst h;exact⟨hT _ aP,aM e⟩
  ·exact findT_ok (λr hr=>hT r (aJ _ hr)) h
section
variable{P:Program}{r:TyR}
theorem TyR.ok.info(h:r.ok P):∃it d,P.info? r.t=some it/\P.underlying r.t=some d/\it.size=sizeP r.zero/\it.zero.map (·.cells)=some (catP r.zero)/\kindOf d=r.kind /\
  (match d with | .struct fs=>fs.toList.mapM λf=>(P.info? f.type).map λi=>(f.offset,i.size) | .array _ e=>(P.info? e).map λ_=>[]|_=>some [])=some (match r.kind with|2=>placesP 0 r.zero|_=>[])/\elOf d=r.el/\ikOf d=r.ik/\ptOf d=r.pt/\it.bytes=r.w:=by
 have h1:=h.1
 unfold rowOf at h1
 split at h1
 ·rename_i it d h2 h3
  simp only [aW,cY] at h1;exact⟨it,d,h2,h3,h1.1,h1.2.1,h1.2.2.1,h1.2.2.2.1,h1.2.2.2.2⟩
 ·cases h1
end
theorem kind_row{d:TypeDesc}(h:kindOf d≠0):d.isRow=true:=by
 cases d<;>first|rfl|exact absurd rfl h
theorem kind_not{d:TypeDesc}(h:kindOf d=0):d.isRow=false:=by
 cases d<;>first|rfl|cases h
def loadS(T:List TyR)(ps:List Pt)(t:TypeId)(off:Nat):Option SQ:=match findT T t with
  | none=>none
  | some r=>match r.kind with
    | 0=>match atP ps off with
      | some (.one v)=>some (.c v)
      | _=>none
    | _+1=>match bN off 0,bN (sizeP ps) (sizeP r.zero) with
      | true,true=>some (.p ps)
      | _,_=>match atP ps off with
        | some (.agg n cs)=>match bN n (sizeP r.zero) with
          | true=>some (.p [.agg n cs])
          | false=>none
        | _=>none
theorem range_of{w:World}{g ty:Nat}{cs:Array Value}{A B Z:List Value}(hb:Blk w g ty cs)(h:cs.toList=A++(B++Z)):w.rangeAt g A.length B:=λj v hj=>by
 rw [hb.cell]
 have h1:cs.toList[A.length+j]?=some v:=by
  rw [h,cG (by omega),kO,fV (bA.1 hj).1];exact hj
 simpa using h1
theorem run_load_cell{P:Program}{w:World}{t:TypeId}{a:Addr}{v:Value}{d:TypeDesc}(hu:P.underlying t=some d)(hd:d.isRow=false)(hc:w.cell? a=some v):(iL t (.pointer (some a))).run P w = .ok v w:=by
 have h1:(isAgg t).run P w = .ok false w:=by
  unfold isAgg
  simp only [aG,run_underlying hu,aD]
  cases d<;>first|rfl|cases hd
 simp only [iL,iH,loadVar,aG,aH,aD,h1,l5,if_false]
 simp [load,Sem.run,hc]
theorem run_load_row{P:Program}{w:World}{t:TypeId}{g off:Nat}{cs:Array Value}{d:TypeDesc}(hu:P.underlying t=some d)(hd:d.isRow=true)(hi:(P.info? t).map (·.size)=some cs.size)(hc:w.rangeAt g off cs.toList) :
  (iL t (.pointer (some ⟨g,off,none⟩))).run P w = .ok (.agg cs) w:=by
 have h1:=run_loadVar_mid w g off t cs.toList d hc hu hd (by simpa using hi);simp only [iL,iH,aG,aH,aD,h1,dZ]
theorem range_in{w:World}{g base:Nat}{cs A B Z:List Value}(hb:w.rangeAt g base cs)(h:cs=A++(B++Z)):w.rangeAt g (base+A.length) B:=λj v hj=>by
 rw [bZ];refine hb (A.length+j) v ?_;rw [h,cG (by omega),kO,fV (bA.1 hj).1];exact hj
theorem loadS_at{P:Program}{T:List TyR}(hT:OkT P T){ps:List Pt}{t:TypeId}{off:Nat}{q:SQ}(hok:OkP ps)(h:loadS T ps t off=some q) :
  q.Ok/\∀{w:World} {g base:Nat},w.rangeAt g base (catP ps).toList->(iL t (.pointer (some ⟨g,base+off,none⟩))).run P w = .ok q.den w:=by
 unfold loadS at h
 split at h
 ·cases h
 rename_i r hr
 have hro:=findT_ok hT hr;clear hr;obtain⟨hro,rfl⟩:=hro;obtain⟨it,d,h1,h2,h3,h4,h5, -⟩:=hro.info
 split at h
 ·rename_i hk
  split at h
  ·rename_i v hv
   injection h with h
   subst h;obtain⟨ho,A,Z,e,hA⟩:=atP_ok hok hv;refine⟨ho.1,λhb=>run_load_cell h2 (kind_not (by rw [h5,hk])) ?_⟩;have:=range_in hb e 0 v.den rfl
   rwa [hA,eX] at this
  ·cases h
 ·rename_i hk
  have hd:d.isRow=true:=kind_row (by rw [h5,hk];omega)
  split at h
  ·rename_i e1 e2
   injection h with h
   subst h;obtain rfl:=aM e1;exact⟨hok,λhb=>run_load_row h2 hd (by rw [h1,bI,h3,hok.size,aM e2]) hb⟩
  ·split at h
   ·rename_i n cs hv
    split at h
    ·rename_i e
     injection h with h
     subst h;obtain⟨ho,A,Z,e3,hA⟩:=atP_ok hok hv;refine⟨λp hp=>by rw [aE.1 hp];exact ho,λhb=>run_load_row h2 hd (by rw [h1,bI,h3];exact congrArg some ((aM e).symm.trans ho.1.symm)) ?_⟩;have:=range_in hb e3
     rwa [hA] at this
    ·cases h
   ·cases h
theorem loadS_ok{P:Program}{T:List TyR}(hT:OkT P T){ps:List Pt}{t:TypeId}{off:Nat}{q:SQ}(hok:OkP ps)(h:loadS T ps t off=some q) :
  q.Ok/\∀{w:World} {g ty:Nat},Blk w g ty (catP ps)->(iL t (.pointer (some ⟨g,off,none⟩))).run P w = .ok q.den w:=by
 obtain⟨h1,h2⟩:=loadS_at hT hok h;refine⟨h1,λ{w g ty} hb=>?_⟩;have h3:w.rangeAt g 0 (catP ps).toList:=range_of (A:=[]) (Z:=[]) hb (by simp);have:=h2 h3
 rwa [aZ] at this
def fitC:SC->Bool
  | .v x=>isOneB x
  | _=>true
theorem fitC_ok{s:SC}(hs:s.Ok)(h:fitC s=true):s.den.oneCell'=true/\s.den.cells = #[s.den]:=by
 cases s with
 | v x=>exact isOneB_ok h
 | b e=>exact⟨rfl,rfl⟩
 | o x=>exact hs
def fitP(n:Nat):SQ->Option Pt
  | .c s=>match bN n 1,fitC s with
    | true,true=>some (.one s)
    | _,_=>none
  | .p ps=>match bN (sizeP ps) n with
    | true=>match ps with
      | [.agg m cs]=>some (.agg m cs)
      | _=>some (.agg n (catP ps))
    | false=>none
theorem fitP_ok{n:Nat}{q:SQ}{p:Pt}(hq:q.Ok)(h:fitP n q=some p):p.Ok/\p.size=n/\q.den.cells=p.cells:=by
 cases q with
 | c s =>
  simp only [fitP] at h
  split at h
  ·rename_i e1 e2
   injection h with h
   subst h;obtain⟨h1,h2⟩:=fitC_ok hq e2;exact⟨⟨hq,h1,h2⟩,(aM e1).symm,h2⟩
  ·cases h
 | p ps =>
  simp only [fitP] at h
  split at h
  ·rename_i e
   have e:=aM e
   split at h
   ·rename_i m cs
    injection h with h
    subst h;exact⟨hq _ aP,e,rfl⟩
   ·injection h with h
    subst h;exact⟨⟨(OkP.size hq).trans e,OkP.one hq⟩,rfl,rfl⟩
  ·cases h
def SQ.parts:SQ->Option (List Pt)
  | .p ps=>some ps
  | _=>none
theorem SQ.parts_ok{q:SQ}{ps:List Pt}(h:q.parts=some ps):q = .p ps:=by
 cases q with
 | c x=>cases h
 | p qs=>cases h;rfl
def storeS(T:List TyR)(ps:List Pt)(t:TypeId)(off:Nat)(q:SQ):Option (List Pt):=match findT T t with
  | none=>none
  | some r=>match bN off 0,bN (sizeP ps) (sizeP r.zero),q.parts with
    | true,true,some qs=>match bN (sizeP qs) (sizeP r.zero) with
      | true=>some qs
      | false=>none
    | _,_,_=>match fitP (sizeP r.zero) q with
      | some p=>setP ps off p
      | none=>none
theorem run_store_part{P:Program}{w:World}{t:TypeId}{g off ty:Nat}{v:Value}{cs:Array Value}(hb:Blk w g ty cs)(hi:(P.info? t).map (·.size)=some v.cells.size)(hfit:off+v.cells.size<=cs.size)(h1:∀u∈v.cells.toList,u.oneCell'=true) :
  (pE t (.pointer (some ⟨g,off,none⟩)) v).run P w = .ok () (w.setRow g (cs.toList.take off++v.cells.toList++cs.toList.drop (off+v.cells.size)).toArray):=by
 have hst:=run_storeCells_at P g off ty v.cells.toList 0 cs w hb (by simp;omega) h1;simp only [eX,a9] at hst
 cases hq:P.info? t with
 | none=>simp [hq] at hi
 | some i =>
  have hs:i.size=v.cells.size:=by simpa [hq] using hi
  simp [pE,iH,storeVar,sizeOf,typeInfo,hq,hs,aG,hst]
theorem storeS_ok{P:Program}{T:List TyR}(hT:OkT P T){ps ps':List Pt}{t:TypeId}{off:Nat}{q:SQ}(hok:OkP ps)(hq:q.Ok)(h:storeS T ps t off q=some ps') :
  OkP ps'/\∀{w:World} {g ty:Nat},Blk w g ty (catP ps)->(pE t (.pointer (some ⟨g,off,none⟩)) q.den).run P w = .ok () (w.setRow g (catP ps')):=by
 unfold storeS at h
 split at h
 ·cases h
 rename_i r hr
 have hro:=findT_ok hT hr;clear hr;obtain⟨hro,rfl⟩:=hro;obtain⟨it,d,h1,h2,h3,h4,h5, -⟩:=hro.info
 split at h
 ·rename_i qs e1 e2 eq
  obtain rfl:=SQ.parts_ok eq
  split at h
  ·rename_i e3
   injection h with h
   subst h;obtain rfl:=aM e1;have e2:=aM e2;have e3:=aM e3
   have hsz:(catP qs).size=(catP ps).size:=by rw [OkP.size hq,hok.size,e2,e3]
   refine⟨hq,λhb=>?_⟩;have hr:=run_store_part (P:=P) (t:=r.t) (v:=.agg (catP qs)) (off:=0) hb (by rw [h1,bI,h3];exact congrArg some ((OkP.size hq).trans e3).symm) (by rw [aZ];exact Nat.le_of_eq hsz) (OkP.one hq);simp only [Value.cells,List.take_zero,List.nil_append,aZ] at hr;rw [List.drop_eq_nil_of_le (by rw [a9];omega),List.append_nil,dZ] at hr;exact hr
  ·cases h
 ·split at h
  ·rename_i p hp
   obtain⟨hp1,hp2,hp3⟩:=fitP_ok hq hp;obtain⟨h6,h7,A,B,Z,h8,h9,h10,h11⟩:=setP_ok hok hp1 h;refine⟨h6,λhb=>?_⟩
   have hsz:q.den.cells.size=B.length:=by rw [hp3,hp1.size,h10]
   have hcl:(catP ps).size=A.length+(B.length+Z.length):=by
    rw [<-a9,h8,aB,aB]
   have hr:=run_store_part (P:=P) (t:=r.t) (v:=q.den) (off:=off) hb (by rw [h1,bI,h3,hp3,hp1.size,hp2]) (by omega) (by rw [hp3];exact hp1.one);rw [hr]
   congr 1
   rw [<-dZ (xs:=catP ps'),h11,h8,hsz,<-h9,hp3]
   congr 2
   rw [List.take_left,a6,<-a6 A B Z,<-aB,List.drop_left]
  ·cases h
def fieldS(T:List TyR)(t:TypeId)(i:Nat):Option Nat:=match findT T t with
  | none=>none
  | some r=>match bN r.kind 2 with
    | true=>match (placesP 0 r.zero)[i]? with
      | some (o,n)=>match sB 1 n with
        | true=>some o
        | false=>none
      | none=>none
    | false=>none
theorem mapM_get{α β:Type}{f:α->Option β}:∀{l:List α} {m:List β},l.mapM f=some m->∀(i:Nat) b,m[i]?=some b->∃a,l[i]?=some a/\f a=some b
 | [],m,h,i,b,hb=>by
  have:m=[]:=by simpa using h.symm
  subst this
  simp at hb
 | x::l,m,h,i,b,hb=>by
  rw [List.mapM_cons] at h
  cases hx:f x with
  | none=>rw [hx] at h;cases h
  | some y =>
   rw [hx] at h
   cases hm:l.mapM f with
   | none=>rw [hm] at h;cases h
   | some ys =>
    rw [hm] at h;have e:m=y::ys:=(cR h).symm;subst e
    cases i with
    | zero =>
     simp only [bH,aW] at hb;exact⟨x,rfl,by rw [hx,hb]⟩
    | succ i =>
     obtain⟨a,h1,h2⟩:=mapM_get hm i b (by simpa using hb);exact⟨a,by simpa using h1,h2⟩
theorem fieldS_ok{P:Program}{T:List TyR}(hT:OkT P T){t:TypeId}{i o:Nat}(h:fieldS T t i=some o)(g off:Nat)(w:World) :
  (Instr.fieldAt t (.pointer (some ⟨g,off,none⟩)) i).run P w = .ok (.pointer (some ⟨g,off+o,none⟩)) w:=by
 unfold fieldS at h
 split at h
 ·cases h
 rename_i r hr
 have hro:=findT_ok hT hr;clear hr;obtain⟨hro,rfl⟩:=hro;obtain⟨it,d,h1,h2,h3,h4,h5,h6, -⟩:=hro.info
 split at h
 ·rename_i hk
  have hk:=aM hk
  split at h
  ·rename_i o' n hp
   split at h
   ·rename_i hn
    injection h with h
    subst h;have hn:=aC hn
    have hd:kindOf d=2:=by rw [h5,hk]
    cases d<;>first|(cases hd;done)|skip
    rename_i fs
    rw [hk] at h6
    dsimp only at h6
    obtain⟨f,h7,h8⟩:=mapM_get h6 i (o',n) hp
    cases hf:P.info? f.type with
    | none=>rw [hf] at h8;cases h8
    | some fi =>
     rw [hf] at h8;simp only [bI,aW,cY] at h8
     have h9:fs[i]?=some f:=by simpa using h7
     have h10:¬fi.size=0:=by omega
     simp only [Instr.fieldAt,aG,run_underlying h2,aD,h9,iH,aH,fieldPlace,sizeOf,typeInfo]
     simp [hf,h10,Addr.add_mid,h8.1]
   ·cases h
  ·cases h
 ·cases h
theorem fill_cells(place:Nat->Option (Nat×Nat))(i n:Nat)(A O Z V:List Value)(rest:List (Nat×Value))(v:Value)(hp:place i=some (A.length,n))(hV:V.length=n)(hO:O.length=n)(hv:v.cells=V.toArray) :
  jW place (A++(O++Z)).toArray ((i,v)::rest)=jW place (A++(V++Z)).toArray rest:=by
 have:=fill_put place i n A O Z V rest hp hV hO;rw [<-this,jW,jW,hv]
 rfl
def buildS(E:SE):List Pt->List (Nat×Operand)->Option (List Pt)
  | zs,[]=>some zs
  | zs,(i,x)::r=>match zs[i]?,evS E x with
    | some z,some (.q q)=>match fitP z.size q with
      | some p=>buildS E (zs.set i p) r
      | none=>none
    | _,_=>none
theorem catP_set:∀{zs:List Pt} {i:Nat} {z p:Pt},zs[i]?=some z->∃A Z:List Value,(catP zs).toList=A++(z.cells.toList++Z)/\(catP (zs.set i p)).toList=A++(p.cells.toList++Z)/\∀o,OkP zs->(placesP o zs)[i]?=some (o+A.length,z.size)
 | [],i,z,p,h=>by simp at h
 | y::zs,0,z,p,h=>by
  simp only [bH,aW] at h;subst h;refine⟨[],(catP zs).toList,by rw [catP_cons];simp,by rw [fH,catP_cons];simp,λo _=>by simp [placesP]⟩
 | y::zs,i+1,z,p,h=>by
  obtain⟨A,Z,h1,h2,h3⟩:=catP_set (zs:=zs) (i:=i) (p:=p) (by simpa using h);refine⟨y.cells.toList++A,Z,by rw [catP_cons,dI,h1,a6],by rw [fI,catP_cons,dI,h2,a6],λo hok=>?_⟩;have h4:=h3 (o+y.size) λx hx=>hok x (by simp [hx]);rw [aB,a9,(hok y (by simp)).size,<-bZ]
  simpa [placesP] using h4
theorem okP_set{zs:List Pt}{i:Nat}{p:Pt}(h:OkP zs)(hp:p.Ok):OkP (zs.set i p):=λx hx=>by
 rcases List.mem_or_eq_of_mem_set hx with h1|rfl
 ·exact h x h1
 ·exact hp
theorem places_set:∀{zs:List Pt} {i:Nat} {z p:Pt} (o:Nat),zs[i]?=some z->p.size=z.size->placesP o (zs.set i p)=placesP o zs
 | [],i,z,p,o,h,_=>by simp at h
 | y::zs,0,z,p,o,h,e=>by
  simp only [bH,aW] at h;subst h;simp only [fH,placesP,e]
 | y::zs,i+1,z,p,o,h,e=>by
  simp only [fI,placesP];rw [places_set (z:=z) _ (by simpa using h) e]
theorem fill_ok{G:Nat->Nat}{E:SE}(hE:OkE E){places:List (Nat×Nat)}:∀{parts:List (Nat×Operand)} {zs ps:List Pt},OkP zs->placesP 0 zs=places->buildS E zs parts=some ps ->
  ∀(f:Operand->Value),(∀x v,evS E x=some v->f x=v.den G)->OkP ps/\jW (places.toArray[·]?) (catP zs) (parts.map λ(i,x)=>(i,f x))=some (catP ps)
 | [],zs,ps,hz,_,h,f,_=>by
  cases h
  exact⟨hz,rfl⟩
 | (i,x)::r,zs,ps,hz,hpl,h,f,hf=>by
  unfold buildS at h
  split at h
  ·rename_i z q hi hx
   split at h
   ·rename_i p hp
    have hq:q.Ok:=hE.ev hx;obtain⟨h1,h2,h3⟩:=fitP_ok hq hp;obtain⟨A,Z,h4,h5,h6⟩:=catP_set (p:=p) hi;have h7:=h6 0 hz;rw [hpl,aZ] at h7;have hzo:=hz z (aR hi);obtain⟨h8,h9⟩:=fill_ok hE (parts:=r) (okP_set hz h1) ((places_set 0 hi h2).trans hpl) h f hf;refine⟨h8,?_⟩;rw [<-h9];have hv:f x=q.den:=hf x _ hx;rw [bX,<-dZ (xs:=catP zs),h4];have:=fill_cells (λk=>places.toArray[k]?) i p.size A z.cells.toList Z p.cells.toList (r.map λ(i,x)=>(i,f x)) (f x) (by simpa [h2] using h7) (by rw [a9,h1.size]) (by rw [a9,hzo.size,h2]) (by rw [hv,h3,dZ]);rw [this,<-h5,dZ]
   ·cases h
  ·cases h
def ikB:IntKind->IntKind->Bool
  | .i8,.i8=>true
  | .i16,.i16=>true
  | .i32,.i32=>true
  | .i64,.i64=>true
  | .u8,.u8=>true
  | .u16,.u16=>true
  | .u32,.u32=>true
  | .u64,.u64=>true
  | _,_=>false
theorem ikB_ok{a b:IntKind}(h:ikB a b=true):a=b:=by
 cases a<;>cases b<;>first|rfl|cases h
def nzB:Operand->Bool
  | .const (.int _ (.ofNat (_+1)))=>true
  | _=>false
def binS(op:BinOp)(y:Operand)(K:IntKind)(m n:Int):Option SV:=match op with
  | .add=>some (.v (.int K (K.wrap (m+n))))
  | .sub=>some (.v (.int K (K.wrap (m-n))))
  | .mul=>some (.v (.int K (K.wrap (m*n))))
  | .quo=>match nzB y with
    | true=>some (.v (.int K (K.wrap (m.tdiv n))))
    | false=>none
  | .rem=>match nzB y with
    | true=>some (.v (.int K (m.tmod n)))
    | false=>none
  | .eql=>some (.b (decide (m=n)))
  | .neq=>some (.b (decide (m≠n)))
  | .lss=>some (.b (decide (m<n)))
  | .leq=>some (.b (decide (m<=n)))
  | .gtr=>some (.b (decide (m>n)))
  | .geq=>some (.b (decide (m>=n)))
  | _=>none
theorem nzB_ok{E:SE}{y:Operand}{K:IntKind}{n:Int}(h:nzB y=true)(hy:evS E y=some (.v (.int K n))):n≠0:=by
 unfold nzB at h
 split at h
 ·injection hy with hy
  injection hy with hy
  injection hy with hy
  injection hy with hy
  injection hy with _ hy
  subst hy;exact λh=>(by cases h)
 ·cases h
theorem binS_ok{P:Program}{E:SE}{op:BinOp}{t:TypeId}{y:Operand}{K:IntKind}{m n:Int}{v:SV}(hy:evS E y=some (.v (.int K n)))(h:binS op y K m n=some v) :
  v.Ok/\∀G w,(binOp op t (.int K m) (.int K n)).run P w = .ok (v.den G) w:=by
 cases op<;>simp only [binS] at h
 case quo =>
  split at h
  ·rename_i hz
   have:=nzB_ok hz hy
   injection h with h
   subst h;exact⟨trivial,λG w=>by simp [binOp,Op.intDiv,this,SV.den,SQ.den,SC.den]⟩
  ·cases h
 case rem =>
  split at h
  ·rename_i hz
   have:=nzB_ok hz hy
   injection h with h
   subst h;exact⟨trivial,λG w=>by simp [binOp,Op.intDiv,this,SV.den,SQ.den,SC.den]⟩
  ·cases h
 all_goals first|(cases h;done)|skip
 all_goals injection h with h
 all_goals subst h
 all_goals refine⟨trivial,λG w=>?_⟩
 all_goals first|(simp [binOp,Op.intArith,SV.den,SQ.den,SC.den];done)|skip
 all_goals simp [binOp,Op.intCmp,SV.den,SQ.den,SC.den]
 all_goals rfl
def stepS(T:List TyR)(E:SE)(L:List LV):Op->Option SV
  | .move x=>evS E x
  | .assign x=>evS E x
  | .pick c x y=>match evS E c with
    | some (.q (.c (.v (.bool true))))=>evS E x
    | some (.q (.c (.v (.bool false))))=>evS E y
    | _=>none
  | .extract x i=>match evS E x with
    | some (.t vs)=>match vs[i]? with
      | some q=>some (.q q)
      | none=>none
    | _=>none
  | .unOp .not _ x=>match evS E x with
    | some (.q (.c (.v (.bool true))))=>some (.v (.bool false))
    | some (.q (.c (.v (.bool false))))=>some (.v (.bool true))
    | some (.q (.c (.b e)))=>some (.b !e)
    | _=>none
  | .nilCheck x=>match evS E x with
    | some (.a j off)=>some (.a j off)
    | some (.q (.c (.v (.pointer (some p)))))=>some (.v (.pointer (some p)))
    | _=>none
  | .fieldAddr t x i=>match evS E x,fieldS T t i with
    | some (.a j off),some o=>some (.a j (off+o))
    | some (.q (.c (.v (.pointer (some ⟨g,off,none⟩))))),some o=>some (.v (.pointer (some ⟨g,off+o,none⟩)))
    | _,_=>none
  | .load t x=>match evS E x with
    | some (.a j off)=>match lookL L j with
      | some ps=>match loadS T ps t off with
        | some q=>some (.q q)
        | none=>none
      | none=>none
    | _=>none
  | .build t parts=>match findT T t with
    | some r=>match bN r.kind 2 with
      | true=>match buildS E r.zero parts.toList with
        | some ps=>some (.p ps)
        | none=>none
      | false=>match bN r.kind 1,parts.toList with
        | true,[]=>some (.p r.zero)
        | _,_=>none
    | none=>none
  | .binOp op t x y _=>match evS E x,evS E y with
    | some (.q (.c (.v (.int K m)))),some (.q (.c (.v (.int K' n))))=>match ikB K K' with
      | true=>binS op y K m n
      | false=>none
    | some (.q (.c (.v (.pointer p)))),some (.q (.c (.v (.pointer none))))=>match findT T t with
      | some r=>match r.pt,op,p with
        | true,.eql,none=>some (.v (.bool true))
        | true,.eql,some _=>some (.v (.bool false))
        | true,.neq,none=>some (.v (.bool false))
        | true,.neq,some _=>some (.v (.bool true))
        | _,_,_=>none
      | none=>none
    | _,_=>none
  | .convert src dst x=>match findT T src,findT T dst,evS E x with
    | some _,some r,some (.q (.c (.v (.int _ n))))=>match r.ik with
      | some K=>some (.v (.int K (K.wrap n)))
      | none=>none
    | _,_,_=>none
  | .call { callee:=.builtin .len,args:=⟨[x]⟩,argTypes:=⟨[t]⟩ }=>match findT T t with
    | some r=>match r.el,evS E x with
      | some _,some (.q (.c (.v (.slice _ n _))))=>some (.v (.int .i64 (n:Int)))
      | some _,some (.s _ _ n _)=>some (.v (.int .i64 (n:Int)))
      | _,_=>none
    | none=>none
  | _=>none
def OkL(L:List LV):Prop:=∀x∈L,OkP x.ps
def LAt(G:Nat->Nat)(L:List LV)(w:World):Prop:=∀x∈L,Blk w (G x.j) x.t (catP x.ps)
theorem built_eq{P:Program}{t:TypeId}{r:TyR}(hr:r.ok P)(ht:r.t=t)(hk:r.kind=2)(parts:List (Nat×Value)):P.built t parts=jW ((placesP 0 r.zero).toArray[·]?) (catP r.zero) parts:=by
 subst ht;obtain⟨it,d,h1,h2,h3,h4,h5,h6, -⟩:=hr.info;rw [hk] at h5 h6
 cases d<;>first|(cases h5;done)|skip
 rename_i fs
 dsimp only at h6
 cases hz:it.zero with
 | none=>rw [hz] at h4;cases h4
 | some z =>
  rw [hz] at h4;simp only [bI,aW] at h4
  unfold Program.built
  simp only [h1,h2,hz,h6,h4]
theorem built_row1{P:Program}{t:TypeId}{r:TyR}(hr:r.ok P)(ht:r.t=t)(hk:r.kind=1):P.built t []=some (catP r.zero):=by
 subst ht;obtain⟨it,d,h1,h2,h3,h4,h5,h6, -⟩:=hr.info;rw [hk] at h5 h6
 cases d<;>first|(cases h5;done)|skip
 rename_i n e
 dsimp only at h6
 cases he:P.info? e with
 | none=>rw [he] at h6;cases h6
 | some ie =>
  cases hz:it.zero with
  | none=>rw [hz] at h4;cases h4
  | some z =>
   rw [hz] at h4;simp only [bI,aW] at h4
   unfold Program.built
   simp only [h1,h2,hz,he,h4]
   rfl
theorem run_len{P:Program}{t:TypeId}{e:TypeId}(ht:P.underlying t=some (.slice e))(ty:TypeId)(A:Option Addr)(n c:Nat)(w:World):(mI #[t] ty #[.slice A n c]).run P w = .ok (.int .i64 (n:Int)) w:=by
 simp [mI,run_underlying ht,goInt]
theorem stepS_ok{P:Program}{T:List TyR}(hT:OkT P T){E:SE}{L:List LV}{N:Nat}{o:Oper}{v:SV}(hE:OkE E)(hL:OkL L)(h:stepS T E L o.op=some v) :
    v.Ok/\∀{G:Nat->Nat} {a:Act} {w:World},Fr N (denE G E) a->LAt G L w->(execOp a.eval o).run P w = .ok (.value (v.den G)) w:=by
  obtain⟨dst,op,ty,pos,af,gd⟩:=o
  dsimp only at h
  have hev:∀{x:Operand} {u:SV},evS E x=some u->∀{G:Nat->Nat} {a:Act},Fr N (denE G E) a->a.eval x=u.den G:=by
    intro x u hx G a ha
    exact ha.eval (evS_ok hx)
  cases op
  case move x =>
    refine⟨hE.ev h,λha _=>?_⟩;have h1:=hev h ha
    unfold execOp
    simp only [h1,aH]
  case assign x =>
    refine⟨hE.ev h,λha _=>?_⟩;have h1:=hev h ha
    unfold execOp
    simp only [h1,aH]
  case pick c x y =>
    simp only [stepS] at h
    split at h
    · rename_i hc
      refine⟨hE.ev h,λha _=>?_⟩;have h1:=hev hc ha;have h2:=hev h ha
      unfold execOp
      simp only [h1,h2,SV.den,SQ.den,SC.den,asBool,aG,aH,aD,if_true]
    · rename_i hc
      refine⟨hE.ev h,λha _=>?_⟩;have h1:=hev hc ha;have h2:=hev h ha
      unfold execOp
      simp only [h1,h2,SV.den,SQ.den,SC.den,asBool,aG,aH,aD,l5,if_false]
    · cases h
  case extract x i =>
    simp only [stepS] at h
    split at h
    · rename_i vs hx
      split at h
      · rename_i q hq
        injection h with h
        subst h;refine⟨hE.ev hx q (aR hq),λha _=>?_⟩;have h1:=hev hx ha
        have h2:(vs.map SQ.den).toArray[i]?=some q.den:=by simp [hq]
        unfold execOp
        simp only [h1,SV.den,Instr.extract,h2,aG,aH,aD]
      · cases h
    · cases h
  case unOp k t x =>
    cases k
    case not =>
      simp only [stepS] at h
      split at h
      · rename_i hx
        injection h with h
        subst h;refine⟨trivial,λha _=>?_⟩;have h1:=hev hx ha
        unfold execOp
        simp only [h1,SV.den,SQ.den,SC.den,Op.unary,aG,aH,aD,Bool.not_true]
      · rename_i hx
        injection h with h
        subst h;refine⟨trivial,λha _=>?_⟩;have h1:=hev hx ha
        unfold execOp
        simp only [h1,SV.den,SQ.den,SC.den,Op.unary,aG,aH,aD,Bool.not_false]
      · rename_i e hx
        injection h with h
        subst h;refine⟨trivial,λha _=>?_⟩;have h1:=hev hx ha
        unfold execOp
        simp only [h1,SV.den,SQ.den,SC.den,Op.unary,aG,aH,aD]
      · cases h
    all_goals cases h
  case nilCheck x =>
    simp only [stepS] at h
    split at h
    · rename_i j off hx
      injection h with h
      subst h;refine⟨trivial,λha _=>?_⟩;have h1:=hev hx ha
      unfold execOp
      simp only [h1,SV.den,aH]
    · rename_i p hx
      injection h with h
      subst h;refine⟨trivial,λha _=>?_⟩;have h1:=hev hx ha
      unfold execOp
      simp only [h1,SV.den,SQ.den,SC.den,aH]
    · cases h
  case fieldAddr t x i =>
    simp only [stepS] at h
    split at h
    · rename_i j off o hx ho
      injection h with h
      subst h;refine⟨trivial,λha _=>?_⟩;have h1:=hev hx ha
      unfold execOp
      simp only [h1,SV.den,fieldS_ok hT ho,aG,aH,aD]
    · rename_i g off o hx ho
      injection h with h
      subst h;refine⟨trivial,λha _=>?_⟩;have h1:=hev hx ha
      unfold execOp
      simp only [h1,SV.den,SQ.den,SC.den,fieldS_ok hT ho,aG,aH,aD]
    · cases h
  case load t x =>
    simp only [stepS] at h
    split at h
    · rename_i j off hx
      split at h
      · rename_i ps hps
        split at h
        · rename_i q hq
          injection h with h
          subst h;obtain⟨y,hy,rfl,rfl⟩:=lookL_mem hps;obtain⟨h3,h4⟩:=loadS_ok hT (hL y hy) hq;refine⟨h3,λha hl=>?_⟩;have h1:=hev hx ha
          unfold execOp
          simp only [h1,SV.den,h4 (hl y hy),aG,aH,aD]
        · cases h
      · cases h
    · cases h
  case build t parts =>
    simp only [stepS] at h
    split at h
    · rename_i r hr
      split at h
      · rename_i hk
        split at h
        · rename_i ps hps
          injection h with h
          subst h;obtain⟨h3,h4⟩:=findT_ok hT hr;have hf:=λ(G:Nat->Nat)=>fill_ok (G:=G) hE (places:=placesP 0 r.zero) h3.2 rfl hps;refine⟨(hf (λ_=>0) (λx=>((evS E x).map (SV.den λ_=>0)).getD undef) (λx u hx=>by rw [hx];rfl)).1,λ{G a w} ha _=>?_⟩;have h5:=(hf G a.eval (λx u hx=>hev hx ha)).2;rw [<-built_eq h3 h4 (aM hk)] at h5;have h6:=run_build (P:=P) w t (parts.map λ(i,x)=>(i,a.eval x)) (catP ps) (by rw [Array.toList_map];exact h5)
          unfold execOp
          simp only [h6,SV.den,SQ.den,aG,aH,aD]
        · cases h
      · split at h
        · rename_i hk hpt
          injection h with h
          subst h;obtain⟨h3,h4⟩:=findT_ok hT hr
          have hpt':parts = #[]:=by simpa using hpt
          subst hpt';refine⟨h3.2,λ{G a w} _ _=>?_⟩;have h6:=run_build (P:=P) w t #[] (catP r.zero) (built_row1 h3 h4 (aM hk))
          unfold execOp
          simp only [jU,oI,h6,SV.den,SQ.den,aG,aH,aD]
        · cases h
    · cases h
  case binOp op t x y t2 =>
    simp only [stepS] at h
    split at h
    · rename_i K m K' n hx hy
      split at h
      · rename_i hK
        obtain rfl:=ikB_ok hK;obtain⟨h1,h2⟩:=binS_ok (P:=P) (t:=t) hy h;refine⟨h1,λ{G a w} ha _=>?_⟩;have e1:=hev hx ha;have e2:=hev hy ha
        have e3:(eqGuard op t x y (.int K m) (.int K n)).run P w = .ok () w:=by
          cases op<;>rfl
        unfold execOp
        simp only [e1,e2,SV.den,SQ.den,SC.den,aG,e3,h2 G w,aH,aD]
      · cases h
    · rename_i p hx hy
      split at h
      · rename_i r hr
        obtain⟨h3,rfl⟩:=findT_ok hT hr;obtain⟨it,d,h5,h6, -, -, -, -, -, -,h7, -⟩:=h3.info
        have hpt:r.pt=true->∃e,P.underlying r.t=some (.pointer e):=λhe=>by
          rw [he] at h7
          cases d<;>first|(cases h7;done)|skip
          exact⟨_,h6⟩
        have key:∀{G:Nat->Nat} {a:Act} {w:World},Fr N (denE G E) a->∀b:Bool,(binOp op r.t (.pointer p) (.pointer none)).run P w = .ok (.bool b) w->(execOp a.eval ⟨dst,.binOp op r.t x y t2,ty,pos,af,gd⟩).run P w = .ok (.value (.bool b)) w:=λ{G a w} ha b hb=>by
          have e1:=hev hx ha;have e2:=hev hy ha
          have e3:(eqGuard op r.t x y (.pointer p) (.pointer none)).run P w = .ok () w:=by
            cases op<;>rfl
          unfold execOp
          simp only [e1,e2,SV.den,SQ.den,SC.den,aG,e3,hb,aH,aD]
        have heq:∀w,r.pt=true->(Op.equal r.t (.pointer p) (.pointer none)).run P w = .ok p.isNone w:=λw he=>by
          obtain⟨e,hu⟩:=hpt he
          unfold Op.equal Op.maxDepth
          rw [show(10000:Nat)=9999+1 from rfl,Op.equalIn];simp only [aG,run_underlying hu,aD]
          cases p<;>rfl
        split at h
        all_goals first|(cases h;done)|skip
        all_goals rename_i he
        all_goals injection h with h
        all_goals subst h
        all_goals refine⟨trivial,λha _=>key ha _ ?_⟩
        all_goals simp [binOp,heq _ he]
      · cases h
    · cases h
  case convert src dst' x =>
    simp only [stepS] at h
    split at h
    · rename_i r0 r K0 n h0 hr hx
      split at h
      · rename_i K hK
        injection h with h
        subst h;have q1:=findT_ok hT h0;have q2:=findT_ok hT hr;clear h0 hr;obtain⟨q1,rfl⟩:=q1;obtain⟨q2,rfl⟩:=q2;obtain⟨it0,d0,_,h6, -⟩:=q1.info;obtain⟨it,d,_,h7, -, -, -, -, -,h8, -⟩:=q2.info;rw [hK] at h8
        cases d<;>first|(cases h8;done)|skip
        injection h8 with h8
        subst h8;refine⟨trivial,λha _=>?_⟩;have e1:=hev hx ha
        unfold execOp
        simp only [e1,SV.den,SQ.den,SC.den]
        simp [convert,run_underlying h6,run_underlying h7,Conv.intToInt]
      · cases h
    · cases h
  case call c =>
    obtain⟨callee,args,ats⟩:=c
    cases callee
    case builtin bi =>
     cases bi
     case len =>
      obtain⟨args⟩:=args;obtain⟨ats⟩:=ats
      rcases args with _|⟨x,_|⟨y,r⟩⟩
      · cases h
      rcases ats with _|⟨t,_|⟨y,r⟩⟩
      all_goals first|(cases h;done)|skip
      simp only [stepS] at h
      split at h
      · rename_i r hr
        obtain⟨h3,rfl⟩:=findT_ok hT hr;obtain⟨it,d,h5,h6, -, -, -, -,h7, -⟩:=h3.info
        have hu:∀e,r.el=some e->P.underlying r.t=some (.slice e):=λe he=>by
          rw [he] at h7
          cases d<;>first|(cases h7;done)|skip
          injection h7 with h7
          subst h7;exact h6
        split at h
        · rename_i e A n cc he hx
          injection h with h
          subst h;refine⟨trivial,λha _=>?_⟩;have h1:=hev hx ha
          unfold execOp
          simp only [resolve,invoke,builtin,jU,bX,oI,h1,SV.den,SQ.den,SC.den,aG,aH,aD,run_len (hu e he)]
        · rename_i e j off n cc he hx
          injection h with h
          subst h;refine⟨trivial,λha _=>?_⟩;have h1:=hev hx ha
          unfold execOp
          simp only [resolve,invoke,builtin,jU,bX,oI,h1,SV.den,SQ.den,SC.den,aG,aH,aD,run_len (hu e he)]
        · cases h
      · cases h
     all_goals cases h
    all_goals cases h
  all_goals cases h
def wantS(ops:Array Oper)(N:Nat)(E:SE)(o:Oper):Option Bool :=
  match o.guard with
  | none=>some true
  | some (j,b)=>match (ops[j]?).bind (·.dst) with
    | some t=>match aQ t N with
      | true=>match lookS E t with
        | some (.q (.c (.v (.bool true))))=>some b
        | some (.q (.c (.v (.bool false))))=>some (!b)
        | _=>none
      | false=>none
    | none=>none
theorem wantS_ok{ops:Array Oper}{N:Nat}{G:Nat->Nat}{E:SE}{a:Act}{o:Oper}{q:Bool}(ha:Fr N (denE G E) a)(h:wantS ops N E o=some q):aO o (yielded ops a.tmps)=q:=by
 refine wantG_ok ha ?_
 unfold wantS at h
 unfold wantG
 split at h
 ·rename_i hg
  rw [hg];exact h
 ·rename_i j b hg
  rw [hg]
  split at h
  ·rename_i t hj
   dsimp only
   rw [hj]
   split at h
   ·rename_i hN
    dsimp only
    rw [hN]
    split at h
    ·rename_i hc
     dsimp only
     rw [look_den,hc];exact h
    ·rename_i hc
     dsimp only
     rw [look_den,hc];exact h
    ·cases h
   ·cases h
  ·cases h
def farE(j:Nat)(E:SE):Bool:=E.all λx=>x.2.farB j
def newS(T:List TyR)(E:SE)(L:List LV)(k:Nat):Op->Option (TypeId×List Pt)
  | .alloc ty=>match findT T ty,farL k L,farE k E with
    | some r,true,true=>some (ty,r.zero)
    | _,_,_=>none
  | .box ty x=>match evS E x,farL k L,farE k E with
    | some (.q (.p ps)),true,true=>some (ty,ps)
    | some (.q (.c s)),true,true=>match fitC s with
      | true=>some (ty,[.one s])
      | false=>none
    | _,_,_=>none
  | _=>none
def setS(T:List TyR)(E:SE)(L:List LV):Op->Option (Nat×List Pt)
  | .store t x y=>match evS E x,evS E y with
    | some (.a j off),some (.q q)=>match lookL L j with
      | some ps=>match storeS T ps t off q with
        | some qs=>some (j,qs)
        | none=>none
      | none=>none
    | _,_=>none
  | _=>none
def autoS(T:List TyR)(ops:Array Oper)(N:Nat):List Oper->SE->List LV->List Oper×SE×List LV
  | [],E,L=>([],E,L)
  | o::l,E,L=>match wantS ops N E o with
    | none=>(o::l,E,L)
    | some false=>match o.dst with
      | some k=>match aQ k N with
        | true=>autoS T ops N l ((k,.v undef)::E) L
        | false=>(o::l,E,L)
      | none=>autoS T ops N l E L
    | some true=>match o.dst with
      | some k=>match aQ k N with
        | true=>match stepS T E L o.op with
          | some v=>autoS T ops N l ((k,v)::E) L
          | none=>match newS T E L k o.op with
            | some (ty,ps)=>autoS T ops N l ((k,.a k 0)::E) (⟨k,none,ty,ps⟩::L)
            | none=>(bareO o::l,E,L)
        | false=>(o::l,E,L)
      | none=>match setS T E L o.op with
        | some (j,ps)=>autoS T ops N l E (putL L j ps)
        | none=>(bareO o::l,E,L)
theorem StW.okL{b:Base}{G:Nat->Nat}{S:Nat->Prop}{L:List LV}{R:List Res}{F M:World->Prop}{w:World}(h:StW b G S L R F M w):OkL L:=λx hx=>(h.var x hx).2.1
theorem StW.at{b:Base}{G:Nat->Nat}{S:Nat->Prop}{L:List LV}{R:List Res}{F M:World->Prop}{w:World}(h:StW b G S L R F M w):LAt G L w:=λx hx=>(h.var x hx).1
theorem farL_mem:∀{L:List LV} {j:Nat},farL j L=true->j∉namesL L
 | [],_,_,h=>by cases h
 | x::r,j,h,hm=>by
  unfold farL at h
  simp only [aN,Bool.not_eq_true'] at h
  rcases aL.1 hm with e|hm
  ·rw [e] at h
   simp at h
  ·exact farL_mem h.2 hm
theorem den_far{G:Nat->Nat}{j g:Nat}{v:SV}(h:v.farB j=true):v.den (λi=>if i=j then g else G i)=v.den G:=by
 cases v with
 | q x=>rfl
 | a i off =>
  have:i≠j:=by
   rintro rfl
   simp [SV.farB] at h
  simp [SV.den,this]
 | s i off n c =>
  have:i≠j:=by
   rintro rfl
   simp [SV.farB] at h
  simp [SV.den,this]
 | t vs=>rfl
theorem denE_far{G:Nat->Nat}{j g:Nat}:∀{E:SE},farE j E=true->denE (λi=>if i=j then g else G i) E=denE G E
 | [],_=>rfl
 | (k,v)::r,h=>by
  unfold farE at h
  rw [List.all_cons,aN] at h;rw [denE,denE,den_far h.1,denE_far h.2]
section
variable{b:Base}{G:Nat->Nat}{S:Nat->Prop}{L:List LV}{R:List Res}{F M:World->Prop}{w:World}
theorem StW.new(h:StW b G S L R F M w){j:Nat}{t:TypeId}{ps:List Pt}(hj:farL j L=true)(hp:OkP ps):StW b (λi=>if i=j then w.heap.size else G i) S (⟨j,none,t,ps⟩::L) R F M (w.alloc (.cells (catP ps) t)):=by
 have hal:=(Below.refl w.heap.size w).alloc (aF _) (.cells (catP ps) t);have hn:=farL_mem hj;have hne:∀i,i∈namesL L->i≠j:=λi hi e=>hn (e▸hi);have hG:∀i∈namesL L,(if i=j then w.heap.size else G i)=G i:=λi hi=>if_neg (hne i hi);have hlt:∀i∈namesL L,G i<w.heap.size:=λi hi=>h.lt _ (.inr ⟨i,hi,rfl⟩);have h1:=h.later hal
 have hM:∀k,Mine S (λi=>if i=j then w.heap.size else G i) (⟨j,none,t,ps⟩::L) k->k=w.heap.size\/Mine S G L k:=λk hk=>by
  rcases hk with hk|⟨i,hi,rfl⟩
  ·exact .inr (.inl hk)
  ·rcases aL.1 hi with rfl|hi
   ·exact .inl (if_pos rfl)
   ·exact .inr (.inr ⟨i,hi,(hG i hi).symm⟩)
 refine⟨λx hx=>?_,List.Pairwise.cons (λi hi=>?_) ?_,h1.res,λi hi=>?_,?_,?_,h1.chg,λk hk hlt=>?_,h.old⟩
 ·rcases aL.1 hx with rfl|hx
  ·refine⟨?_,hp,λg hg=>by cases hg⟩
   show Blk _ (if j=j then w.heap.size else G j) t (catP ps)
   rw [if_pos rfl];exact Blk.new w _ _
  ·rw [hG _ (bP.2 ⟨x,hx,rfl⟩)]
   exact h1.var x hx
 ·show(if j=j then w.heap.size else G j)≠_
  rw [if_pos rfl,hG i hi];exact Nat.ne_of_gt (hlt i hi)
 ·refine oQ (λ{x y} hx hy hxy=>?_) h.apart
  rw [hG x hx,hG y hy];exact hxy
 ·rcases aL.1 hi with rfl|hi
  ·show ¬S (if i=i then w.heap.size else G i)
   rw [if_pos rfl];exact λhs=>gI _ (h.res.lt _ hs)
  ·rw [hG i hi]
   exact h.sep i hi
 ·refine h.fact.past (Chg.of_up hal) λi hi hd=>?_
  rcases hd with hd|hd
  ·exact .inl hd
  ·rcases hM i hd with rfl|hd
   ·exact absurd hi (gI _)
   ·exact .inr hd
 ·refine h.fresh.past (Chg.of_up hal) λi hi hd=>?_
  rcases hd with hd|hd
  ·exact .inl hd
  ·rcases hM i hd with rfl|hd
   ·exact absurd hi (gI _)
   ·exact .inr hd
 ·rcases hM k hk with rfl|hk
  ·exact absurd (Nat.lt_of_le_of_lt h.chg.size hlt) (gI _)
  ·exact h.mine k hk hlt
theorem putL_mem{j:Nat}{ps:List Pt}:∀{L:List LV},(namesL L).Nodup->∀y∈putL L j ps,(y∈L/\y.j≠j)\/∃x∈L,x.j=j/\y={ x with ps:=ps }
 | [],_,y,h=>by cases h
 | x::r,hd,y,h=>by
  unfold putL at h
  have hd':=oB.1 hd
  split at h
  ·rename_i e
   have e:=aM e
   rcases aL.1 h with rfl|h
   ·exact .inr ⟨x,aP,e,rfl⟩
   ·refine .inl ⟨aJ _ h,λe2=>hd'.1 ?_⟩
    show x.j∈namesL r
    rw [e,<-e2];exact bP.2 ⟨y,h,rfl⟩
  ·rename_i e
   rcases aL.1 h with rfl|h
   ·exact .inl ⟨aP,λe2=>by rw [e2] at e;simp at e⟩
   ·rcases putL_mem hd'.2 y h with⟨h1,h2⟩|⟨z,h1,h2,h3⟩
    ·exact .inl ⟨aJ _ h1,h2⟩
    ·exact .inr ⟨z,aJ _ h1,h2,h3⟩
theorem StW.nodup(h:StW b G S L R F M w):(namesL L).Nodup:=h.apart.imp λhxy e=>hxy (congrArg G e)
theorem StW.set(h:StW b G S L R F M w){j:Nat}{ps:List Pt}(hj:j∈namesL L)(hp:OkP ps):StW b G S (putL L j ps) R F M (w.setRow (G j) (catP ps)):=by
 have hc:=Chg.row w (G j) (catP ps);have hmine:Mine S G L (G j):=.inr ⟨j,hj,rfl⟩
 have hne:∀i∈namesL L,i≠j->G i≠G j:=λi hi e=>by
  have:=h.apart;obtain⟨p,hp,rfl⟩:=gV hi;obtain⟨q,hq,rfl⟩:=gV hj
  rcases Nat.lt_trichotomy p q with h1|h1|h1
  ·exact gT.1 this p q hp hq h1
  ·subst h1;exact absurd rfl e
  ·exact(gT.1 this q p hq hp h1).symm
 have hM:∀k,Mine S G (putL L j ps) k↔Mine S G L k:=λk=>by unfold Mine;rw [putL_names]
 refine⟨λy hy=>?_,by rw [putL_names];exact h.apart,h.res.keep λk hk=>hc.block k (h.res.lt k hk) (λe=>h.sep j hj (e▸hk)),by rw [putL_names];exact h.sep,?_,?_,h.chg.step hc (λi hi e=>by subst e;exact h.mine _ hmine hi),λk hk=>h.mine k ((hM k).1 hk),h.old⟩
 ·rcases putL_mem h.nodup y hy with⟨h1,h2⟩|⟨x,h1,h2,rfl⟩
  ·refine⟨(h.var y h1).1.rowFar (hne _ (bP.2 ⟨y,h1,rfl⟩) h2) _,(h.var y h1).2⟩
  ·subst h2
   exact⟨(h.var x h1).1.row _,hp,(h.var x h1).2.2⟩
 ·refine h.fact.past (D':=Dof b.X S G (putL L j ps)) (hc.mono (D':=Dof b.X S G L) λi _ e=>by subst e;exact .inr hmine) λi _ hd=>?_
  exact hd.imp id (hM i).1
 ·refine h.fresh.past (D':=Nof b S G (putL L j ps)) (hc.mono (D':=Nof b S G L) λi _ e=>by subst e;exact .inr hmine) λi _ hd=>?_
  exact hd.imp id (hM i).1
end
def lS(P:Program)(b:Base)(ops:Array Oper)(Q:Exit->Act->World->Prop)(N:Nat)(l:List Oper)(e:Env):Prop:=∀a w,St b N e a w->wpList P ops Q l a w
theorem runBox{P:Program}{o:Oper}{ty:TypeId}{x:Operand}(ho:o.op = .box ty x)(a:Act)(w:World):(execOp a.eval o).run P w = .ok (.value (.pointer (some ⟨w.heap.size,0,none⟩))) (w.alloc (.cells (a.eval x).cells ty)):=by
 unfold execOp
 simp [ho,Instr.box,newVar,newRow]
theorem lookL_name{L:List LV}{j:Nat}{ps:List Pt}(h:lookL L j=some ps):j∈namesL L:=by
 obtain⟨x,hx,rfl,_⟩:=lookL_mem h;exact bP.2 ⟨x,hx,rfl⟩
section
variable{P:Program}{b:Base}{T:List TyR}{ops:Array Oper}{Q:Exit->Act->World->Prop}{N:Nat}{R:List Res}{F M:World->Prop}
theorem wpl_go{o:Oper}{l:List Oper}{a:Act}{w w':World}{v:Value}(hw:aO o (yielded ops a.tmps)=true)(hr:(execOp a.eval o).run P w = .ok (.value v) w')(h:wpList P ops Q l (a.put o.dst v) w'):wpList P ops Q (o::l) a w:=by
 unfold wpList
 rw [if_pos hw];refine .inl ?_
 unfold Oper.wp
 rw [hr];exact h
theorem wpl_skip{o:Oper}{l:List Oper}{a:Act}{w w':World}(hw:aO o (yielded ops a.tmps)=true)(hr:(execOp a.eval o).run P w = .ok .skip w')(h:wpList P ops Q l (a.put o.dst undef) w'):wpList P ops Q (o::l) a w:=by
 unfold wpList
 rw [if_pos hw];refine .inl ?_
 unfold Oper.wp
 rw [hr];exact h
theorem wpl_bare{o:Oper}{l:List Oper}{a:Act}{w:World}(hw:aO o (yielded ops a.tmps)=true)(h:wpList P ops Q (bareO o::l) a w):wpList P ops Q (o::l) a w:=by
 obtain⟨dst,op,ty,pos,af,gd⟩:=o
 unfold wpList at h ⊢
 rw [if_pos hw];rw [if_pos (by rfl)] at h;exact h
theorem StA.put{e:Env}{G:Nat->Nat}{S:Nat->Prop}{a:Act}{w:World}(h:StA b N e G S a w){k:Nat}(hk:aQ k N=true){v:SV}(hv:v.Ok):StA b N { e with E:=(k,v)::e.E } G S (a.put (some k) (v.den G)) w:=⟨h.fr.put hk _,h.ok.cons hv,h.st⟩
theorem autoS_ok(hT:OkT P T):∀{l:List Oper} {E:SE} {L:List LV},lS P b ops Q N (autoS T ops N l E L).1 ⟨(autoS T ops N l E L).2.1,(autoS T ops N l E L).2.2,R,F,M⟩->lS P b ops Q N l ⟨E,L,R,F,M⟩
 | [],_,_,h=>h
 | o::l,E,L,h=>by
  intro a w ⟨G,S,hs⟩
  have hst:=hs.st
  dsimp only at hst
  unfold autoS at h
  cases hw:wantS ops N E o with
  | none=>rw [hw] at h;exact h a w ⟨G,S,hs⟩
  | some q =>
   rw [hw] at h;have hwt:=wantS_ok hs.fr hw
   cases q with
   | false =>
    dsimp only at h
    have key:∀K,wpList P ops Q l (a.put o.dst undef) w->K=(o::l)->wpList P ops Q K a w:=λK hk e=>by
     rw [e]
     unfold wpList
     rw [hwt,if_neg (by decide)];exact hk
    cases hd:o.dst with
    | none =>
     rw [hd] at h;exact key _ (by rw [hd];exact autoS_ok hT h a w ⟨G,S,hs⟩) rfl
    | some k =>
     rw [hd] at h
     dsimp only at h
     cases hk:aQ k N with
     | false=>rw [hk] at h;exact h a w ⟨G,S,hs⟩
     | true =>
      rw [hk] at h;exact key _ (by rw [hd];exact autoS_ok hT h _ w ⟨G,S,hs.put (v:=.v undef) hk trivial⟩) rfl
   | true =>
    dsimp only at h
    cases hd:o.dst with
    | none =>
     rw [hd] at h
     dsimp only at h
     cases hv:setS T E L o.op with
     | none=>rw [hv] at h;exact wpl_bare hwt (h a w ⟨G,S,hs⟩)
     | some jp =>
      obtain⟨j,qs⟩:=jp;rw [hv] at h
      dsimp only at h
      obtain⟨dst,op,ty,pos,af,gd⟩:=o
      dsimp only at hv hd
      subst hd
      cases op<;>first|(cases hv;done)|skip
      rename_i t x y
      simp only [setS] at hv
      split at hv
      ·rename_i i off q hx hy
       split at hv
       ·rename_i ps hps
        split at hv
        ·rename_i qs' hq
         injection hv with hv
         injection hv with e1 e2
         subst e1 e2;obtain⟨z,hz,rfl,rfl⟩:=lookL_mem hps;obtain⟨h3,h4⟩:=storeS_ok hT (hst.okL z hz) (hs.ok.ev hy) hq;have e1:=hs.fr.eval (evS_ok hx);have e2:=hs.fr.eval (evS_ok hy);refine wpl_skip (w':=w.setRow (G z.j) (catP qs')) hwt ?_ (autoS_ok hT h _ _ ⟨G,S,hs.fr,hs.ok,hst.set (lookL_name hps) h3⟩)
         unfold execOp
         simp only [e1,e2,SV.den,h4 (hst.at z hz),aG,aH,aD]
        ·cases hv
       ·cases hv
      ·cases hv
    | some k =>
     rw [hd] at h
     dsimp only at h
     cases hk:aQ k N with
     | false=>rw [hk] at h;exact h a w ⟨G,S,hs⟩
     | true =>
      rw [hk] at h
      dsimp only at h
      cases hv:stepS T E L o.op with
      | some v =>
       rw [hv] at h;obtain⟨h1,h2⟩:=stepS_ok hT hs.ok hst.okL hv;exact wpl_go hwt (h2 hs.fr hst.at) (by rw [hd];exact autoS_ok hT h _ w ⟨G,S,hs.put hk h1⟩)
      | none =>
       rw [hv] at h
       dsimp only at h
       cases hn:newS T E L k o.op with
       | none=>rw [hn] at h;exact wpl_bare hwt (h a w ⟨G,S,hs⟩)
       | some tp =>
        obtain⟨ty,ps⟩:=tp;rw [hn] at h
        dsimp only at h
        have key:OkP ps->farL k L=true->farE k E=true->(execOp a.eval o).run P w = .ok (.value (.pointer (some ⟨w.heap.size,0,none⟩))) (w.alloc (.cells (catP ps) ty))->wpList P ops Q (o::l) a w:=λhp hf hfe hr=>by
         refine wpl_go hwt hr ?_;rw [hd];have hfr:=hs.fr.put hk (.pointer (some ⟨w.heap.size,0,none⟩));refine autoS_ok hT h _ _ ⟨_,S,?_,hs.ok.cons trivial,hst.new hf hp⟩
         show Fr N ((k,.pointer (some ⟨if k=k then w.heap.size else G k,0,none⟩))::denE _ E) _
         rw [if_pos rfl,denE_far hfe];exact hfr
        obtain⟨dst,op,ty',pos,af,gd⟩:=o
        dsimp only at hn hd
        subst hd
        cases op<;>first|(cases hn;done)|skip
        ·simp only [newS] at hn
         split at hn
         ·rename_i r hr hf hfe
          injection hn with hn
          injection hn with e1 e2
          subst e1 e2;obtain⟨h3,h4⟩:=findT_ok hT hr;subst h4;obtain⟨it,d,h5,_,_,h6,_⟩:=h3.info;exact key h3.2 hf hfe (exec_alloc rfl (by rw [h5];exact h6) a w)
         ·cases hn
        ·simp only [newS] at hn
         split at hn
         ·rename_i qs hx hf hfe
          injection hn with hn
          injection hn with e1 e2
          subst e1 e2;have e1:=hs.fr.eval (evS_ok hx);refine key (hs.ok.ev hx) hf hfe ?_;rw [runBox rfl,e1]
          rfl
         ·rename_i s hx hf hfe
          split at hn
          ·rename_i hfc
           injection hn with hn
           injection hn with e1 e2
           subst e1 e2;have e1:=hs.fr.eval (evS_ok hx);have hso:s.Ok:=hs.ok.ev hx;obtain⟨h5,h6⟩:=fitC_ok hso hfc;refine key (λp hp=>by rw [aE.1 hp];exact⟨hso,h5,h6⟩) hf hfe ?_;rw [runBox rfl,e1]
           show _=Result.ok _ (w.alloc (.cells #[s.den] _))
           rw [<-h6]
           rfl
          ·cases hn
         ·cases hn
theorem l_autoS(hT:OkT P T){l l':List Oper}{E E':SE}{L L':List LV}(h:autoS T ops N l E L=(l',E',L'))(hn:lS P b ops Q N l' ⟨E',L',R,F,M⟩):lS P b ops Q N l ⟨E,L,R,F,M⟩:=autoS_ok hT (by rw [h];exact hn)
end
def cS(P:Program)(b:Base)(c:Code)(Q:Exit->Act->World->Prop)(N:Nat)(e:Env):Prop:=∀a w,St b N e a w->c.wp P Q a w
def kS(b:Base)(K:Act->World->Prop)(N:Nat)(e:Env):Prop:=∀a w,St b N e a w->K a w
def SubS:SE->SE->Prop
  | [],_=>True
  | p::r,E=>lookS E p.1=some p.2/\SubS r E
def findL:List LV->Nat->Option LV
  | [],_=>none
  | x::r,j=>match bN x.j j with
    | true=>some x
    | false=>findL r j
def SubL:List LV->List LV->Prop
  | [],_=>True
  | x::r,L=>findL L x.j=some x/\farL x.j r=true/\SubL r L
theorem SubS.ok:∀{E' E:SE},SubS E' E->OkE E->OkE E'
 | [],_,_,_=>λ_ hx=>by cases hx
 | (j,u)::r,E,hs,h=>λx hx=>by
  rcases aL.1 hx with rfl|hx
  ·exact h.get hs.1
  ·exact SubS.ok hs.2 h x hx
theorem findL_mem:∀{L:List LV} {j:Nat} {x:LV},findL L j=some x->x∈L/\x.j=j
 | [],_,_,h=>by cases h
 | y::r,j,x,h=>by
  unfold findL at h
  split at h
  ·rename_i e
   injection h with h
   subst h;exact⟨aP,aM e⟩
  ·exact⟨aJ _ (findL_mem h).1,(findL_mem h).2⟩
theorem SubL.mem:∀{L' L:List LV},SubL L' L->∀x∈L',x∈L
 | [],_,_,_,h=>by cases h
 | y::r,L,h,x,hx=>by
  rcases aL.1 hx with rfl|hx
  ·exact(findL_mem h.1).1
  ·exact SubL.mem h.2.2 x hx
theorem SubL.names{L' L:List LV}(h:SubL L' L):∀j∈namesL L',j∈namesL L:=λj hj=>by
 obtain⟨x,hx,rfl⟩:=bP.1 hj;exact bP.2 ⟨x,h.mem x hx,rfl⟩
theorem SubL.nodup:∀{L' L:List LV},SubL L' L->(namesL L').Nodup
 | [],_,_=>List.nodup_nil
 | _::_,_,h=>oB.2 ⟨farL_mem h.2.1,SubL.nodup h.2.2⟩
theorem pair_of{G:Nat->Nat}{l m:List Nat}(h:m.Pairwise λi j=>G i≠G j)(hl:∀j∈l,j∈m)(hd:l.Nodup):l.Pairwise λi j=>G i≠G j:=by
 refine oQ (λ{x y} hx hy hxy=>?_) hd;obtain⟨p,hp,e1⟩:=gV (hl x hx);obtain⟨q,hq,e2⟩:=gV (hl y hy);rw [<-e1,<-e2]
 rcases Nat.lt_trichotomy p q with h1|h1|h1
 ·exact gT.1 h p q hp hq h1
 ·subst h1;exact absurd (e1.symm.trans e2) hxy
 ·exact(gT.1 h q p hq hp h1).symm
theorem denE_sub{G:Nat->Nat}:∀{E' E:SE},SubS E' E->Sub (denE G E') (denE G E)
 | [],_,_=>trivial
 | (k,v)::r,E,h=>⟨by rw [look_den,h.1];rfl,denE_sub h.2⟩
structure Weak(e e':Env):Prop where
  E:SubS e'.E e.E
  L:SubL e'.L e.L
  R:e.R.Perm e'.R
  F:∀w,e.F w->e.M w->e'.F w
  M:∀w,e.M w->e'.M w
section
variable{b:Base}{N:Nat}{e e':Env}{a:Act}{w:World}
theorem StW.less{G:Nat->Nat}{S:Nat->Prop}{L L':List LV}{R:List Res}{F M:World->Prop}(h:StW b G S L R F M w)(hL:SubL L' L):StW b G S L' R F M w:=by
 have hM:∀k,Mine S G L' k->Mine S G L k:=λk hk=>hk.imp id λ⟨j,hj,e⟩=>⟨j,hL.names j hj,e⟩;exact⟨λx hx=>h.var x (hL.mem x hx),pair_of h.apart hL.names hL.nodup,h.res,λj hj=>h.sep j (hL.names j hj),h.fact.less λk _ hk=>hk.imp id (hM k),h.fresh.less λk _ hk=>hk.imp id (hM k),h.chg,λk hk=>h.mine k (hM k hk),h.old⟩
theorem St.weak(h:St b N e a w)(hw:Weak e e'):St b N e' a w:=by
 obtain⟨G,S,h1,h2,h3⟩:=h;refine⟨G,S,h1.sub (denE_sub hw.E),hw.E.ok h2,?_⟩;have h4:=(h3.less hw.L).imp hw.F hw.M;exact { h4 with res:=h4.res.perm hw.R }
end
section
variable{P:Program}{b:Base}{Q:Exit->Act->World->Prop}{N:Nat}{e e':Env}
theorem k_weak{K:Act->World->Prop}(hw:Weak e e')(h:kS b K N e'):kS b K N e:=λa w hs=>h a w (hs.weak hw)
theorem c_weak{c:Code}(hw:Weak e e')(h:cS P b c Q N e'):cS P b c Q N e:=λa w hs=>h a w (hs.weak hw)
theorem zM{x y:Code}(h:∀K:Act->World->Prop,(∀e',cS P b y Q N e'->kS b K N e')->cS P b x (Exit.then K Q) N e):cS P b (.seq x y) Q N e:=λa w hs =>
 wp_seq_k λK hK=>h K (λ_ h' a' w' hs'=>hK _ _ (h' a' w' hs')) a w hs
theorem s_lit{id:Nat}{l:List Oper}(h:lS P b l.toArray Q N l e):cS P b (.region id l.toArray false) Q N e:=λa w hs=>wp_region_lit (h a w hs)
theorem s_reg{id:Nat}{l:List Oper}{y:Code}(h:∀K:Act->World->Prop,(∀e',cS P b y Q N e'->kS b K N e')->lS P b l.toArray (Exit.then K Q) N l e):cS P b (.seq (.region id l.toArray false) y) Q N e:=zM λK hK=>s_lit (h K hK)
theorem zJ{ops:Array Oper}(h:kS b (Q .normal) N e):lS P b ops Q N [] e:=λa w hs=>wpl_nil (h a w hs)
theorem s_if{c:Operand}{x y:Code}{E:SE}{L:List LV}{R:List Res}{F M:World->Prop}(t:Bool)(hc:evS E c=some (.b t))(h1:t=true->cS P b x Q N ⟨E,L,R,F,M⟩)(h2:t=false->cS P b y Q N ⟨E,L,R,F,M⟩):cS P b (.cond c x y) Q N ⟨E,L,R,F,M⟩:=λa w hs=>by
 have hs':=hs;obtain⟨G,S,h3⟩:=hs;exact wp_cond_split (h3.fr.eval (evS_ok hc)) (λht=>h1 ht a w hs') (λht=>h2 ht a w hs')
theorem zW{c:Operand}{x y:Code}{E:SE}{L:List LV}{R:List Res}{F M:World->Prop}(p:Prop)[Decidable p](hc:evS E c=some (.b (decide p)))(h1:p->cS P b x Q N ⟨E,L,R,F,M⟩)(h2:¬p->cS P b y Q N ⟨E,L,R,F,M⟩):cS P b (.cond c x y) Q N ⟨E,L,R,F,M⟩ :=
 s_if (decide p) hc (λh=>h1 (of_decide_eq_true h)) (λh=>h2 (of_decide_eq_false h))
theorem s_yes{c:Operand}{x y:Code}{E:SE}{L:List LV}{R:List Res}{F M:World->Prop}(hc:evS E c=some (.v (.bool true)))(h1:cS P b x Q N ⟨E,L,R,F,M⟩):cS P b (.cond c x y) Q N ⟨E,L,R,F,M⟩:=λa w hs=>by
 have hs':=hs;obtain⟨G,S,h3⟩:=hs;exact wp_cond_true (h3.fr.eval (evS_ok hc)) (h1 a w hs')
theorem s_no{c:Operand}{x y:Code}{E:SE}{L:List LV}{R:List Res}{F M:World->Prop}(hc:evS E c=some (.v (.bool false)))(h1:cS P b y Q N ⟨E,L,R,F,M⟩):cS P b (.cond c x y) Q N ⟨E,L,R,F,M⟩:=λa w hs=>by
 have hs':=hs;obtain⟨G,S,h3⟩:=hs;exact wp_cond_false (h3.fr.eval (evS_ok hc)) (h1 a w hs')
theorem zN{id:Nat}{c:Code}(h:cS P b c (dN id Q) N e):cS P b (.block id c) Q N e:=λa w hs=>wp_block (h a w hs)
theorem zO(h:kS b (Q .normal) N e):cS P b .skip Q N e:=λa w hs=>wp_skip (h a w hs)
theorem s_exit{id:Nat}(h:kS b (Q (.exit id)) N e):cS P b (.exit id) Q N e:=λa w hs=>wp_exit (h a w hs)
theorem zP(h:kS b (Q .ret) N e):cS P b .ret Q N e:=λa w hs=>wp_ret (h a w hs)
theorem k_out{id:Nat}(h:kS b (Q .normal) N e):kS b (dN id Q (.exit id)) N e:=λa w hs=>by
 simp only [dN,if_true];exact h a w hs
theorem zS{id:Nat}{K:Act->World->Prop}(h:kS b (Q (.exit id)) N e):kS b (Exit.then K Q (.exit id)) N e:=h
theorem k_passB{id id':Nat}(hne:(id==id')=false)(h:kS b (Q (.exit id)) N e):kS b (dN id' Q (.exit id)) N e:=λa w hs=>by
 simp only [dN];rw [if_neg (by simpa using hne)];exact h a w hs
theorem s_loop{σ:Type}{c:Code}(m:σ->Nat)(F:σ->Env)(I:σ->Prop)
 (round:∀s,I s->cS P b c (Exit.then (λa' w'=>∃s',I s'/\St b N (F s') a' w'/\m s'<m s) Q) N (F s))(s0:σ)(h0:I s0):cS P b (.loop c) Q N (F s0):=λa w hs=>by
 obtain⟨G,S,h1,h2,h3⟩:=hs;refine c_loop (σ:=σ×(Nat->Nat)×(Nat->Prop)) (m:=λx=>m x.1) (F:=λx=>denE x.2.1 (F x.1).E) (R:=λx w=>I x.1/\OkE (F x.1).E/\StW b x.2.1 x.2.2 (F x.1).L (F x.1).R (F x.1).F (F x.1).M w) ?_ (s0,G,S) ⟨h0,h2,h3⟩ a h1
 rintro⟨s,G,S⟩ w ⟨hI,hE,hW⟩ a ha
 refine wp_mono (round s hI a w ⟨G,S,ha,hE,hW⟩) λx a' w' hx=>?_
 cases x with
 | normal =>
  obtain⟨s',hI',⟨G',S',h4,h5,h6⟩,hm⟩:=hx;exact⟨(s',G',S'),⟨hI',h5,h6⟩,h4,hm⟩
 | exit _=>exact hx
 | goto _=>exact hx
 | ret=>exact hx
 | panic _=>exact hx
 | outgrown=>exact hx
theorem zX{σ:Type}{m:σ->Nat}{F:σ->Env}{I:σ->Prop}{s:σ}(s':σ)(hI:I s')(hm:m s'<m s)(hw:Weak e (F s')):kS b (λa' w'=>∃s',I s'/\St b N (F s') a' w'/\m s'<m s) N e:=λ_ _ hs=>⟨s',hI,hs.weak hw,hm⟩
end
inductive RV where
  | q (x:SQ)
  | t (vs:List SQ)
def RV.sv:RV->SV
  | .q x=>.q x
  | .t vs=>.t vs
def RV.den:RV->Value
  | .q x=>x.den
  | .t vs=>.tuple (vs.map SQ.den).toArray
theorem RV.sv_den(r:RV)(G:Nat->Nat):r.sv.den G=r.den:=by cases r<;>rfl
abbrev RV.v(x:Value):RV:=.q (.c (.v x))
structure Post(α:Type) where
  ret:α->RV
  own:α->List Res:=λ_=>[]
  p:α->World->Prop:=λ_ _=>True
  n:α->World->Prop:=λ_ _=>True
def Spec(f:FuncId)(args:List Value)(own:List Res)(F:World->Prop){α:Type}(post:Post α):Prop :=
  ∀(w:World) (S X:Nat->Prop),starL own w S->(∀k,X k->k<w.heap.size/\¬S k)->Stb (λk=>X k\/S k) F w ->
    Calls Tryz.prog f args.toArray w λe w'=>∃x S',e = .returned (post.ret x).den/\(post.ret x).sv.Ok/\Chg S w w'/\starL (post.own x) w' S'/\(∀k,S' k->k<w.heap.size->S k) /\
      Stb (λk=>X k\/S' k) (post.p x) w'/\Stb (λk=>k<w.heap.size\/S' k) (post.n x) w'
abbrev one(r:RV):Post Unit:={ ret:=λ_=>r }
theorem Spec.pure{f:FuncId}{args:List Value}{F:World->Prop}{r:RV}(hr:r.sv.Ok)(h:∀w,F w->Calls Tryz.prog f args.toArray w λe w'=>e = .returned r.den/\Below w.heap.size w w'):Spec f args [] F (one r):=λw _ _ _ _ hF =>
 (h w hF.now).mono λ_ _ ⟨h1,h2⟩=>⟨(),λ_=>False,h1,hr,Chg.of_up h2,λ_ h=>h,λ_ h=>h.elim,λ_ _=>trivial,λ_ _=>trivial⟩
theorem Spec.imp{f:FuncId}{args:List Value}{own:List Res}{F F':World->Prop}{α:Type}{post:Post α}(h:Spec f args own F post)(hF:∀w,F' w->F w):Spec f args own F' post:=λw S X hS hX hf=>h w S X hS hX (hf.imp hF)
def argS:Nat->List SQ->SE
  | _,[]=>[]
  | j,v::vs=>(j,.q v)::argS (j+1) vs
theorem argS_den(G:Nat->Nat):∀(vs:List SQ) (j:Nat),denE G (argS j vs)=argE j (vs.map SQ.den)
 | [],_=>rfl
 | v::vs,j=>by rw [argS,denE,argS_den G vs (j+1)];rfl
theorem argS_ok:∀{vs:List SQ} {j:Nat},(∀v∈vs,v.Ok)->OkE (argS j vs)
 | [],_,_=>λ_ h=>by cases h
 | v::vs,j,h=>OkE.cons (argS_ok λu hu=>h u (by simp [hu])) (h v (by simp))
def endS{α:Type}(b:Base)(post:Post α)(e:Ending)(w':World):Prop:=∃x S',e = .returned (post.ret x).den/\(post.ret x).sv.Ok/\Chg b.D b.B w'/\starL (post.own x) w' S'/\(∀k,S' k->k<b.B.heap.size->b.D k) /\
  Stb (λk=>b.X k\/S' k) (post.p x) w'/\Stb (λk=>k<b.B.heap.size\/S' k) (post.n x) w'
theorem zQ{f:FuncId}{fn:Func}{c:Code}{own:List Res}{F:World->Prop}{α:Type}{post:Post α}(vs:List SQ)(N:Nat)(hf:Tryz.prog.funcs[f]?=some fn)(hb:fn.body=some c)(hn:vs.length+(fn.ntmps-vs.length)=N)(hv:∀v∈vs,v.Ok)
 (h:∀b:Base,cS Tryz.prog b c (bodyPost Tryz.prog fn (endS b post)) N ⟨argS 0 vs,[],own,F,λ_=>True⟩):Spec f (vs.map SQ.den) own F post:=λw S X hS hX hF=>by
 refine calls_F N hf hb (by simpa using hn) λa ha=>?_;refine h ⟨X,w,S⟩ a w ⟨λ_=>0,S,by rw [argS_den];exact ha,argS_ok hv,λx hx=>(by cases hx),sV,hS,λx hx=>(by cases hx),?_,λ_ _=>trivial,Chg.refl _ _,λk hk _=>?_,hX⟩
 ·exact hF.less λk _ hk=>hk.imp id λhk=>hk.elim id λ⟨j,hj,_⟩=>by cases hj
 ·exact hk.elim id λ⟨j,hj,_⟩=>by cases hj
def resS(T:List TyR)(E:SE)(L:List LV):List ResultVar->Option (List SQ)
  | []=>some []
  | .tmp t::r=>match lookS E t,resS T E L r with
    | some (.q q),some qs=>some (q::qs)
    | _,_=>none
  | .cell t ty::r=>match lookS E t,resS T E L r with
    | some (.a j off),some qs=>match lookL L j with
      | some ps=>match loadS T ps ty off with
        | some q=>some (q::qs)
        | none=>none
      | none=>none
    | _,_=>none
def retOf:List SQ->RV
  | [q]=>.q q
  | qs=>.t qs
def elemR(tmps:Array Value):ResultVar->Sem Value
  | .tmp t=>pure (tmps.getD t undef)
  | .cell p t=>do loadVar t (<-asAddr (tmps.getD p undef))
theorem elemR_ok{P:Program}{T:List TyR}(hT:OkT P T){E:SE}{L:List LV}(hE:OkE E)(hL:OkL L){N:Nat}{G:Nat->Nat}{a:Act}{w:World}(ha:Fr N (denE G E) a)(hl:LAt G L w){r:ResultVar}{rs:List ResultVar}{qs:List SQ}(h:resS T E L (r::rs)=some qs) :
  ∃q qs',qs=q::qs'/\q.Ok/\(elemR a.tmps r).run P w = .ok q.den w/\resS T E L rs=some qs':=by
 cases r with
 | tmp t =>
  simp only [resS] at h
  split at h
  ·rename_i q qs' h1 h2
   injection h with h
   subst h;have e:a.tmps.getD t undef=q.den:=ha.get t _ (by rw [look_den,h1];rfl);exact⟨q,qs',rfl,hE.get h1,by simp only [elemR,aH,e],h2⟩
  ·cases h
 | cell t ty =>
  simp only [resS] at h
  split at h
  ·rename_i j off qs' h1 h2
   split at h
   ·rename_i ps hps
    split at h
    ·rename_i q hq
     injection h with h
     subst h;obtain⟨y,hy,rfl,rfl⟩:=lookL_mem hps;obtain⟨h5,h6⟩:=loadS_ok hT (hL y hy) hq;have e:a.tmps.getD t undef = .pointer (some ⟨G y.j,off,none⟩):=ha.get t _ (by rw [look_den,h1];rfl);have h7:=h6 (hl y hy);simp only [iL,iH,aG,aH,aD] at h7;exact⟨q,qs',rfl,h5,by simp only [elemR,aG,aH,aD,e,asAddr,h7],h2⟩
    ·cases h
   ·cases h
  ·cases h
theorem results_eq(fn:Func)(tmps:Array Value):results fn tmps=(do
  let vs <-fn.results.mapM (elemR tmps)
  pure (if h:vs.size=1 then vs[0] else .tuple vs)):=by
 unfold results
 congr 2
theorem run_results{P:Program}{T:List TyR}(hT:OkT P T){E:SE}{L:List LV}(hE:OkE E)(hL:OkL L){N:Nat}{G:Nat->Nat}{fn:Func}{a:Act}{w:World}(ha:Fr N (denE G E) a)(hl:LAt G L w){rs:List ResultVar}{qs:List SQ}(hr:fn.results=rs.toArray)(hs:rs.length<=3)(h:resS T E L rs=some qs) :
  (retOf qs).sv.Ok/\(results fn a.tmps).run P w = .ok (retOf qs).den w:=by
 rw [results_eq,hr]
 rcases rs with _|⟨r1,_|⟨r2,_|⟨r3,_|⟨r4,rs⟩⟩⟩⟩
 ·cases h
  exact⟨λ_ h=>(by cases h),by simp [retOf,RV.den]⟩
 ·obtain⟨q1,qs,rfl,o1,e1,h⟩:=elemR_ok hT hE hL ha hl h
  cases h
  exact⟨o1,by simp [retOf,RV.den,e1]⟩
 ·obtain⟨q1,qs,rfl,o1,e1,h⟩:=elemR_ok hT hE hL ha hl h
  obtain⟨q2,qs,rfl,o2,e2,h⟩:=elemR_ok hT hE hL ha hl h
  cases h
  refine⟨λx hx=>?_,by simp [retOf,RV.den,e1,e2]⟩;simp only [aL,lM,or_false] at hx
  rcases hx with rfl|rfl<;>assumption
 ·obtain⟨q1,qs,rfl,o1,e1,h⟩:=elemR_ok hT hE hL ha hl h
  obtain⟨q2,qs,rfl,o2,e2,h⟩:=elemR_ok hT hE hL ha hl h;obtain⟨q3,qs,rfl,o3,e3,h⟩:=elemR_ok hT hE hL ha hl h
  cases h
  refine⟨λx hx=>?_,by simp [retOf,RV.den,e1,e2,e3]⟩;simp only [aL,lM,or_false] at hx
  rcases hx with rfl|rfl|rfl<;>assumption
 ·simp at hs
theorem zR{T:List TyR}(hT:OkT Tryz.prog T){b:Base}{fn:Func}{N:Nat}{E:SE}{L:List LV}{R:List Res}{F M:World->Prop}{α:Type}{post:Post α}{rs:List ResultVar}{qs:List SQ}(x:α)(hr:fn.results=rs.toArray)(hs:rs.length<=3)(h:resS T E L rs=some qs)
 (hx:post.ret x=retOf qs)(hR:post.own x=R)(hp:∀w,F w->M w->post.p x w)(hn:∀w,M w->post.n x w):kS b (bodyPost Tryz.prog fn (endS b post) .ret) N ⟨E,L,R,F,M⟩:=λa w ⟨G,S,h1,h2,h3⟩=>by
 obtain⟨h4,h5⟩:=run_results hT h2 h3.okL h1 h3.at hr hs h;refine bodyPost_ret h5 h1.defers ⟨x,S,by rw [hx],by rw [hx];exact h4,h3.chg,by rw [hR];exact h3.res,λk hk hlt=>h3.mine k (.inl hk) hlt,(h3.all.imp λw hw=>hp w hw.1 hw.2).less λk _ hk=>hk.imp id .inl,(h3.fresh.imp hn).less λk _ hk=>hk.imp id .inl⟩
theorem k_retD{T:List TyR}(hT:OkT Tryz.prog T){b:Base}{fn:Func}{N:Nat}{E:SE}{L:List LV}{R:List Res}{F M:World->Prop}{α:Type}{post:Post α}{rs:List ResultVar}{qs:List SQ}(x:α)(hr:fn.results=rs.toArray)(hs:rs.length<=3)(h:resS T E L rs=some qs)
 (hx:(post.ret x).den=(retOf qs).den)(ho:(post.ret x).sv.Ok)(hR:post.own x=R)(hp:∀w,F w->M w->post.p x w)(hn:∀w,M w->post.n x w):kS b (bodyPost Tryz.prog fn (endS b post) .ret) N ⟨E,L,R,F,M⟩:=λa w ⟨G,S,h1,h2,h3⟩=>by
 obtain⟨h4,h5⟩:=run_results hT h2 h3.okL h1 h3.at hr hs h;refine bodyPost_ret h5 h1.defers ⟨x,S,by rw [hx],ho,h3.chg,by rw [hR];exact h3.res,λk hk hlt=>h3.mine k (.inl hk) hlt,(h3.all.imp λw hw=>hp w hw.1 hw.2).less λk _ hk=>hk.imp id .inl,(h3.fresh.imp hn).less λk _ hk=>hk.imp id .inl⟩
end Go.Proofs.YtlhlkofpjhpaoaaGreatDoor
