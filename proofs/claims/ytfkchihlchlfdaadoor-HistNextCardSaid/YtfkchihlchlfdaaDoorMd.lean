import Derived.Test.YtfkchihlchlfdaaDoorMc
import Derived.Deep.MidRow
import Derived.Laws.Tables
import Derived.Laws.MakeOwn
import Derived.Maps.AppendAt
open Array renaming length_toList->dS,toArray_toList->jF,toList_append->nD
open Bool renaming and_eq_true->aV,false_eq_true->uX
open Go.Addr renaming add_mid->k9
open Go.Exit renaming inBlock->dX
open Go.Instr renaming fill->gC,fieldAt->jO,indexAt->mL,sureAddr->nJ,loadAt->oF,storeAt->CK
open Go.Oper renaming upon->jR,wp->lR
open Go.Region renaming wanted->aL
open Go.Result renaming andThen_ok->aG
open Go.Sem renaming run_pure->aI,run_bind->aJ
open List renaming set_cons_zero->aB,set_cons_succ->aC,length_append->aO,append_assoc->aU,mem_cons_of_mem->bE,getElem?_cons_zero->bX,mem_cons_self->bZ,mem_cons->cA,all_eq_true->cE,mem_singleton->cG,map_cons->cH,map_toArray->eD,mem_of_getElem?->fM,mem_map->fV,map_nil->gK,getElem?_eq_some_iff->hH,getElem?_append_right->kK,pairwise_iff_getElem->mK,getElem_of_mem->mM,getElem?_append_left->vW,nodup_cons->AV
open List.Pairwise renaming imp_of_mem->Bq
open Nat renaming le_refl->aF,blt->aQ,lt_of_lt_of_le->bB,eq_of_beq_eq_true->bL,zero_add->cW,add_assoc->dI,add_zero->fJ,beq->g7,lt_irrefl->lY,add_sub_cancel_left->Aq
open Option renaming map_some->fF
open Option.some renaming injEq->bH,inj->eW
open Prod.mk renaming injEq->CF
namespace Go.Proofs.YtfkchihlchlfdaaDoor
open Go.RowKit Go.IntWalk
structure TyR where
  t : TypeId
  kind : Nat
  zero : List Pt
  el : Option TypeId:=none
  ik : Option IntKind:=none
  pt : Bool:=false
  w : Nat:=8
def kindOf : TypeDesc -> Nat
  | .array _ _=>1
  | .struct _=>2
  | _=>0
def Va : TypeDesc -> Option TypeId
  | .slice e=>some e
  | _=>none
def U0 : TypeDesc -> Option IntKind
  | .int k=>some k
  | _=>none
def Uz : TypeDesc -> Bool
  | .pointer _=>true
  | _=>false
def rowOf (P : Program) (t : TypeId) : Option (Nat × Option (Array Value) × Nat × Option (List (Nat × Nat)) × Option TypeId × Option IntKind × Bool × Nat) :=
  match P.info? t,P.underlying t with
  | some it,some d=>some (it.size,it.zero.map (·.cells),kindOf d,(match d with
    | .struct fs=>fs.toList.mapM λf=>(P.info? f.type).map λi=>(f.offset,i.size)
    | .array _ e=>(P.info? e).map λ_=>[]
    | _=>some []),Va d,U0 d,Uz d,it.bytes)
  | _,_=>none
def j5 : Nat -> List Pt -> List (Nat × Nat)
  | _,[]=>[]
  | o,p :: r=>(o,p.size) :: j5 (o + p.size) r
def TyR.ok (P : Program) (r : TyR) : Prop:=rowOf P r.t = some (mF r.zero,some (eO r.zero),r.kind,some (match r.kind with | 2=>j5 0 r.zero | _=>[]),r.el,r.ik,r.pt,r.w) /\ OkP r.zero
def OkT (P : Program) (T : List TyR) : Prop:=∀ r ∈ T,r.ok P
def IH : Value -> Bool
  | .agg _=>false
  | .tuple _=>false
  | _=>true
theorem DE {v : Value} (h : IH v = true) : v.oneCell' = true /\ v.cells = #[v]:=by
 cases v <;> first | exact ⟨rfl,rfl⟩ | cases h
def UD (ps : List Pt) : Bool:=ps.all λp=>match p with
  | .one (.v v)=>IH v
  | .one _=>false
  | .agg n cs=>cs.size == n && cs.toList.all λv=>v.oneCell'
theorem Qw {ps : List Pt} (h : UD ps = true) : OkP ps:=λp hp=>by
 have:=cE.1 h p hp
 cases p with
 | one s =>
  cases s with
  | v x=>exact ⟨trivial,DE this⟩
  | b e=>cases this
  | o x=>cases this
 | agg n cs =>
  simp only [aV,beq_iff_eq,cE] at this;exact this
theorem SU {P : Program} {T : List TyR} (h : T.map (λr=>rowOf P r.t) = T.map λr=>some (mF r.zero,some (eO r.zero),r.kind,some (match r.kind with | 2=>j5 0 r.zero | _=>[]),r.el,r.ik,r.pt,r.w))
  (h2 : (T.all λr=>UD r.zero) = true) : OkT P T:=λr hr=>by
 refine ⟨?_,Qw (cE.1 h2 r hr)⟩;obtain ⟨i,hi,rfl⟩:=mM hr;have h1:=congrArg (·[i]?) h
 simpa [hi] using h1
def oK : List TyR -> TypeId -> Option TyR
  | [],_=>none
  | r :: T,t=>match g7 r.t t with
    | true=>some r
    | false=>oK T t
theorem iB {P : Program} : ∀ {T : List TyR} {t : TypeId} {r : TyR},OkT P T -> oK T t = some r -> r.ok P /\ r.t = t
 | [],_,_,_,h=>by cases h
 | r0 :: T,t,r,hT,h=>by
  unfold oK at h
  split at h
  ·rename_i e
   injection h with h
   subst h;exact ⟨hT _ bZ,bL e⟩
  ·exact iB (λr hr=>hT r (bE _ hr)) h
section
variable {P : Program} {r : TyR}
theorem TyR.ok.info (h : r.ok P) : ∃ it d,P.info? r.t = some it /\ P.underlying r.t = some d /\ it.size = mF r.zero /\ it.zero.map (·.cells) = some (eO r.zero) /\ kindOf d = r.kind /\
  (match d with | .struct fs=>fs.toList.mapM λf=>(P.info? f.type).map λi=>(f.offset,i.size) | .array _ e=>(P.info? e).map λ_=>[] | _=>some []) = some (match r.kind with | 2=>j5 0 r.zero | _=>[]) /\ Va d = r.el /\ U0 d = r.ik /\ Uz d = r.pt /\ it.bytes = r.w:=by
 have h1:=h.1
 unfold rowOf at h1
 split at h1
 ·rename_i it d h2 h3
  simp only [bH,CF] at h1;exact ⟨it,d,h2,h3,h1.1,h1.2.1,h1.2.2.1,h1.2.2.2.1,h1.2.2.2.2⟩
 ·cases h1
end
theorem Oa {d : TypeDesc} (h : kindOf d ≠ 0) : d.isRow = true:=by
 cases d <;> first | rfl | exact absurd rfl h
theorem Ob {d : TypeDesc} (h : kindOf d = 0) : d.isRow = false:=by
 cases d <;> first | rfl | cases h
def AH (T : List TyR) (ps : List Pt) (t : TypeId) (off : Nat) : Option SQ:=match oK T t with
  | none=>none
  | some r=>match r.kind with
    | 0=>match atP ps off with
      | some (.one v)=>some (.c v)
      | _=>none
    | _ + 1=>match g7 off 0,g7 (mF ps) (mF r.zero) with
      | true,true=>some (.p ps)
      | _,_=>match atP ps off with
        | some (.agg n cs)=>match g7 n (mF r.zero) with
          | true=>some (.p [.agg n cs])
          | false=>none
        | _=>none
theorem M6 {w : World} {g ty : Nat} {cs : Array Value} {A B Z : List Value} (hb : Blk w g ty cs) (h : cs.toList = A ++ (B ++ Z)) : w.rangeAt g A.length B:=λj v hj=>by
 rw [hb.cell]
 have h1 : cs.toList[A.length + j]? = some v:=by
  rw [h,kK (by omega),Aq,vW (hH.1 hj).1];exact hj
 simpa using h1
theorem wC {P : Program} {w : World} {t : TypeId} {a : Addr} {v : Value} {d : TypeDesc} (hu : P.underlying t = some d) (hd : d.isRow = false) (hc : w.cell? a = some v) : (oF t (.pointer (some a))).run P w = .ok v w:=by
 have h1 : (isAgg t).run P w = .ok false w:=by
  unfold isAgg
  simp only [aJ,run_underlying hu,aG]
  cases d <;> first | rfl | cases hd
 simp only [oF,nJ,loadVar,aJ,aI,aG,h1,uX,if_false]
 simp [load,Sem.run,hc]
theorem yD {P : Program} {w : World} {t : TypeId} {g off : Nat} {cs : Array Value} {d : TypeDesc} (hu : P.underlying t = some d) (hd : d.isRow = true) (hi : (P.info? t).map (·.size) = some cs.size) (hc : w.rangeAt g off cs.toList) :
  (oF t (.pointer (some ⟨g,off,none⟩))).run P w = .ok (.agg cs) w:=by
 have h1:=run_loadVar_mid w g off t cs.toList d hc hu hd (by simpa using hi);simp only [oF,nJ,aJ,aI,aG,h1,jF]
theorem FX {w : World} {g base : Nat} {cs A B Z : List Value} (hb : w.rangeAt g base cs) (h : cs = A ++ (B ++ Z)) : w.rangeAt g (base + A.length) B:=λj v hj=>by
 rw [dI];refine hb (A.length + j) v ?_;rw [h,kK (by omega),Aq,vW (hH.1 hj).1];exact hj
theorem GA {P : Program} {T : List TyR} (hT : OkT P T) {ps : List Pt} {t : TypeId} {off : Nat} {q : SQ} (hok : OkP ps) (h : AH T ps t off = some q) :
  q.Ok /\ ∀ {w : World} {g base : Nat},w.rangeAt g base (eO ps).toList -> (oF t (.pointer (some ⟨g,base + off,none⟩))).run P w = .ok q.den w:=by
 unfold AH at h
 split at h
 ·cases h
 rename_i r hr
 have hro:=iB hT hr;clear hr;obtain ⟨hro,rfl⟩:=hro;obtain ⟨it,d,h1,h2,h3,h4,h5, -⟩:=hro.info
 split at h
 ·rename_i hk
  split at h
  ·rename_i v hv
   injection h with h
   subst h;obtain ⟨ho,A,Z,e,hA⟩:=Jf hok hv;refine ⟨ho.1,λhb=>wC h2 (Ob (by rw [h5,hk])) ?_⟩;have:=FX hb e 0 v.den rfl
   rwa [hA,fJ] at this
  ·cases h
 ·rename_i hk
  have hd : d.isRow = true:=Oa (by rw [h5,hk]; omega)
  split at h
  ·rename_i e1 e2
   injection h with h
   subst h;obtain rfl:=bL e1;exact ⟨hok,λhb=>yD h2 hd (by rw [h1,fF,h3,hok.size,bL e2]) hb⟩
  ·split at h
   ·rename_i n cs hv
    split at h
    ·rename_i e
     injection h with h
     subst h;obtain ⟨ho,A,Z,e3,hA⟩:=Jf hok hv;refine ⟨λp hp=>by rw [cG.1 hp]; exact ho,λhb=>yD h2 hd (by rw [h1,fF,h3]; exact congrArg some ((bL e).symm.trans ho.1.symm)) ?_⟩;have:=FX hb e3
     rwa [hA] at this
    ·cases h
   ·cases h
theorem Gz {P : Program} {T : List TyR} (hT : OkT P T) {ps : List Pt} {t : TypeId} {off : Nat} {q : SQ} (hok : OkP ps) (h : AH T ps t off = some q) :
  q.Ok /\ ∀ {w : World} {g ty : Nat},Blk w g ty (eO ps) -> (oF t (.pointer (some ⟨g,off,none⟩))).run P w = .ok q.den w:=by
 obtain ⟨h1,h2⟩:=GA hT hok h;refine ⟨h1,λ{w g ty} hb=>?_⟩;have h3 : w.rangeAt g 0 (eO ps).toList:=M6 (A:=[]) (Z:=[]) hb (by simp);have:=h2 h3
 rwa [cW] at this
def Ty : SC -> Bool
  | .v x=>IH x
  | _=>true
theorem Kk {s : SC} (hs : s.Ok) (h : Ty s = true) : s.den.oneCell' = true /\ s.den.cells = #[s.den]:=by
 cases s with
 | v x=>exact DE h
 | b e=>exact ⟨rfl,rfl⟩
 | o x=>exact hs
def Ox (n : Nat) : SQ -> Option Pt
  | .c s=>match g7 n 1,Ty s with
    | true,true=>some (.one s)
    | _,_=>none
  | .p ps=>match g7 (mF ps) n with
    | true=>match ps with
      | [.agg m cs]=>some (.agg m cs)
      | _=>some (.agg n (eO ps))
    | false=>none
theorem Kj {n : Nat} {q : SQ} {p : Pt} (hq : q.Ok) (h : Ox n q = some p) : p.Ok /\ p.size = n /\ q.den.cells = p.cells:=by
 cases q with
 | c s =>
  simp only [Ox] at h
  split at h
  ·rename_i e1 e2
   injection h with h
   subst h;obtain ⟨h1,h2⟩:=Kk hq e2;exact ⟨⟨hq,h1,h2⟩,(bL e1).symm,h2⟩
  ·cases h
 | p ps =>
  simp only [Ox] at h
  split at h
  ·rename_i e
   have e:=bL e
   split at h
   ·rename_i m cs
    injection h with h
    subst h;exact ⟨hq _ bZ,e,rfl⟩
   ·injection h with h
    subst h;exact ⟨⟨(OkP.size hq).trans e,OkP.one hq⟩,rfl,rfl⟩
  ·cases h
def SQ.parts : SQ -> Option (List Pt)
  | .p ps=>some ps
  | _=>none
theorem SQ.rP {q : SQ} {ps : List Pt} (h : q.parts = some ps) : q = .p ps:=by
 cases q with
 | c x=>cases h
 | p qs=>cases h; rfl
def HP (T : List TyR) (ps : List Pt) (t : TypeId) (off : Nat) (q : SQ) : Option (List Pt):=match oK T t with
  | none=>none
  | some r=>match g7 off 0,g7 (mF ps) (mF r.zero),q.parts with
    | true,true,some qs=>match g7 (mF qs) (mF r.zero) with
      | true=>some qs
      | false=>none
    | _,_,_=>match Ox (mF r.zero) q with
      | some p=>MS ps off p
      | none=>none
theorem pR {P : Program} {w : World} {t : TypeId} {g off ty : Nat} {v : Value} {cs : Array Value} (hb : Blk w g ty cs) (hi : (P.info? t).map (·.size) = some v.cells.size) (hfit : off + v.cells.size <= cs.size) (h1 : ∀ u ∈ v.cells.toList,u.oneCell' = true) :
  (CK t (.pointer (some ⟨g,off,none⟩)) v).run P w = .ok () (w.setRow g (cs.toList.take off ++ v.cells.toList ++ cs.toList.drop (off + v.cells.size)).toArray):=by
 have hst:=run_storeCells_at P g off ty v.cells.toList 0 cs w hb (by simp; omega) h1;simp only [fJ,dS] at hst
 cases hq : P.info? t with
 | none=>simp [hq] at hi
 | some i =>
  have hs : i.size = v.cells.size:=by simpa [hq] using hi
  simp [CK,nJ,storeVar,sizeOf,typeInfo,hq,hs,aJ,hst]
theorem KZ {P : Program} {T : List TyR} (hT : OkT P T) {ps ps' : List Pt} {t : TypeId} {off : Nat} {q : SQ} (hok : OkP ps) (hq : q.Ok) (h : HP T ps t off q = some ps') :
  OkP ps' /\ ∀ {w : World} {g ty : Nat},Blk w g ty (eO ps) -> (CK t (.pointer (some ⟨g,off,none⟩)) q.den).run P w = .ok () (w.setRow g (eO ps')):=by
 unfold HP at h
 split at h
 ·cases h
 rename_i r hr
 have hro:=iB hT hr;clear hr;obtain ⟨hro,rfl⟩:=hro;obtain ⟨it,d,h1,h2,h3,h4,h5, -⟩:=hro.info
 split at h
 ·rename_i qs e1 e2 eq
  obtain rfl:=SQ.rP eq
  split at h
  ·rename_i e3
   injection h with h
   subst h;obtain rfl:=bL e1;have e2:=bL e2;have e3:=bL e3
   have hsz : (eO qs).size = (eO ps).size:=by rw [OkP.size hq,hok.size,e2,e3]
   refine ⟨hq,λhb=>?_⟩;have hr:=pR (P:=P) (t:=r.t) (v:=.agg (eO qs)) (off:=0) hb (by rw [h1,fF,h3]; exact congrArg some ((OkP.size hq).trans e3).symm) (by rw [cW]; exact Nat.le_of_eq hsz) (OkP.one hq);simp only [Value.cells,List.take_zero,List.nil_append,cW] at hr;rw [List.drop_eq_nil_of_le (by rw [dS]; omega),List.append_nil,jF] at hr;exact hr
  ·cases h
 ·split at h
  ·rename_i p hp
   obtain ⟨hp1,hp2,hp3⟩:=Kj hq hp;obtain ⟨h6,h7,A,B,Z,h8,h9,h10,h11⟩:=JF hok hp1 h;refine ⟨h6,λhb=>?_⟩
   have hsz : q.den.cells.size = B.length:=by rw [hp3,hp1.size,h10]
   have hcl : (eO ps).size = A.length + (B.length + Z.length):=by
    rw [<-dS,h8,aO,aO]
   have hr:=pR (P:=P) (t:=r.t) (v:=q.den) (off:=off) hb (by rw [h1,fF,h3,hp3,hp1.size,hp2]) (by omega) (by rw [hp3]; exact hp1.one);rw [hr]
   congr 1
   rw [<-jF (xs:=eO ps'),h11,h8,hsz,<-h9,hp3]
   congr 2
   rw [List.take_left,aU,<-aU A B Z,<-aO,List.drop_left]
  ·cases h
def IU (T : List TyR) (t : TypeId) (i : Nat) : Option Nat:=match oK T t with
  | none=>none
  | some r=>match g7 r.kind 2 with
    | true=>match (j5 0 r.zero)[i]? with
      | some (o,n)=>match Nat.ble 1 n with
        | true=>some o
        | false=>none
      | none=>none
    | false=>none
theorem Gu {α β : Type} {f : α -> Option β} : ∀ {l : List α} {m : List β},l.mapM f = some m -> ∀ (i : Nat) b,m[i]? = some b -> ∃ a,l[i]? = some a /\ f a = some b
 | [],m,h,i,b,hb=>by
  have : m = []:=by simpa using h.symm
  subst this
  simp at hb
 | x :: l,m,h,i,b,hb=>by
  rw [List.mapM_cons] at h
  cases hx : f x with
  | none=>rw [hx] at h; cases h
  | some y =>
   rw [hx] at h
   cases hm : l.mapM f with
   | none=>rw [hm] at h; cases h
   | some ys =>
    rw [hm] at h;have e : m = y :: ys:=(eW h).symm;subst e
    cases i with
    | zero =>
     simp only [bX,bH] at hb;exact ⟨x,rfl,by rw [hx,hb]⟩
    | succ i =>
     obtain ⟨a,h1,h2⟩:=Gu hm i b (by simpa using hb);exact ⟨a,by simpa using h1,h2⟩
theorem DO {P : Program} {T : List TyR} (hT : OkT P T) {t : TypeId} {i o : Nat} (h : IU T t i = some o) (g off : Nat) (w : World) :
  (jO t (.pointer (some ⟨g,off,none⟩)) i).run P w = .ok (.pointer (some ⟨g,off + o,none⟩)) w:=by
 unfold IU at h
 split at h
 ·cases h
 rename_i r hr
 have hro:=iB hT hr;clear hr;obtain ⟨hro,rfl⟩:=hro;obtain ⟨it,d,h1,h2,h3,h4,h5,h6, -⟩:=hro.info
 split at h
 ·rename_i hk
  have hk:=bL hk
  split at h
  ·rename_i o' n hp
   split at h
   ·rename_i hn
    injection h with h
    subst h;have hn:=Nat.le_of_ble_eq_true hn
    have hd : kindOf d = 2:=by rw [h5,hk]
    cases d <;> first | (cases hd; done) | skip
    rename_i fs
    rw [hk] at h6
    dsimp only at h6
    obtain ⟨f,h7,h8⟩:=Gu h6 i (o',n) hp
    cases hf : P.info? f.type with
    | none=>rw [hf] at h8; cases h8
    | some fi =>
     rw [hf] at h8;simp only [fF,bH,CF] at h8
     have h9 : fs[i]? = some f:=by simpa using h7
     have h10 : ¬ fi.size = 0:=by omega
     simp only [jO,aJ,run_underlying h2,aG,h9,nJ,aI,fieldPlace,sizeOf,typeInfo]
     simp [hf,h10,k9,h8.1]
   ·cases h
  ·cases h
 ·cases h
theorem Cn (place : Nat -> Option (Nat × Nat)) (i n : Nat) (A O Z V : List Value) (rest : List (Nat × Value)) (v : Value) (hp : place i = some (A.length,n)) (hV : V.length = n) (hO : O.length = n) (hv : v.cells = V.toArray) :
  gC place (A ++ (O ++ Z)).toArray ((i,v) :: rest) = gC place (A ++ (V ++ Z)).toArray rest:=by
 have:=lH place i n A O Z V rest hp hV hO;rw [<-this,gC,gC,hv]
 rfl
def E1 (E : SE) : List Pt -> List (Nat × Operand) -> Option (List Pt)
  | zs,[]=>some zs
  | zs,(i,x) :: r=>match zs[i]?,evS E x with
    | some z,some (.q q)=>match Ox z.size q with
      | some p=>E1 E (zs.set i p) r
      | none=>none
    | _,_=>none
theorem He : ∀ {zs : List Pt} {i : Nat} {z p : Pt},zs[i]? = some z -> ∃ A Z : List Value,(eO zs).toList = A ++ (z.cells.toList ++ Z) /\ (eO (zs.set i p)).toList = A ++ (p.cells.toList ++ Z) /\ ∀ o,OkP zs -> (j5 o zs)[i]? = some (o + A.length,z.size)
 | [],i,z,p,h=>by simp at h
 | y :: zs,0,z,p,h=>by
  simp only [bX,bH] at h;subst h;refine ⟨[],(eO zs).toList,by rw [fW]; simp,by rw [aB,fW]; simp,λo _=>by simp [j5]⟩
 | y :: zs,i + 1,z,p,h=>by
  obtain ⟨A,Z,h1,h2,h3⟩:=He (zs:=zs) (i:=i) (p:=p) (by simpa using h);refine ⟨y.cells.toList ++ A,Z,by rw [fW,nD,h1,aU],by rw [aC,fW,nD,h2,aU],λo hok=>?_⟩;have h4:=h3 (o + y.size) λx hx=>hok x (by simp [hx]);rw [aO,dS,(hok y (by simp)).size,<-dI]
  simpa [j5] using h4
theorem Qv {zs : List Pt} {i : Nat} {p : Pt} (h : OkP zs) (hp : p.Ok) : OkP (zs.set i p):=λx hx=>by
 rcases List.mem_or_eq_of_mem_set hx with h1 | rfl
 ·exact h x h1
 ·exact hp
theorem BM : ∀ {zs : List Pt} {i : Nat} {z p : Pt} (o : Nat),zs[i]? = some z -> p.size = z.size -> j5 o (zs.set i p) = j5 o zs
 | [],i,z,p,o,h,_=>by simp at h
 | y :: zs,0,z,p,o,h,e=>by
  simp only [bX,bH] at h;subst h;simp only [aB,j5,e]
 | y :: zs,i + 1,z,p,o,h,e=>by
  simp only [aC,j5];rw [BM (z:=z) _ (by simpa using h) e]
theorem Km {G : Nat -> Nat} {E : SE} (hE : OkE E) {places : List (Nat × Nat)} : ∀ {parts : List (Nat × Operand)} {zs ps : List Pt},OkP zs -> j5 0 zs = places -> E1 E zs parts = some ps ->
  ∀ (f : Operand -> Value),(∀ x v,evS E x = some v -> f x = v.den G) -> OkP ps /\ gC (places.toArray[·]?) (eO zs) (parts.map λ(i,x)=>(i,f x)) = some (eO ps)
 | [],zs,ps,hz,_,h,f,_=>by
  cases h
  exact ⟨hz,rfl⟩
 | (i,x) :: r,zs,ps,hz,hpl,h,f,hf=>by
  unfold E1 at h
  split at h
  ·rename_i z q hi hx
   split at h
   ·rename_i p hp
    have hq : q.Ok:=hE.ev hx;obtain ⟨h1,h2,h3⟩:=Kj hq hp;obtain ⟨A,Z,h4,h5,h6⟩:=He (p:=p) hi;have h7:=h6 0 hz;rw [hpl,cW] at h7;have hzo:=hz z (fM hi);obtain ⟨h8,h9⟩:=Km hE (parts:=r) (Qv hz h1) ((BM 0 hi h2).trans hpl) h f hf;refine ⟨h8,?_⟩;rw [<-h9];have hv : f x = q.den:=hf x _ hx;rw [cH,<-jF (xs:=eO zs),h4];have:=Cn (λk=>places.toArray[k]?) i p.size A z.cells.toList Z p.cells.toList (r.map λ(i,x)=>(i,f x)) (f x) (by simpa [h2] using h7) (by rw [dS,h1.size]) (by rw [dS,hzo.size,h2]) (by rw [hv,h3,jF]);rw [this,<-h5,jF]
   ·cases h
  ·cases h
def ikB : IntKind -> IntKind -> Bool
  | .i8,.i8=>true
  | .i16,.i16=>true
  | .i32,.i32=>true
  | .i64,.i64=>true
  | .u8,.u8=>true
  | .u16,.u16=>true
  | .u32,.u32=>true
  | .u64,.u64=>true
  | _,_=>false
theorem Tq {a b : IntKind} (h : ikB a b = true) : a = b:=by
 cases a <;> cases b <;> first | rfl | cases h
def nzB : Operand -> Bool
  | .const (.int _ (.ofNat (_ + 1)))=>true
  | _=>false
def T3 (op : BinOp) (y : Operand) (K : IntKind) (m n : Int) : Option SV:=match op with
  | .add=>some (.v (.int K (K.wrap (m + n))))
  | .sub=>some (.v (.int K (K.wrap (m - n))))
  | .mul=>some (.v (.int K (K.wrap (m * n))))
  | .quo=>match nzB y with
    | true=>some (.v (.int K (K.wrap (m.tdiv n))))
    | false=>none
  | .rem=>match nzB y with
    | true=>some (.v (.int K (m.tmod n)))
    | false=>none
  | .eql=>some (.b (decide (m = n)))
  | .neq=>some (.b (decide (m ≠ n)))
  | .lss=>some (.b (decide (m < n)))
  | .leq=>some (.b (decide (m <= n)))
  | .gtr=>some (.b (decide (m > n)))
  | .geq=>some (.b (decide (m >= n)))
  | _=>none
theorem NI {E : SE} {y : Operand} {K : IntKind} {n : Int} (h : nzB y = true) (hy : evS E y = some (.v (.int K n))) : n ≠ 0:=by
 unfold nzB at h
 split at h
 ·injection hy with hy
  injection hy with hy
  injection hy with hy
  injection hy with hy
  injection hy with _ hy
  subst hy;exact λh=>(by cases h)
 ·cases h
theorem Rs {P : Program} {E : SE} {op : BinOp} {t : TypeId} {y : Operand} {K : IntKind} {m n : Int} {v : SV} (hy : evS E y = some (.v (.int K n))) (h : T3 op y K m n = some v) :
  v.Ok /\ ∀ G w,(binOp op t (.int K m) (.int K n)).run P w = .ok (v.den G) w:=by
 cases op <;> simp only [T3] at h
 case quo =>
  split at h
  ·rename_i hz
   have:=NI hz hy
   injection h with h
   subst h;exact ⟨trivial,λG w=>by simp [binOp,Op.intDiv,this,SV.den,SQ.den,SC.den]⟩
  ·cases h
 case rem =>
  split at h
  ·rename_i hz
   have:=NI hz hy
   injection h with h
   subst h;exact ⟨trivial,λG w=>by simp [binOp,Op.intDiv,this,SV.den,SQ.den,SC.den]⟩
  ·cases h
 all_goals first | (cases h; done) | skip
 all_goals injection h with h
 all_goals subst h
 all_goals refine ⟨trivial,λG w=>?_⟩
 all_goals first | (simp [binOp,Op.intArith,SV.den,SQ.den,SC.den]; done) | skip
 all_goals simp [binOp,Op.intCmp,SV.den,SQ.den,SC.den]
 all_goals rfl
def nF (T : List TyR) (E : SE) (L : List LV) : Op -> Option SV
  | .move x=>evS E x
  | .assign x=>evS E x
  | .pick c x y=>match evS E c with
    | some (.q (.c (.v (.bool true))))=>evS E x
    | some (.q (.c (.v (.bool false))))=>evS E y
    | _=>none
  | .extract x i=>match evS E x with
    | some (.t vs)=>match vs[i]? with
      | some q=>some (.q q)
      | none=>none
    | _=>none
  | .unOp .not _ x=>match evS E x with
    | some (.q (.c (.v (.bool true))))=>some (.v (.bool false))
    | some (.q (.c (.v (.bool false))))=>some (.v (.bool true))
    | some (.q (.c (.b e)))=>some (.b !e)
    | _=>none
  | .nilCheck x=>match evS E x with
    | some (.a j off)=>some (.a j off)
    | some (.q (.c (.v (.pointer (some p)))))=>some (.v (.pointer (some p)))
    | _=>none
  | .fieldAddr t x i=>match evS E x,IU T t i with
    | some (.a j off),some o=>some (.a j (off + o))
    | some (.q (.c (.v (.pointer (some ⟨g,off,none⟩))))),some o=>some (.v (.pointer (some ⟨g,off + o,none⟩)))
    | _,_=>none
  | .load t x=>match evS E x with
    | some (.a j off)=>match wF L j with
      | some ps=>match AH T ps t off with
        | some q=>some (.q q)
        | none=>none
      | none=>none
    | _=>none
  | .build t parts=>match oK T t with
    | some r=>match g7 r.kind 2 with
      | true=>match E1 E r.zero parts.toList with
        | some ps=>some (.p ps)
        | none=>none
      | false=>match g7 r.kind 1,parts.toList with
        | true,[]=>some (.p r.zero)
        | _,_=>none
    | none=>none
  | .binOp op t x y _=>match evS E x,evS E y with
    | some (.q (.c (.v (.int K m)))),some (.q (.c (.v (.int K' n))))=>match ikB K K' with
      | true=>T3 op y K m n
      | false=>none
    | some (.q (.c (.v (.pointer p)))),some (.q (.c (.v (.pointer none))))=>match oK T t with
      | some r=>match r.pt,op,p with
        | true,.eql,none=>some (.v (.bool true))
        | true,.eql,some _=>some (.v (.bool false))
        | true,.neq,none=>some (.v (.bool false))
        | true,.neq,some _=>some (.v (.bool true))
        | _,_,_=>none
      | none=>none
    | _,_=>none
  | .convert src dst x=>match oK T src,oK T dst,evS E x with
    | some _,some r,some (.q (.c (.v (.int _ n))))=>match r.ik with
      | some K=>some (.v (.int K (K.wrap n)))
      | none=>none
    | _,_,_=>none
  | .call { callee:=.builtin .len,args:=⟨[x]⟩,argTypes:=⟨[t]⟩ }=>match oK T t with
    | some r=>match r.el,evS E x with
      | some _,some (.q (.c (.v (.slice _ n _))))=>some (.v (.int .i64 (n : Int)))
      | some _,some (.s _ _ n _)=>some (.v (.int .i64 (n : Int)))
      | _,_=>none
    | none=>none
  | _=>none
def OkL (L : List LV) : Prop:=∀ x ∈ L,OkP x.ps
def LAt (G : Nat -> Nat) (L : List LV) (w : World) : Prop:=∀ x ∈ L,Blk w (G x.j) x.t (eO x.ps)
theorem O4 {P : Program} {t : TypeId} {r : TyR} (hr : r.ok P) (ht : r.t = t) (hk : r.kind = 2) (parts : List (Nat × Value)) : P.built t parts = gC ((j5 0 r.zero).toArray[·]?) (eO r.zero) parts:=by
 subst ht;obtain ⟨it,d,h1,h2,h3,h4,h5,h6, -⟩:=hr.info;rw [hk] at h5 h6
 cases d <;> first | (cases h5; done) | skip
 rename_i fs
 dsimp only at h6
 cases hz : it.zero with
 | none=>rw [hz] at h4; cases h4
 | some z =>
  rw [hz] at h4;simp only [fF,bH] at h4
  unfold Program.built
  simp only [h1,h2,hz,h6,h4]
theorem Jb {P : Program} {t : TypeId} {r : TyR} (hr : r.ok P) (ht : r.t = t) (hk : r.kind = 1) : P.built t [] = some (eO r.zero):=by
 subst ht;obtain ⟨it,d,h1,h2,h3,h4,h5,h6, -⟩:=hr.info;rw [hk] at h5 h6
 cases d <;> first | (cases h5; done) | skip
 rename_i n e
 dsimp only at h6
 cases he : P.info? e with
 | none=>rw [he] at h6; cases h6
 | some ie =>
  cases hz : it.zero with
  | none=>rw [hz] at h4; cases h4
  | some z =>
   rw [hz] at h4;simp only [fF,bH] at h4
   unfold Program.built
   simp only [h1,h2,hz,he,h4]
   rfl
theorem JJ {P : Program} {t : TypeId} {e : TypeId} (ht : P.underlying t = some (.slice e)) (ty : TypeId) (A : Option Addr) (n c : Nat) (w : World) : (Builtin.len_ #[t] ty #[.slice A n c]).run P w = .ok (.int .i64 (n : Int)) w:=by
 simp [Builtin.len_,run_underlying ht,goInt]
theorem rK {P : Program} {T : List TyR} (hT : OkT P T) {E : SE} {L : List LV} {N : Nat} {o : Oper} {v : SV} (hE : OkE E) (hL : OkL L) (h : nF T E L o.op = some v) :
    v.Ok /\ ∀ {G : Nat -> Nat} {a : Act} {w : World},Fr N (fY G E) a -> LAt G L w -> (execOp a.eval o).run P w = .ok (.value (v.den G)) w:=by
  obtain ⟨dst,op,ty,pos,af,gd⟩:=o
  dsimp only at h
  have hev : ∀ {x : Operand} {u : SV},evS E x = some u -> ∀ {G : Nat -> Nat} {a : Act},Fr N (fY G E) a -> a.eval x = u.den G:=by
    intro x u hx G a ha
    exact ha.eval (eF hx)
  cases op
  case move x =>
    refine ⟨hE.ev h,λha _=>?_⟩;have h1:=hev h ha
    unfold execOp
    simp only [h1,aI]
  case assign x =>
    refine ⟨hE.ev h,λha _=>?_⟩;have h1:=hev h ha
    unfold execOp
    simp only [h1,aI]
  case pick c x y =>
    simp only [nF] at h
    split at h
    · rename_i hc
      refine ⟨hE.ev h,λha _=>?_⟩;have h1:=hev hc ha;have h2:=hev h ha
      unfold execOp
      simp only [h1,h2,SV.den,SQ.den,SC.den,asBool,aJ,aI,aG,if_true]
    · rename_i hc
      refine ⟨hE.ev h,λha _=>?_⟩;have h1:=hev hc ha;have h2:=hev h ha
      unfold execOp
      simp only [h1,h2,SV.den,SQ.den,SC.den,asBool,aJ,aI,aG,uX,if_false]
    · cases h
  case extract x i =>
    simp only [nF] at h
    split at h
    · rename_i vs hx
      split at h
      · rename_i q hq
        injection h with h
        subst h;refine ⟨hE.ev hx q (fM hq),λha _=>?_⟩;have h1:=hev hx ha
        have h2 : (vs.map SQ.den).toArray[i]? = some q.den:=by simp [hq]
        unfold execOp
        simp only [h1,SV.den,Instr.extract,h2,aJ,aI,aG]
      · cases h
    · cases h
  case unOp k t x =>
    cases k
    case not =>
      simp only [nF] at h
      split at h
      · rename_i hx
        injection h with h
        subst h;refine ⟨trivial,λha _=>?_⟩;have h1:=hev hx ha
        unfold execOp
        simp only [h1,SV.den,SQ.den,SC.den,Op.unary,aJ,aI,aG,Bool.not_true]
      · rename_i hx
        injection h with h
        subst h;refine ⟨trivial,λha _=>?_⟩;have h1:=hev hx ha
        unfold execOp
        simp only [h1,SV.den,SQ.den,SC.den,Op.unary,aJ,aI,aG,Bool.not_false]
      · rename_i e hx
        injection h with h
        subst h;refine ⟨trivial,λha _=>?_⟩;have h1:=hev hx ha
        unfold execOp
        simp only [h1,SV.den,SQ.den,SC.den,Op.unary,aJ,aI,aG]
      · cases h
    all_goals cases h
  case nilCheck x =>
    simp only [nF] at h
    split at h
    · rename_i j off hx
      injection h with h
      subst h;refine ⟨trivial,λha _=>?_⟩;have h1:=hev hx ha
      unfold execOp
      simp only [h1,SV.den,aI]
    · rename_i p hx
      injection h with h
      subst h;refine ⟨trivial,λha _=>?_⟩;have h1:=hev hx ha
      unfold execOp
      simp only [h1,SV.den,SQ.den,SC.den,aI]
    · cases h
  case fieldAddr t x i =>
    simp only [nF] at h
    split at h
    · rename_i j off o hx ho
      injection h with h
      subst h;refine ⟨trivial,λha _=>?_⟩;have h1:=hev hx ha
      unfold execOp
      simp only [h1,SV.den,DO hT ho,aJ,aI,aG]
    · rename_i g off o hx ho
      injection h with h
      subst h;refine ⟨trivial,λha _=>?_⟩;have h1:=hev hx ha
      unfold execOp
      simp only [h1,SV.den,SQ.den,SC.den,DO hT ho,aJ,aI,aG]
    · cases h
  case load t x =>
    simp only [nF] at h
    split at h
    · rename_i j off hx
      split at h
      · rename_i ps hps
        split at h
        · rename_i q hq
          injection h with h
          subst h;obtain ⟨y,hy,rfl,rfl⟩:=mG hps;obtain ⟨h3,h4⟩:=Gz hT (hL y hy) hq;refine ⟨h3,λha hl=>?_⟩;have h1:=hev hx ha
          unfold execOp
          simp only [h1,SV.den,h4 (hl y hy),aJ,aI,aG]
        · cases h
      · cases h
    · cases h
  case build t parts =>
    simp only [nF] at h
    split at h
    · rename_i r hr
      split at h
      · rename_i hk
        split at h
        · rename_i ps hps
          injection h with h
          subst h;obtain ⟨h3,h4⟩:=iB hT hr;have hf:=λ(G : Nat -> Nat)=>Km (G:=G) hE (places:=j5 0 r.zero) h3.2 rfl hps;refine ⟨(hf (λ_=>0) (λx=>((evS E x).map (SV.den λ_=>0)).getD undef) (λx u hx=>by rw [hx]; rfl)).1,λ{G a w} ha _=>?_⟩;have h5:=(hf G a.eval (λx u hx=>hev hx ha)).2;rw [<-O4 h3 h4 (bL hk)] at h5;have h6:=run_build (P:=P) w t (parts.map λ(i,x)=>(i,a.eval x)) (eO ps) (by rw [Array.toList_map]; exact h5)
          unfold execOp
          simp only [h6,SV.den,SQ.den,aJ,aI,aG]
        · cases h
      · split at h
        · rename_i hk hpt
          injection h with h
          subst h;obtain ⟨h3,h4⟩:=iB hT hr
          have hpt' : parts = #[]:=by simpa using hpt
          subst hpt';refine ⟨h3.2,λ{G a w} _ _=>?_⟩;have h6:=run_build (P:=P) w t #[] (eO r.zero) (Jb h3 h4 (bL hk))
          unfold execOp
          simp only [eD,gK,h6,SV.den,SQ.den,aJ,aI,aG]
        · cases h
    · cases h
  case binOp op t x y t2 =>
    simp only [nF] at h
    split at h
    · rename_i K m K' n hx hy
      split at h
      · rename_i hK
        obtain rfl:=Tq hK;obtain ⟨h1,h2⟩:=Rs (P:=P) (t:=t) hy h;refine ⟨h1,λ{G a w} ha _=>?_⟩;have e1:=hev hx ha;have e2:=hev hy ha
        have e3 : (eqGuard op t x y (.int K m) (.int K n)).run P w = .ok () w:=by
          cases op <;> rfl
        unfold execOp
        simp only [e1,e2,SV.den,SQ.den,SC.den,aJ,e3,h2 G w,aI,aG]
      · cases h
    · rename_i p hx hy
      split at h
      · rename_i r hr
        obtain ⟨h3,rfl⟩:=iB hT hr;obtain ⟨it,d,h5,h6, -, -, -, -, -, -,h7, -⟩:=h3.info
        have hpt : r.pt = true -> ∃ e,P.underlying r.t = some (.pointer e):=λhe=>by
          rw [he] at h7
          cases d <;> first | (cases h7; done) | skip
          exact ⟨_,h6⟩
        have key : ∀ {G : Nat -> Nat} {a : Act} {w : World},Fr N (fY G E) a -> ∀ b : Bool,(binOp op r.t (.pointer p) (.pointer none)).run P w = .ok (.bool b) w -> (execOp a.eval ⟨dst,.binOp op r.t x y t2,ty,pos,af,gd⟩).run P w = .ok (.value (.bool b)) w:=λ{G a w} ha b hb=>by
          have e1:=hev hx ha;have e2:=hev hy ha
          have e3 : (eqGuard op r.t x y (.pointer p) (.pointer none)).run P w = .ok () w:=by
            cases op <;> rfl
          unfold execOp
          simp only [e1,e2,SV.den,SQ.den,SC.den,aJ,e3,hb,aI,aG]
        have heq : ∀ w,r.pt = true -> (Op.equal r.t (.pointer p) (.pointer none)).run P w = .ok p.isNone w:=λw he=>by
          obtain ⟨e,hu⟩:=hpt he
          unfold Op.equal Op.maxDepth
          rw [show (10000 : Nat) = 9999 + 1 from rfl,Op.equalIn];simp only [aJ,run_underlying hu,aG]
          cases p <;> rfl
        split at h
        all_goals first | (cases h; done) | skip
        all_goals rename_i he
        all_goals injection h with h
        all_goals subst h
        all_goals refine ⟨trivial,λha _=>key ha _ ?_⟩
        all_goals simp [binOp,heq _ he]
      · cases h
    · cases h
  case convert src dst' x =>
    simp only [nF] at h
    split at h
    · rename_i r0 r K0 n h0 hr hx
      split at h
      · rename_i K hK
        injection h with h
        subst h;have q1:=iB hT h0;have q2:=iB hT hr;clear h0 hr;obtain ⟨q1,rfl⟩:=q1;obtain ⟨q2,rfl⟩:=q2;obtain ⟨it0,d0,_,h6, -⟩:=q1.info;obtain ⟨it,d,_,h7, -, -, -, -, -,h8, -⟩:=q2.info;rw [hK] at h8
        cases d <;> first | (cases h8; done) | skip
        injection h8 with h8
        subst h8;refine ⟨trivial,λha _=>?_⟩;have e1:=hev hx ha
        unfold execOp
        simp only [e1,SV.den,SQ.den,SC.den]
        simp [convert,run_underlying h6,run_underlying h7,Conv.intToInt]
      · cases h
    · cases h
  case call c =>
    obtain ⟨callee,args,ats⟩:=c
    cases callee
    case builtin bi =>
     cases bi
     case len =>
      obtain ⟨args⟩:=args;obtain ⟨ats⟩:=ats
      rcases args with _ | ⟨x,_ | ⟨y,r⟩⟩
      · cases h
      rcases ats with _ | ⟨t,_ | ⟨y,r⟩⟩
      all_goals first | (cases h; done) | skip
      simp only [nF] at h
      split at h
      · rename_i r hr
        obtain ⟨h3,rfl⟩:=iB hT hr;obtain ⟨it,d,h5,h6, -, -, -, -,h7, -⟩:=h3.info
        have hu : ∀ e,r.el = some e -> P.underlying r.t = some (.slice e):=λe he=>by
          rw [he] at h7
          cases d <;> first | (cases h7; done) | skip
          injection h7 with h7
          subst h7;exact h6
        split at h
        · rename_i e A n cc he hx
          injection h with h
          subst h;refine ⟨trivial,λha _=>?_⟩;have h1:=hev hx ha
          unfold execOp
          simp only [resolve,invoke,builtin,eD,cH,gK,h1,SV.den,SQ.den,SC.den,aJ,aI,aG,JJ (hu e he)]
        · rename_i e j off n cc he hx
          injection h with h
          subst h;refine ⟨trivial,λha _=>?_⟩;have h1:=hev hx ha
          unfold execOp
          simp only [resolve,invoke,builtin,eD,cH,gK,h1,SV.den,SQ.den,SC.den,aJ,aI,aG,JJ (hu e he)]
        · cases h
      · cases h
     all_goals cases h
    all_goals cases h
  all_goals cases h
def qM (ops : Array Oper) (N : Nat) (E : SE) (o : Oper) : Option Bool :=
  match o.guard with
  | none=>some true
  | some (j,b)=>match (ops[j]?).bind (·.dst) with
    | some t=>match aQ t N with
      | true=>match kU E t with
        | some (.q (.c (.v (.bool true))))=>some b
        | some (.q (.c (.v (.bool false))))=>some (!b)
        | _=>none
      | false=>none
    | none=>none
theorem pO {ops : Array Oper} {N : Nat} {G : Nat -> Nat} {E : SE} {a : Act} {o : Oper} {q : Bool} (ha : Fr N (fY G E) a) (h : qM ops N E o = some q) : aL o (yielded ops a.tmps) = q:=by
 refine Ms ha ?_
 unfold qM at h
 unfold Mt
 split at h
 ·rename_i hg
  rw [hg];exact h
 ·rename_i j b hg
  rw [hg]
  split at h
  ·rename_i t hj
   dsimp only
   rw [hj]
   split at h
   ·rename_i hN
    dsimp only
    rw [hN]
    split at h
    ·rename_i hc
     dsimp only
     rw [jJ,hc];exact h
    ·rename_i hc
     dsimp only
     rw [jJ,hc];exact h
    ·cases h
   ·cases h
  ·cases h
def GW (j : Nat) (E : SE) : Bool:=E.all λx=>x.2.Q1 j
def Qz (T : List TyR) (E : SE) (L : List LV) (k : Nat) : Op -> Option (TypeId × List Pt)
  | .alloc ty=>match oK T ty,Ad k L,GW k E with
    | some r,true,true=>some (ty,r.zero)
    | _,_,_=>none
  | .box ty x=>match evS E x,Ad k L,GW k E with
    | some (.q (.p ps)),true,true=>some (ty,ps)
    | some (.q (.c s)),true,true=>match Ty s with
      | true=>some (ty,[.one s])
      | false=>none
    | _,_,_=>none
  | _=>none
def SG (T : List TyR) (E : SE) (L : List LV) : Op -> Option (Nat × List Pt)
  | .store t x y=>match evS E x,evS E y with
    | some (.a j off),some (.q q)=>match wF L j with
      | some ps=>match HP T ps t off q with
        | some qs=>some (j,qs)
        | none=>none
      | none=>none
    | _,_=>none
  | _=>none
def sE (T : List TyR) (ops : Array Oper) (N : Nat) : List Oper -> SE -> List LV -> List Oper × SE × List LV
  | [],E,L=>([],E,L)
  | o :: l,E,L=>match qM ops N E o with
    | none=>(o :: l,E,L)
    | some false=>match o.dst with
      | some k=>match aQ k N with
        | true=>sE T ops N l ((k,.v undef) :: E) L
        | false=>(o :: l,E,L)
      | none=>sE T ops N l E L
    | some true=>match o.dst with
      | some k=>match aQ k N with
        | true=>match nF T E L o.op with
          | some v=>sE T ops N l ((k,v) :: E) L
          | none=>match Qz T E L k o.op with
            | some (ty,ps)=>sE T ops N l ((k,.a k 0) :: E) (⟨k,none,ty,ps⟩ :: L)
            | none=>(wL o :: l,E,L)
        | false=>(o :: l,E,L)
      | none=>match SG T E L o.op with
        | some (j,ps)=>sE T ops N l E (BK L j ps)
        | none=>(wL o :: l,E,L)
theorem StW.okL {b : iF} {G : Nat -> Nat} {S : Nat -> Prop} {L : List LV} {R : List Res} {F M : World -> Prop} {w : World} (h : StW b G S L R F M w) : OkL L:=λx hx=>(h.var x hx).2.1
theorem StW.at {b : iF} {G : Nat -> Nat} {S : Nat -> Prop} {L : List LV} {R : List Res} {F M : World -> Prop} {w : World} (h : StW b G S L R F M w) : LAt G L w:=λx hx=>(h.var x hx).1
theorem uI : ∀ {L : List LV} {j : Nat},Ad j L = true -> j ∉ eH L
 | [],_,_,h=>by cases h
 | x :: r,j,h,hm=>by
  unfold Ad at h
  simp only [aV,Bool.not_eq_true'] at h
  rcases cA.1 hm with e | hm
  ·rw [e] at h
   simp at h
  ·exact uI h.2 hm
theorem Re {G : Nat -> Nat} {j g : Nat} {v : SV} (h : v.Q1 j = true) : v.den (λi=>if i = j then g else G i) = v.den G:=by
 cases v with
 | q x=>rfl
 | a i off =>
  have : i ≠ j:=by
   rintro rfl
   simp [SV.Q1] at h
  simp [SV.den,this]
 | s i off n c =>
  have : i ≠ j:=by
   rintro rfl
   simp [SV.Q1] at h
  simp [SV.den,this]
 | t vs=>rfl
theorem Cs {G : Nat -> Nat} {j g : Nat} : ∀ {E : SE},GW j E = true -> fY (λi=>if i = j then g else G i) E = fY G E
 | [],_=>rfl
 | (k,v) :: r,h=>by
  unfold GW at h
  rw [List.all_cons,aV] at h;rw [fY,fY,Re h.1,Cs h.2]
section
variable {b : iF} {G : Nat -> Nat} {S : Nat -> Prop} {L : List LV} {R : List Res} {F M : World -> Prop} {w : World}
theorem StW.new (h : StW b G S L R F M w) {j : Nat} {t : TypeId} {ps : List Pt} (hj : Ad j L = true) (hp : OkP ps) : StW b (λi=>if i = j then w.heap.size else G i) S (⟨j,none,t,ps⟩ :: L) R F M (w.alloc (.cells (eO ps) t)):=by
 have hal:=(Below.refl w.heap.size w).alloc (aF _) (.cells (eO ps) t);have hn:=uI hj;have hne : ∀ i,i ∈ eH L -> i ≠ j:=λi hi e=>hn (e ▸ hi);have hG : ∀ i ∈ eH L,(if i = j then w.heap.size else G i) = G i:=λi hi=>if_neg (hne i hi);have hlt : ∀ i ∈ eH L,G i < w.heap.size:=λi hi=>h.lt _ (.inr ⟨i,hi,rfl⟩);have h1:=h.later hal
 have hM : ∀ k,oV S (λi=>if i = j then w.heap.size else G i) (⟨j,none,t,ps⟩ :: L) k -> k = w.heap.size \/ oV S G L k:=λk hk=>by
  rcases hk with hk | ⟨i,hi,rfl⟩
  ·exact .inr (.inl hk)
  ·rcases cA.1 hi with rfl | hi
   ·exact .inl (if_pos rfl)
   ·exact .inr (.inr ⟨i,hi,(hG i hi).symm⟩)
 refine ⟨λx hx=>?_,List.Pairwise.cons (λi hi=>?_) ?_,h1.res,λi hi=>?_,?_,?_,h1.chg,λk hk hlt=>?_,h.old⟩
 ·rcases cA.1 hx with rfl | hx
  ·refine ⟨?_,hp,λg hg=>by cases hg⟩
   show Blk _ (if j = j then w.heap.size else G j) t (eO ps)
   rw [if_pos rfl];exact Blk.new w _ _
  ·rw [hG _ (fV.2 ⟨x,hx,rfl⟩)]
   exact h1.var x hx
 ·show (if j = j then w.heap.size else G j) ≠ _
  rw [if_pos rfl,hG i hi];exact Nat.ne_of_gt (hlt i hi)
 ·refine Bq (λ{x y} hx hy hxy=>?_) h.apart
  rw [hG x hx,hG y hy];exact hxy
 ·rcases cA.1 hi with rfl | hi
  ·show ¬ S (if i = i then w.heap.size else G i)
   rw [if_pos rfl];exact λhs=>lY _ (h.res.lt _ hs)
  ·rw [hG i hi]
   exact h.sep i hi
 ·refine h.fact.F8 (Chg.tA hal) λi hi hd=>?_
  rcases hd with hd | hd
  ·exact .inl hd
  ·rcases hM i hd with rfl | hd
   ·exact absurd hi (lY _)
   ·exact .inr hd
 ·refine h.fresh.F8 (Chg.tA hal) λi hi hd=>?_
  rcases hd with hd | hd
  ·exact .inl hd
  ·rcases hM i hd with rfl | hd
   ·exact absurd hi (lY _)
   ·exact .inr hd
 ·rcases hM k hk with rfl | hk
  ·exact absurd (Nat.lt_of_le_of_lt h.chg.size hlt) (lY _)
  ·exact h.mine k hk hlt
theorem FZ {j : Nat} {ps : List Pt} : ∀ {L : List LV},(eH L).Nodup -> ∀ y ∈ BK L j ps,(y ∈ L /\ y.j ≠ j) \/ ∃ x ∈ L,x.j = j /\ y = { x with ps:=ps }
 | [],_,y,h=>by cases h
 | x :: r,hd,y,h=>by
  unfold BK at h
  have hd':=AV.1 hd
  split at h
  ·rename_i e
   have e:=bL e
   rcases cA.1 h with rfl | h
   ·exact .inr ⟨x,bZ,e,rfl⟩
   ·refine .inl ⟨bE _ h,λe2=>hd'.1 ?_⟩
    show x.j ∈ eH r
    rw [e,<-e2];exact fV.2 ⟨y,h,rfl⟩
  ·rename_i e
   rcases cA.1 h with rfl | h
   ·exact .inl ⟨bZ,λe2=>by rw [e2] at e; simp at e⟩
   ·rcases FZ hd'.2 y h with ⟨h1,h2⟩ | ⟨z,h1,h2,h3⟩
    ·exact .inl ⟨bE _ h1,h2⟩
    ·exact .inr ⟨z,bE _ h1,h2,h3⟩
theorem StW.nodup (h : StW b G S L R F M w) : (eH L).Nodup:=h.apart.imp λhxy e=>hxy (congrArg G e)
theorem StW.set (h : StW b G S L R F M w) {j : Nat} {ps : List Pt} (hj : j ∈ eH L) (hp : OkP ps) : StW b G S (BK L j ps) R F M (w.setRow (G j) (eO ps)):=by
 have hc:=Chg.row w (G j) (eO ps);have hmine : oV S G L (G j):=.inr ⟨j,hj,rfl⟩
 have hne : ∀ i ∈ eH L,i ≠ j -> G i ≠ G j:=λi hi e=>by
  have:=h.apart;obtain ⟨p,hp,rfl⟩:=mM hi;obtain ⟨q,hq,rfl⟩:=mM hj
  rcases Nat.lt_trichotomy p q with h1 | h1 | h1
  ·exact mK.1 this p q hp hq h1
  ·subst h1; exact absurd rfl e
  ·exact (mK.1 this q p hq hp h1).symm
 have hM : ∀ k,oV S G (BK L j ps) k ↔ oV S G L k:=λk=>by unfold oV; rw [sO]
 refine ⟨λy hy=>?_,by rw [sO]; exact h.apart,h.res.kH λk hk=>hc.block k (h.res.lt k hk) (λe=>h.sep j hj (e ▸ hk)),by rw [sO]; exact h.sep,?_,?_,h.chg.step hc (λi hi e=>by subst e; exact h.mine _ hmine hi),λk hk=>h.mine k ((hM k).1 hk),h.old⟩
 ·rcases FZ h.nodup y hy with ⟨h1,h2⟩ | ⟨x,h1,h2,rfl⟩
  ·refine ⟨(h.var y h1).1.aR (hne _ (fV.2 ⟨y,h1,rfl⟩) h2) _,(h.var y h1).2⟩
  ·subst h2
   exact ⟨(h.var x h1).1.row _,hp,(h.var x h1).2.2⟩
 ·refine h.fact.F8 (D':=Dof b.X S G (BK L j ps)) (hc.mono (D':=Dof b.X S G L) λi _ e=>by subst e; exact .inr hmine) λi _ hd=>?_
  exact hd.imp id (hM i).1
 ·refine h.fresh.F8 (D':=Nof b S G (BK L j ps)) (hc.mono (D':=Nof b S G L) λi _ e=>by subst e; exact .inr hmine) λi _ hd=>?_
  exact hd.imp id (hM i).1
end
def lS (P : Program) (b : iF) (ops : Array Oper) (Q : Exit -> Act -> World -> Prop) (N : Nat) (l : List Oper) (e : Env) : Prop:=∀ a w,St b N e a w -> wpList P ops Q l a w
theorem MX {P : Program} {o : Oper} {ty : TypeId} {x : Operand} (ho : o.op = .box ty x) (a : Act) (w : World) : (execOp a.eval o).run P w = .ok (.value (.pointer (some ⟨w.heap.size,0,none⟩))) (w.alloc (.cells (a.eval x).cells ty)):=by
 unfold execOp
 simp [ho,Instr.box,newVar,newRow]
theorem B8 {L : List LV} {j : Nat} {ps : List Pt} (h : wF L j = some ps) : j ∈ eH L:=by
 obtain ⟨x,hx,rfl,_⟩:=mG h;exact fV.2 ⟨x,hx,rfl⟩
section
variable {P : Program} {b : iF} {T : List TyR} {ops : Array Oper} {Q : Exit -> Act -> World -> Prop} {N : Nat} {R : List Res} {F M : World -> Prop}
theorem pL {o : Oper} {l : List Oper} {a : Act} {w w' : World} {v : Value} (hw : aL o (yielded ops a.tmps) = true) (hr : (execOp a.eval o).run P w = .ok (.value v) w') (h : wpList P ops Q l (a.put o.dst v) w') : wpList P ops Q (o :: l) a w:=by
 unfold wpList
 rw [if_pos hw];refine .inl ?_
 unfold lR
 rw [hr];exact h
theorem Fk {o : Oper} {l : List Oper} {a : Act} {w w' : World} (hw : aL o (yielded ops a.tmps) = true) (hr : (execOp a.eval o).run P w = .ok .skip w') (h : wpList P ops Q l (a.put o.dst undef) w') : wpList P ops Q (o :: l) a w:=by
 unfold wpList
 rw [if_pos hw];refine .inl ?_
 unfold lR
 rw [hr];exact h
theorem Fl {o : Oper} {l : List Oper} {a : Act} {w : World} (hw : aL o (yielded ops a.tmps) = true) (h : wpList P ops Q (wL o :: l) a w) : wpList P ops Q (o :: l) a w:=by
 obtain ⟨dst,op,ty,pos,af,gd⟩:=o
 unfold wpList at h ⊢
 rw [if_pos hw];rw [if_pos (by rfl)] at h;exact h
theorem StA.put {e : Env} {G : Nat -> Nat} {S : Nat -> Prop} {a : Act} {w : World} (h : StA b N e G S a w) {k : Nat} (hk : aQ k N = true) {v : SV} (hv : v.Ok) : StA b N { e with E:=(k,v) :: e.E } G S (a.put (some k) (v.den G)) w:=⟨h.fr.put hk _,h.ok.cons hv,h.st⟩
theorem sD (hT : OkT P T) : ∀ {l : List Oper} {E : SE} {L : List LV},lS P b ops Q N (sE T ops N l E L).1 ⟨(sE T ops N l E L).2.1,(sE T ops N l E L).2.2,R,F,M⟩ -> lS P b ops Q N l ⟨E,L,R,F,M⟩
 | [],_,_,h=>h
 | o :: l,E,L,h=>by
  intro a w ⟨G,S,hs⟩
  have hst:=hs.st
  dsimp only at hst
  unfold sE at h
  cases hw : qM ops N E o with
  | none=>rw [hw] at h; exact h a w ⟨G,S,hs⟩
  | some q =>
   rw [hw] at h;have hwt:=pO hs.fr hw
   cases q with
   | false =>
    dsimp only at h
    have key : ∀ K,wpList P ops Q l (a.put o.dst undef) w -> K = (o :: l) -> wpList P ops Q K a w:=λK hk e=>by
     rw [e]
     unfold wpList
     rw [hwt,if_neg (by decide)];exact hk
    cases hd : o.dst with
    | none =>
     rw [hd] at h;exact key _ (by rw [hd]; exact sD hT h a w ⟨G,S,hs⟩) rfl
    | some k =>
     rw [hd] at h
     dsimp only at h
     cases hk : aQ k N with
     | false=>rw [hk] at h; exact h a w ⟨G,S,hs⟩
     | true =>
      rw [hk] at h;exact key _ (by rw [hd]; exact sD hT h _ w ⟨G,S,hs.put (v:=.v undef) hk trivial⟩) rfl
   | true =>
    dsimp only at h
    cases hd : o.dst with
    | none =>
     rw [hd] at h
     dsimp only at h
     cases hv : SG T E L o.op with
     | none=>rw [hv] at h; exact Fl hwt (h a w ⟨G,S,hs⟩)
     | some jp =>
      obtain ⟨j,qs⟩:=jp;rw [hv] at h
      dsimp only at h
      obtain ⟨dst,op,ty,pos,af,gd⟩:=o
      dsimp only at hv hd
      subst hd
      cases op <;> first | (cases hv; done) | skip
      rename_i t x y
      simp only [SG] at hv
      split at hv
      ·rename_i i off q hx hy
       split at hv
       ·rename_i ps hps
        split at hv
        ·rename_i qs' hq
         injection hv with hv
         injection hv with e1 e2
         subst e1 e2;obtain ⟨z,hz,rfl,rfl⟩:=mG hps;obtain ⟨h3,h4⟩:=KZ hT (hst.okL z hz) (hs.ok.ev hy) hq;have e1:=hs.fr.eval (eF hx);have e2:=hs.fr.eval (eF hy);refine Fk (w':=w.setRow (G z.j) (eO qs')) hwt ?_ (sD hT h _ _ ⟨G,S,hs.fr,hs.ok,hst.set (B8 hps) h3⟩)
         unfold execOp
         simp only [e1,e2,SV.den,h4 (hst.at z hz),aJ,aI,aG]
        ·cases hv
       ·cases hv
      ·cases hv
    | some k =>
     rw [hd] at h
     dsimp only at h
     cases hk : aQ k N with
     | false=>rw [hk] at h; exact h a w ⟨G,S,hs⟩
     | true =>
      rw [hk] at h
      dsimp only at h
      cases hv : nF T E L o.op with
      | some v =>
       rw [hv] at h;obtain ⟨h1,h2⟩:=rK hT hs.ok hst.okL hv;exact pL hwt (h2 hs.fr hst.at) (by rw [hd]; exact sD hT h _ w ⟨G,S,hs.put hk h1⟩)
      | none =>
       rw [hv] at h
       dsimp only at h
       cases hn : Qz T E L k o.op with
       | none=>rw [hn] at h; exact Fl hwt (h a w ⟨G,S,hs⟩)
       | some tp =>
        obtain ⟨ty,ps⟩:=tp;rw [hn] at h
        dsimp only at h
        have key : OkP ps -> Ad k L = true -> GW k E = true -> (execOp a.eval o).run P w = .ok (.value (.pointer (some ⟨w.heap.size,0,none⟩))) (w.alloc (.cells (eO ps) ty)) -> wpList P ops Q (o :: l) a w:=λhp hf hfe hr=>by
         refine pL hwt hr ?_;rw [hd];have hfr:=hs.fr.put hk (.pointer (some ⟨w.heap.size,0,none⟩));refine sD hT h _ _ ⟨_,S,?_,hs.ok.cons trivial,hst.new hf hp⟩
         show Fr N ((k,.pointer (some ⟨if k = k then w.heap.size else G k,0,none⟩)) :: fY _ E) _
         rw [if_pos rfl,Cs hfe];exact hfr
        obtain ⟨dst,op,ty',pos,af,gd⟩:=o
        dsimp only at hn hd
        subst hd
        cases op <;> first | (cases hn; done) | skip
        ·simp only [Qz] at hn
         split at hn
         ·rename_i r hr hf hfe
          injection hn with hn
          injection hn with e1 e2
          subst e1 e2;obtain ⟨h3,h4⟩:=iB hT hr;subst h4;obtain ⟨it,d,h5,_,_,h6,_⟩:=h3.info;exact key h3.2 hf hfe (c9 rfl (by rw [h5]; exact h6) a w)
         ·cases hn
        ·simp only [Qz] at hn
         split at hn
         ·rename_i qs hx hf hfe
          injection hn with hn
          injection hn with e1 e2
          subst e1 e2;have e1:=hs.fr.eval (eF hx);refine key (hs.ok.ev hx) hf hfe ?_;rw [MX rfl,e1]
          rfl
         ·rename_i s hx hf hfe
          split at hn
          ·rename_i hfc
           injection hn with hn
           injection hn with e1 e2
           subst e1 e2;have e1:=hs.fr.eval (eF hx);have hso : s.Ok:=hs.ok.ev hx;obtain ⟨h5,h6⟩:=Kk hso hfc;refine key (λp hp=>by rw [cG.1 hp]; exact ⟨hso,h5,h6⟩) hf hfe ?_;rw [MX rfl,e1]
           show _ = Result.ok _ (w.alloc (.cells #[s.den] _))
           rw [<-h6]
           rfl
          ·cases hn
         ·cases hn
theorem a5 (hT : OkT P T) {l l' : List Oper} {E E' : SE} {L L' : List LV} (h : sE T ops N l E L = (l',E',L')) (hn : lS P b ops Q N l' ⟨E',L',R,F,M⟩) : lS P b ops Q N l ⟨E,L,R,F,M⟩:=sD hT (by rw [h]; exact hn)
end
def cS (P : Program) (b : iF) (c : Code) (Q : Exit -> Act -> World -> Prop) (N : Nat) (e : Env) : Prop:=∀ a w,St b N e a w -> c.wp P Q a w
def kS (b : iF) (K : Act -> World -> Prop) (N : Nat) (e : Env) : Prop:=∀ a w,St b N e a w -> K a w
def CX : SE -> SE -> Prop
  | [],_=>True
  | p :: r,E=>kU E p.1 = some p.2 /\ CX r E
def DN : List LV -> Nat -> Option LV
  | [],_=>none
  | x :: r,j=>match g7 x.j j with
    | true=>some x
    | false=>DN r j
def CD : List LV -> List LV -> Prop
  | [],_=>True
  | x :: r,L=>DN L x.j = some x /\ Ad x.j r = true /\ CD r L
theorem CX.ok : ∀ {E' E : SE},CX E' E -> OkE E -> OkE E'
 | [],_,_,_=>λ_ hx=>by cases hx
 | (j,u) :: r,E,hs,h=>λx hx=>by
  rcases cA.1 hx with rfl | hx
  ·exact h.get hs.1
  ·exact CX.ok hs.2 h x hx
theorem Ac : ∀ {L : List LV} {j : Nat} {x : LV},DN L j = some x -> x ∈ L /\ x.j = j
 | [],_,_,h=>by cases h
 | y :: r,j,x,h=>by
  unfold DN at h
  split at h
  ·rename_i e
   injection h with h
   subst h;exact ⟨bZ,bL e⟩
  ·exact ⟨bE _ (Ac h).1,(Ac h).2⟩
theorem CD.mem : ∀ {L' L : List LV},CD L' L -> ∀ x ∈ L',x ∈ L
 | [],_,_,_,h=>by cases h
 | y :: r,L,h,x,hx=>by
  rcases cA.1 hx with rfl | hx
  ·exact (Ac h.1).1
  ·exact CD.mem h.2.2 x hx
theorem CD.names {L' L : List LV} (h : CD L' L) : ∀ j ∈ eH L',j ∈ eH L:=λj hj=>by
 obtain ⟨x,hx,rfl⟩:=fV.1 hj;exact fV.2 ⟨x,h.mem x hx,rfl⟩
theorem CD.nodup : ∀ {L' L : List LV},CD L' L -> (eH L').Nodup
 | [],_,_=>List.nodup_nil
 | _ :: _,_,h=>AV.2 ⟨uI h.2.1,CD.nodup h.2.2⟩
theorem Qn {G : Nat -> Nat} {l m : List Nat} (h : m.Pairwise λi j=>G i ≠ G j) (hl : ∀ j ∈ l,j ∈ m) (hd : l.Nodup) : l.Pairwise λi j=>G i ≠ G j:=by
 refine Bq (λ{x y} hx hy hxy=>?_) hd;obtain ⟨p,hp,e1⟩:=mM (hl x hx);obtain ⟨q,hq,e2⟩:=mM (hl y hy);rw [<-e1,<-e2]
 rcases Nat.lt_trichotomy p q with h1 | h1 | h1
 ·exact mK.1 h p q hp hq h1
 ·subst h1; exact absurd (e1.symm.trans e2) hxy
 ·exact (mK.1 h q p hq hp h1).symm
theorem uL {G : Nat -> Nat} : ∀ {E' E : SE},CX E' E -> Sub (fY G E') (fY G E)
 | [],_,_=>trivial
 | (k,v) :: r,E,h=>⟨by rw [jJ,h.1]; rfl,uL h.2⟩
structure Jh (e e' : Env) : Prop where
  E : CX e'.E e.E
  L : CD e'.L e.L
  R : e.R.Perm e'.R
  F : ∀ w,e.F w -> e.M w -> e'.F w
  M : ∀ w,e.M w -> e'.M w
section
variable {b : iF} {N : Nat} {e e' : Env} {a : Act} {w : World}
theorem StW.less {G : Nat -> Nat} {S : Nat -> Prop} {L L' : List LV} {R : List Res} {F M : World -> Prop} (h : StW b G S L R F M w) (hL : CD L' L) : StW b G S L' R F M w:=by
 have hM : ∀ k,oV S G L' k -> oV S G L k:=λk hk=>hk.imp id λ⟨j,hj,e⟩=>⟨j,hL.names j hj,e⟩;exact ⟨λx hx=>h.var x (hL.mem x hx),Qn h.apart hL.names hL.nodup,h.res,λj hj=>h.sep j (hL.names j hj),h.fact.less λk _ hk=>hk.imp id (hM k),h.fresh.less λk _ hk=>hk.imp id (hM k),h.chg,λk hk=>h.mine k (hM k hk),h.old⟩
theorem St.Sn (h : St b N e a w) (hw : Jh e e') : St b N e' a w:=by
 obtain ⟨G,S,h1,h2,h3⟩:=h;refine ⟨G,S,h1.sub (uL hw.E),hw.E.ok h2,?_⟩;have h4:=(h3.less hw.L).imp hw.F hw.M;exact { h4 with res:=h4.res.perm hw.R }
end
section
variable {P : Program} {b : iF} {Q : Exit -> Act -> World -> Prop} {N : Nat} {e e' : Env}
theorem uB {K : Act -> World -> Prop} (hw : Jh e e') (h : kS b K N e') : kS b K N e:=λa w hs=>h a w (hs.Sn hw)
theorem xO {c : Code} (hw : Jh e e') (h : cS P b c Q N e') : cS P b c Q N e:=λa w hs=>h a w (hs.Sn hw)
theorem fO {x y : Code} (h : ∀ K : Act -> World -> Prop,(∀ e',cS P b y Q N e' -> kS b K N e') -> cS P b x (Exit.then K Q) N e) : cS P b (.seq x y) Q N e:=λa w hs =>
 wp_seq_k λK hK=>h K (λ_ h' a' w' hs'=>hK _ _ (h' a' w' hs')) a w hs
theorem FI {id : Nat} {l : List Oper} (h : lS P b l.toArray Q N l e) : cS P b (.region id l.toArray false) Q N e:=λa w hs=>wp_region_lit (h a w hs)
theorem RL {id : Nat} {l : List Oper} {y : Code} (h : ∀ K : Act -> World -> Prop,(∀ e',cS P b y Q N e' -> kS b K N e') -> lS P b l.toArray (Exit.then K Q) N l e) : cS P b (.seq (.region id l.toArray false) y) Q N e:=fO λK hK=>FI (h K hK)
theorem cN {ops : Array Oper} (h : kS b (Q .normal) N e) : lS P b ops Q N [] e:=λa w hs=>dP (h a w hs)
theorem P2 {c : Operand} {x y : Code} {E : SE} {L : List LV} {R : List Res} {F M : World -> Prop} (t : Bool) (hc : evS E c = some (.b t)) (h1 : t = true -> cS P b x Q N ⟨E,L,R,F,M⟩) (h2 : t = false -> cS P b y Q N ⟨E,L,R,F,M⟩) : cS P b (.cond c x y) Q N ⟨E,L,R,F,M⟩:=λa w hs=>by
 have hs':=hs;obtain ⟨G,S,h3⟩:=hs;exact wp_cond_split (h3.fr.eval (eF hc)) (λht=>h1 ht a w hs') (λht=>h2 ht a w hs')
theorem s9 {c : Operand} {x y : Code} {E : SE} {L : List LV} {R : List Res} {F M : World -> Prop} (p : Prop) [Decidable p] (hc : evS E c = some (.b (decide p))) (h1 : p -> cS P b x Q N ⟨E,L,R,F,M⟩) (h2 : ¬ p -> cS P b y Q N ⟨E,L,R,F,M⟩) : cS P b (.cond c x y) Q N ⟨E,L,R,F,M⟩ :=
 P2 (decide p) hc (λh=>h1 (of_decide_eq_true h)) (λh=>h2 (of_decide_eq_false h))
theorem Eb {c : Operand} {x y : Code} {E : SE} {L : List LV} {R : List Res} {F M : World -> Prop} (hc : evS E c = some (.v (.bool false))) (h1 : cS P b y Q N ⟨E,L,R,F,M⟩) : cS P b (.cond c x y) Q N ⟨E,L,R,F,M⟩:=λa w hs=>by
 have hs':=hs;obtain ⟨G,S,h3⟩:=hs;exact wp_cond_false (h3.fr.eval (eF hc)) (h1 a w hs')
theorem jZ {id : Nat} {c : Code} (h : cS P b c (dX id Q) N e) : cS P b (.block id c) Q N e:=λa w hs=>wp_block (h a w hs)
theorem iK (h : kS b (Q .normal) N e) : cS P b .skip Q N e:=λa w hs=>wp_skip (h a w hs)
theorem xA {id : Nat} (h : kS b (Q (.exit id)) N e) : cS P b (.exit id) Q N e:=λa w hs=>wp_exit (h a w hs)
theorem lU (h : kS b (Q .ret) N e) : cS P b .ret Q N e:=λa w hs=>wp_ret (h a w hs)
theorem Ca {id : Nat} (h : kS b (Q .normal) N e) : kS b (dX id Q (.exit id)) N e:=λa w hs=>by
 simp only [dX,if_true];exact h a w hs
theorem mT {id : Nat} {K : Act -> World -> Prop} (h : kS b (Q (.exit id)) N e) : kS b (Exit.then K Q (.exit id)) N e:=h
theorem wZ {σ : Type} {c : Code} (m : σ -> Nat) (F : σ -> Env) (I : σ -> Prop)
  (round : ∀ s,I s -> cS P b c (Exit.then (λa' w'=>∃ s',I s' /\ St b N (F s') a' w' /\ m s' < m s) Q) N (F s)) (s0 : σ) (h0 : I s0) : cS P b (.loop c) Q N (F s0):=λa w hs=>by
 obtain ⟨G,S,h1,h2,h3⟩:=hs;refine kB (σ:=σ × (Nat -> Nat) × (Nat -> Prop)) (m:=λx=>m x.1) (F:=λx=>fY x.2.1 (F x.1).E) (R:=λx w=>I x.1 /\ OkE (F x.1).E /\ StW b x.2.1 x.2.2 (F x.1).L (F x.1).R (F x.1).F (F x.1).M w) ?_ (s0,G,S) ⟨h0,h2,h3⟩ a h1
 rintro ⟨s,G,S⟩ w ⟨hI,hE,hW⟩ a ha
 refine wp_mono (round s hI a w ⟨G,S,ha,hE,hW⟩) λx a' w' hx=>?_
 cases x with
 | normal =>
  obtain ⟨s',hI',⟨G',S',h4,h5,h6⟩,hm⟩:=hx;exact ⟨(s',G',S'),⟨hI',h5,h6⟩,h4,hm⟩
 | exit _=>exact hx
 | goto _=>exact hx
 | ret=>exact hx
 | panic _=>exact hx
 | outgrown=>exact hx
theorem xK {σ : Type} {m : σ -> Nat} {F : σ -> Env} {I : σ -> Prop} {s : σ} (s' : σ) (hI : I s') (hm : m s' < m s) (hw : Jh e (F s')) : kS b (λa' w'=>∃ s',I s' /\ St b N (F s') a' w' /\ m s' < m s) N e:=λ_ _ hs=>⟨s',hI,hs.Sn hw,hm⟩
end
inductive RV where
  | q (x : SQ)
  | t (vs : List SQ)
def RV.sv : RV -> SV
  | .q x=>.q x
  | .t vs=>.t vs
def RV.den : RV -> Value
  | .q x=>x.den
  | .t vs=>.tuple (vs.map SQ.den).toArray
theorem RV.tP (r : RV) (G : Nat -> Nat) : r.sv.den G = r.den:=by cases r <;> rfl
abbrev RV.v (x : Value) : RV:=.q (.c (.v x))
structure xQ (α : Type) where
  ret : α -> RV
  own : α -> List Res:=λ_=>[]
  p : α -> World -> Prop:=λ_ _=>True
  n : α -> World -> Prop:=λ_ _=>True
def Spec (f : FuncId) (args : List Value) (own : List Res) (F : World -> Prop) {α : Type} (post : xQ α) : Prop :=
  ∀ (w : World) (S X : Nat -> Prop),gE own w S -> (∀ k,X k -> k < w.heap.size /\ ¬ S k) -> Stb (λk=>X k \/ S k) F w ->
    Calls Tryd.prog f args.toArray w λe w'=>∃ x S',e = .returned (post.ret x).den /\ (post.ret x).sv.Ok /\ Chg S w w' /\ gE (post.own x) w' S' /\ (∀ k,S' k -> k < w.heap.size -> S k) /\
      Stb (λk=>X k \/ S' k) (post.p x) w' /\ Stb (λk=>k < w.heap.size \/ S' k) (post.n x) w'
abbrev one (r : RV) : xQ Unit:={ ret:=λ_=>r }
theorem Spec.pure {f : FuncId} {args : List Value} {F : World -> Prop} {r : RV} (hr : r.sv.Ok) (h : ∀ w,F w -> Calls Tryd.prog f args.toArray w λe w'=>e = .returned r.den /\ Below w.heap.size w w') : Spec f args [] F (one r):=λw _ _ _ _ hF =>
 (h w hF.now).mono λ_ _ ⟨h1,h2⟩=>⟨(),λ_=>False,h1,hr,Chg.tA h2,λ_ h=>h,λ_ h=>h.elim,λ_ _=>trivial,λ_ _=>trivial⟩
def Pj : Nat -> List SQ -> SE
  | _,[]=>[]
  | j,v :: vs=>(j,.q v) :: Pj (j + 1) vs
theorem Hk (G : Nat -> Nat) : ∀ (vs : List SQ) (j : Nat),fY G (Pj j vs) = Pk j (vs.map SQ.den)
 | [],_=>rfl
 | v :: vs,j=>by rw [Pj,fY,Hk G vs (j + 1)]; rfl
theorem KF : ∀ {vs : List SQ} {j : Nat},(∀ v ∈ vs,v.Ok) -> OkE (Pj j vs)
 | [],_,_=>λ_ h=>by cases h
 | v :: vs,j,h=>OkE.cons (KF λu hu=>h u (by simp [hu])) (h v (by simp))
def Q9 {α : Type} (b : iF) (post : xQ α) (e : Ending) (w' : World) : Prop:=∃ x S',e = .returned (post.ret x).den /\ (post.ret x).sv.Ok /\ Chg b.D b.B w' /\ gE (post.own x) w' S' /\ (∀ k,S' k -> k < b.B.heap.size -> b.D k) /\
  Stb (λk=>b.X k \/ S' k) (post.p x) w' /\ Stb (λk=>k < b.B.heap.size \/ S' k) (post.n x) w'
theorem mN {f : FuncId} {fn : Func} {c : Code} {own : List Res} {F : World -> Prop} {α : Type} {post : xQ α} (vs : List SQ) (N : Nat) (hf : Tryd.prog.funcs[f]? = some fn) (hb : fn.body = some c) (hn : vs.length + (fn.ntmps - vs.length) = N) (hv : ∀ v ∈ vs,v.Ok)
  (h : ∀ b : iF,cS Tryd.prog b c (bodyPost Tryd.prog fn (Q9 b post)) N ⟨Pj 0 vs,[],own,F,λ_=>True⟩) : Spec f (vs.map SQ.den) own F post:=λw S X hS hX hF=>by
 refine e9 N hf hb (by simpa using hn) λa ha=>?_;refine h ⟨X,w,S⟩ a w ⟨λ_=>0,S,by rw [Hk]; exact ha,KF hv,λx hx=>(by cases hx),List.Pairwise.nil,hS,λx hx=>(by cases hx),?_,λ_ _=>trivial,Chg.refl _ _,λk hk _=>?_,hX⟩
 ·exact hF.less λk _ hk=>hk.imp id λhk=>hk.elim id λ⟨j,hj,_⟩=>by cases hj
 ·exact hk.elim id λ⟨j,hj,_⟩=>by cases hj
def El (T : List TyR) (E : SE) (L : List LV) : List ResultVar -> Option (List SQ)
  | []=>some []
  | .tmp t :: r=>match kU E t,El T E L r with
    | some (.q q),some qs=>some (q :: qs)
    | _,_=>none
  | .cell t ty :: r=>match kU E t,El T E L r with
    | some (.a j off),some qs=>match wF L j with
      | some ps=>match AH T ps ty off with
        | some q=>some (q :: qs)
        | none=>none
      | none=>none
    | _,_=>none
def Ax : List SQ -> RV
  | [q]=>.q q
  | qs=>.t qs
def Kr (tmps : Array Value) : ResultVar -> Sem Value
  | .tmp t=>pure (tmps.getD t undef)
  | .cell p t=>do loadVar t (<-asAddr (tmps.getD p undef))
theorem rY {P : Program} {T : List TyR} (hT : OkT P T) {E : SE} {L : List LV} (hE : OkE E) (hL : OkL L) {N : Nat} {G : Nat -> Nat} {a : Act} {w : World} (ha : Fr N (fY G E) a) (hl : LAt G L w) {r : ResultVar} {rs : List ResultVar} {qs : List SQ} (h : El T E L (r :: rs) = some qs) :
  ∃ q qs',qs = q :: qs' /\ q.Ok /\ (Kr a.tmps r).run P w = .ok q.den w /\ El T E L rs = some qs':=by
 cases r with
 | tmp t =>
  simp only [El] at h
  split at h
  ·rename_i q qs' h1 h2
   injection h with h
   subst h;have e : a.tmps.getD t undef = q.den:=ha.get t _ (by rw [jJ,h1]; rfl);exact ⟨q,qs',rfl,hE.get h1,by simp only [Kr,aI,e],h2⟩
  ·cases h
 | cell t ty =>
  simp only [El] at h
  split at h
  ·rename_i j off qs' h1 h2
   split at h
   ·rename_i ps hps
    split at h
    ·rename_i q hq
     injection h with h
     subst h;obtain ⟨y,hy,rfl,rfl⟩:=mG hps;obtain ⟨h5,h6⟩:=Gz hT (hL y hy) hq;have e : a.tmps.getD t undef = .pointer (some ⟨G y.j,off,none⟩):=ha.get t _ (by rw [jJ,h1]; rfl);have h7:=h6 (hl y hy);simp only [oF,nJ,aJ,aI,aG] at h7;exact ⟨q,qs',rfl,h5,by simp only [Kr,aJ,aI,aG,e,asAddr,h7],h2⟩
    ·cases h
   ·cases h
  ·cases h
theorem Ij (fn : Func) (tmps : Array Value) : results fn tmps = (do
  let vs <-fn.results.mapM (Kr tmps)
  pure (if h : vs.size = 1 then vs[0] else .tuple vs)):=by
 unfold results
 congr 2
theorem Av {P : Program} {T : List TyR} (hT : OkT P T) {E : SE} {L : List LV} (hE : OkE E) (hL : OkL L) {N : Nat} {G : Nat -> Nat} {fn : Func} {a : Act} {w : World} (ha : Fr N (fY G E) a) (hl : LAt G L w) {rs : List ResultVar} {qs : List SQ} (hr : fn.results = rs.toArray) (hs : rs.length <= 3) (h : El T E L rs = some qs) :
  (Ax qs).sv.Ok /\ (results fn a.tmps).run P w = .ok (Ax qs).den w:=by
 rw [Ij,hr]
 rcases rs with _ | ⟨r1,_ | ⟨r2,_ | ⟨r3,_ | ⟨r4,rs⟩⟩⟩⟩
 ·cases h
  exact ⟨λ_ h=>(by cases h),by simp [Ax,RV.den]⟩
 ·obtain ⟨q1,qs,rfl,o1,e1,h⟩:=rY hT hE hL ha hl h
  cases h
  exact ⟨o1,by simp [Ax,RV.den,e1]⟩
 ·obtain ⟨q1,qs,rfl,o1,e1,h⟩:=rY hT hE hL ha hl h
  obtain ⟨q2,qs,rfl,o2,e2,h⟩:=rY hT hE hL ha hl h
  cases h
  refine ⟨λx hx=>?_,by simp [Ax,RV.den,e1,e2]⟩;simp only [cA,List.not_mem_nil,or_false] at hx
  rcases hx with rfl | rfl <;> assumption
 ·obtain ⟨q1,qs,rfl,o1,e1,h⟩:=rY hT hE hL ha hl h
  obtain ⟨q2,qs,rfl,o2,e2,h⟩:=rY hT hE hL ha hl h;obtain ⟨q3,qs,rfl,o3,e3,h⟩:=rY hT hE hL ha hl h
  cases h
  refine ⟨λx hx=>?_,by simp [Ax,RV.den,e1,e2,e3]⟩;simp only [cA,List.not_mem_nil,or_false] at hx
  rcases hx with rfl | rfl | rfl <;> assumption
 ·simp at hs
theorem mS {T : List TyR} (hT : OkT Tryd.prog T) {b : iF} {fn : Func} {N : Nat} {E : SE} {L : List LV} {R : List Res} {F M : World -> Prop} {α : Type} {post : xQ α} {rs : List ResultVar} {qs : List SQ} (x : α) (hr : fn.results = rs.toArray) (hs : rs.length <= 3) (h : El T E L rs = some qs)
  (hx : post.ret x = Ax qs) (hR : post.own x = R) (hp : ∀ w,F w -> M w -> post.p x w) (hn : ∀ w,M w -> post.n x w) : kS b (bodyPost Tryd.prog fn (Q9 b post) .ret) N ⟨E,L,R,F,M⟩:=λa w ⟨G,S,h1,h2,h3⟩=>by
 obtain ⟨h4,h5⟩:=Av hT h2 h3.okL h1 h3.at hr hs h;refine bodyPost_ret h5 h1.defers ⟨x,S,by rw [hx],by rw [hx]; exact h4,h3.chg,by rw [hR]; exact h3.res,λk hk hlt=>h3.mine k (.inl hk) hlt,(h3.all.imp λw hw=>hp w hw.1 hw.2).less λk _ hk=>hk.imp id .inl,(h3.fresh.imp hn).less λk _ hk=>hk.imp id .inl⟩
theorem Oc {T : List TyR} (hT : OkT Tryd.prog T) {b : iF} {fn : Func} {N : Nat} {E : SE} {L : List LV} {R : List Res} {F M : World -> Prop} {α : Type} {post : xQ α} {rs : List ResultVar} {qs : List SQ} (x : α) (hr : fn.results = rs.toArray) (hs : rs.length <= 3) (h : El T E L rs = some qs)
  (hx : (post.ret x).den = (Ax qs).den) (ho : (post.ret x).sv.Ok) (hR : post.own x = R) (hp : ∀ w,F w -> M w -> post.p x w) (hn : ∀ w,M w -> post.n x w) : kS b (bodyPost Tryd.prog fn (Q9 b post) .ret) N ⟨E,L,R,F,M⟩:=λa w ⟨G,S,h1,h2,h3⟩=>by
 obtain ⟨h4,h5⟩:=Av hT h2 h3.okL h1 h3.at hr hs h;refine bodyPost_ret h5 h1.defers ⟨x,S,by rw [hx],ho,h3.chg,by rw [hR]; exact h3.res,λk hk hlt=>h3.mine k (.inl hk) hlt,(h3.all.imp λw hw=>hp w hw.1 hw.2).less λk _ hk=>hk.imp id .inl,(h3.fresh.imp hn).less λk _ hk=>hk.imp id .inl⟩
structure View (G : Nat -> Nat) (S : Nat -> Prop) (L : List LV) (R : List Res) (F M : World -> Prop) (w : World) : Prop where
  var : ∀ x ∈ L,Blk w (G x.j) x.t (eO x.ps) /\ OkP x.ps /\ ∀ g,x.g = some g -> G x.j = g
  res : gE R w S
  fact : F w
  fresh : M w
section
variable {b : iF} {G : Nat -> Nat} {S : Nat -> Prop} {L : List LV} {R R' own : List Res} {F M F' : World -> Prop} {w w' : World} {α : Type} {post : xQ α} {f : FuncId} {args : List Value}
theorem StW.view (h : StW b G S L R F M w) : View G S L R F M w:=⟨h.var,h.res,h.fact.now,h.all.now.2⟩
theorem StW.split (h : StW b G S L (own ++ R') F M w) : ∃ S1 S2,gE own w S1 /\ gE R' w S2 /\ (∀ k,S k ↔ S1 k \/ S2 k) /\ ∀ k,S1 k -> ¬ S2 k:=gE.app.1 h.res
theorem StW.TX (h : StW b G S L R F M w) {S1 S2 S' : Nat -> Prop} (hS : ∀ k,S k ↔ S1 k \/ S2 k) (hc : Chg S1 w w') (hr : gE R' w' λk=>S' k \/ S2 k) (hS' : ∀ k,S' k -> k < w.heap.size -> S1 k) : StW b G (λk=>S' k \/ S2 k) L R' F M w':=by
 have hSm : ∀ k,S1 k -> oV S G L k:=λk hk=>.inl ((hS k).2 (.inl hk));have hM : ∀ k,k < w.heap.size -> oV (λk=>S' k \/ S2 k) G L k -> oV S G L k:=λk hlt hk=>hk.imp (λhk=>(hS k).2 (hk.imp (λh=>hS' k h hlt) id)) id;refine ⟨λx hx=>⟨(hc.block _ (h.var x hx).1.lt λhs=>h.sep x.j (fV.2 ⟨x,hx,rfl⟩) ((hS _).2 (.inl hs))).trans (h.var x hx).1,(h.var x hx).2⟩,h.apart,hr,λj hj hs=>?_,?_,?_,h.chg.step hc λi hi hs=>h.mine i (hSm i hs) hi,λk hk hlt=>h.mine k (hM k (bB hlt h.chg.size) hk) hlt,h.old⟩
 ·have hlt:=h.lt (G j) (.inr ⟨j,hj,rfl⟩)
  exact h.sep j hj ((hS _).2 (hs.imp (λh=>hS' _ h hlt) id))
 ·exact h.fact.F8 (D':=Dof b.X (λk=>S' k \/ S2 k) G L) (hc.mono (D':=Dof b.X S G L) λi _ hs=>.inr (hSm i hs)) λi hi hd=>hd.imp id (hM i hi)
 ·exact h.fresh.F8 (D':=Nof b (λk=>S' k \/ S2 k) G L) (hc.mono (D':=Nof b S G L) λi _ hs=>.inr (hSm i hs)) λi hi hd=>hd.imp id (hM i hi)
theorem StW.UP (h : StW b G S L (own ++ R') F M w) {S1 S2 S' : Nat -> Prop} {own' : List Res} (h2 : gE R' w S2) (hS : ∀ k,S k ↔ S1 k \/ S2 k) (hd : ∀ k,S1 k -> ¬ S2 k) (hc : Chg S1 w w') (h1' : gE own' w' S') (hS' : ∀ k,S' k -> k < w.heap.size -> S1 k) :
  StW b G (λk=>S' k \/ S2 k) L (own' ++ R') F M w':=h.TX hS hc (gE.app.2 ⟨S',S2,h1',h2.kH λk hk=>hc.block k (h2.lt k hk) λhs=>hd k hs hk,λ_=>Iff.rfl,λk hk hk2=>hd k (hS' k hk (h2.lt k hk2)) hk2⟩) hS'
theorem StW.put (h : StW b G S L R F M w) {i : Nat} {r : Res} (hi : R[i]? = some r) : ∃ S1,r.holds w S1 /\ ∀ (r' : Res) (w' : World) (S' : Nat -> Prop),Chg S1 w w' -> r'.holds w' S' -> (∀ k,S' k -> k < w.heap.size -> S1 k) -> ∃ S'',StW b G S'' L (R.set i r') F M w':=by
 obtain ⟨S1,S2,h1,h2,h3,h4,h5⟩:=h.res.at hi;refine ⟨S1,h1,λr' w' S' hc hr hS'=>⟨_,h.TX h2 hc (h5 r' w' S' hr (λk hk=>hc.block k (h4.lt k hk) λhs=>h3 k hs hk) λk hk hk2=>h3 k (hS' k hk (h4.lt k hk2)) hk2) hS'⟩⟩
theorem StW.Tu (h : StW b G S L R F M w) (k : Below w.heap.size w w') {r : Res} {S' : Nat -> Prop} (hr : r.holds w' S') (hn : ∀ k,S' k -> w.heap.size <= k) : ∃ S'',StW b G S'' L (r :: R) F M w':=by
 refine ⟨_,h.TX (S1:=λ_=>False) (S2:=S) (S':=S') (λk=>⟨.inr,λh=>h.elim False.elim id⟩) (Chg.tA k) ⟨S',S,hr,h.res.kH λi hi=>k.block i (h.res.lt i hi),λ_=>Iff.rfl,λi hi hs=>?_⟩ λi hi hlt=>?_⟩
 ·exact lY _ (bB (h.res.lt i hs) (hn i hi))
 ·exact lY _ (bB hlt (hn i hi))
theorem StW.let (h : StW b G S L R F M w) {i : Nat} {r : Res} (hi : R[i]? = some r) : ∃ S1 S2,r.holds w S1 /\ (∀ k,S1 k -> ¬ S2 k) /\ (∀ k,S k ↔ S1 k \/ S2 k) /\ StW b G S2 L (R.eraseIdx i) F M w:=by
 obtain ⟨S1,S2,h1,h2,h3,h4,_⟩:=h.res.at hi;have hM : ∀ k,oV S2 G L k -> oV S G L k:=λk hk=>hk.imp (λh=>(h2 k).2 (.inr h)) id;exact ⟨S1,S2,h1,h3,h2,{ h with res:=h4,sep:=λj hj hs=>h.sep j hj ((h2 _).2 (.inr hs)),fact:=h.fact.less λk _ hk=>hk.imp id (hM k),fresh:=h.fresh.less λk _ hk=>hk.imp id (hM k),mine:=λk hk=>h.mine k (hM k hk) }⟩
theorem StW.Vq (h : StW b G S L (own ++ R') F M w) (hs : Spec f args own F' post) (hF : ∀ w,F w -> M w -> F' w) :
  Calls Tryd.prog f args.toArray w λe w'=>∃ x S',e = .returned (post.ret x).den /\ (post.ret x).sv.Ok /\ StW b G S' L (post.own x ++ R') (λw=>post.p x w /\ F w) (λw=>post.n x w /\ M w) w':=by
 obtain ⟨S1,S2,h1,h2,hS,hd⟩:=h.split
 have hX : ∀ k,b.X k \/ (S2 k \/ ∃ j ∈ eH L,G j = k) -> k < w.heap.size /\ ¬ S1 k:=λk hk=>by
  rcases hk with hk | hk | ⟨j,hj,rfl⟩
  ·exact ⟨bB (h.old k hk).1 h.chg.size,λhs=>(h.old k hk).2 (h.mine k (.inl ((hS k).2 (.inl hs))) (h.old k hk).1)⟩
  ·exact ⟨h2.lt k hk,λhs=>hd k hs hk⟩
  ·exact ⟨h.lt _ (.inr ⟨j,hj,rfl⟩),λhs=>h.sep j hj ((hS _).2 (.inl hs))⟩
 refine (hs w S1 (λk=>b.X k \/ (S2 k \/ ∃ j ∈ eH L,G j = k)) h1 hX ((h.all.imp λw hw=>hF w hw.1 hw.2).less λk _ hk=>?_)).mono ?_
 ·rcases hk with (hk | hk | hk) | hk
  ·exact .inl hk
  ·exact .inr (.inl ((hS k).2 (.inr hk)))
  ·exact .inr (.inr hk)
  ·exact .inr (.inl ((hS k).2 (.inl hk)))
 ·rintro e w' ⟨x,S',he,hok,hc,h1',hS',hp,hn⟩
  have h3:=h.UP h2 hS hd hc h1' hS';refine ⟨x,_,he,hok,(h3.and (p:=post.p x) (hp.less λk _ hk=>?_)).andM (p:=post.n x) (hn.less λk _ hk=>?_)⟩
  ·rcases hk with hk | (hk | hk) | hk
   ·exact .inl (.inl hk)
   ·exact .inr hk
   ·exact .inl (.inr (.inl hk))
   ·exact .inl (.inr (.inr hk))
  ·rcases hk with hk | (hk | hk) | ⟨j,hj,rfl⟩
   ·exact .inl (bB hk h.chg.size)
   ·exact .inr hk
   ·exact .inl (h2.lt k hk)
   ·exact .inl (h.lt _ (.inr ⟨j,hj,rfl⟩))
theorem StW.Vp (h : StW b G S L (own ++ R') F M w) (hs : Spec f args own F' post) (hF : ∀ S w,View G S L R' F M w -> F' w) :
  Calls Tryd.prog f args.toArray w λe w'=>∃ x S',e = .returned (post.ret x).den /\ (post.ret x).sv.Ok /\ StW b G S' L (post.own x ++ R') F (λw=>post.n x w /\ M w) w':=by
 obtain ⟨S1,S2,h1,h2,hS,hd⟩:=h.split;have hX : ∀ k,b.X k -> k < w.heap.size /\ ¬ S1 k:=λk hk=>⟨bB (h.old k hk).1 h.chg.size,λhs=>(h.old k hk).2 (h.mine k (.inl ((hS k).2 (.inl hs))) (h.old k hk).1)⟩;have hXm : ∀ k,b.X k -> ¬ oV S G L k:=λk hk hm=>(h.old k hk).2 (h.mine k hm (h.old k hk).1);refine (hs w S1 b.X h1 hX λw1 hw1=>hF S2 w1 ⟨λx hx=>⟨?_,(h.var x hx).2⟩,h2.kH λk hk=>hw1.block k (h2.lt k hk) ?_,?_,?_⟩).mono ?_
 ·have hm : oV S G L (G x.j):=.inr ⟨x.j,fV.2 ⟨x,hx,rfl⟩,rfl⟩
  refine (hw1.block _ (h.var x hx).1.lt λhk=>?_).trans (h.var x hx).1
  rcases hk with hk | hk
  ·exact hXm _ hk hm
  ·exact h.sep x.j (fV.2 ⟨x,hx,rfl⟩) ((hS _).2 (.inl hk))
 ·rintro (hk1 | hk1)
  ·exact hXm k hk1 (.inl ((hS k).2 (.inr hk)))
  ·exact hd k hk1 hk
 ·exact (h.all w1 (hw1.mono λk _ hk=>hk.imp id λhk=>.inl ((hS k).2 (.inl hk)))).1
 ·exact (h.all w1 (hw1.mono λk _ hk=>hk.imp id λhk=>.inl ((hS k).2 (.inl hk)))).2
 ·rintro e w' ⟨x,S',he,hok,hc,h1',hS',hp,hn⟩
  have h3:=h.UP h2 hS hd hc h1' hS';refine ⟨x,_,he,hok,h3.andM (p:=post.n x) (hn.less λk _ hk=>?_)⟩
  rcases hk with hk | (hk | hk) | ⟨j,hj,rfl⟩
  ·exact .inl (bB hk h.chg.size)
  ·exact .inr hk
  ·exact .inl (h2.lt k hk)
  ·exact .inl (h.lt _ (.inr ⟨j,hj,rfl⟩))
end
section
variable {b : iF} {ops : Array Oper} {Q : Exit -> Act -> World -> Prop} {N : Nat} {E : SE} {L : List LV} {R R' own : List Res} {F M F' : World -> Prop} {o : Oper} {rest : List Oper} {k : Nat} {α : Type} {post : xQ α} {f : FuncId} {xs : Array Operand} {ats : Array TypeId} {svs : List SV}
theorem y6 {G : Nat -> Nat} {a : Act} {w : World} (hf : Own f) (ho : o.op = .call { callee:=.value (.func f),args:=xs,argTypes:=ats }) (hx : A6 E xs.toList = some svs) (ha : Fr N (fY G E) a) :
  (execOp a.eval o).run Tryd.prog w = .ok (.enter f (svs.map (SV.den G)).toArray) w:=by
 rw [jT hf ho,oI (ha.G0 _ _ (by rw [Bm hx]))]
theorem QM (args : List Value) (hg : o.guard = none) (hd : o.dst = some k) (hk : aQ k N = true) (hf : Own f) (ho : o.op = .call { callee:=.value (.func f),args:=xs,argTypes:=ats }) (hx : A6 E xs.toList = some svs)
  (ha : ∀ G : Nat -> Nat,(∀ x ∈ L,∀ g,x.g = some g -> G x.j = g) -> svs.map (SV.den G) = args) (hs : Spec f args own F' post) (hF : ∀ w,F w -> M w -> F' w)
  (hn : ∀ x,lS Tryd.prog b ops Q N rest ⟨(k,(post.ret x).sv) :: E,L,post.own x ++ R',λw=>post.p x w /\ F w,λw=>post.n x w /\ M w⟩) : lS Tryd.prog b ops Q N (o :: rest) ⟨E,L,own ++ R',F,M⟩:=λa w ⟨G,S,h1,h2,h3⟩=>by
 have hr:=y6 (w:=w) hf ho hx h1;rw [ha G λx hx=>(h3.var x hx).2.2] at hr
 unfold wpList
 rw [if_pos (by simp [aL,hg])];refine .inl ?_
 unfold lR
 rw [hr];simp only [jR,hd];refine (h3.Vq hs hF).mono ?_
 rintro e w' ⟨x,S',rfl,hok,h4⟩
 have h5:=h1.put hk (post.ret x).den;rw [<-RV.tP _ G] at h5;have h6:=hn x _ w' ⟨G,S',h5,h2.cons hok,h4⟩;rw [RV.tP] at h6;exact h6
theorem QL (args : (Nat -> Nat) -> List Value) (hg : o.guard = none) (hd : o.dst = some k) (hk : aQ k N = true) (hf : Own f) (ho : o.op = .call { callee:=.value (.func f),args:=xs,argTypes:=ats }) (hx : A6 E xs.toList = some svs)
  (ha : ∀ G : Nat -> Nat,(∀ x ∈ L,∀ g,x.g = some g -> G x.j = g) -> svs.map (SV.den G) = args G) (F' : (Nat -> Nat) -> World -> Prop) (hs : ∀ G,Spec f (args G) own (F' G) post) (hF : ∀ G S w,View G S L R' F M w -> F' G w)
  (hn : ∀ x,lS Tryd.prog b ops Q N rest ⟨(k,(post.ret x).sv) :: E,L,post.own x ++ R',F,λw=>post.n x w /\ M w⟩) : lS Tryd.prog b ops Q N (o :: rest) ⟨E,L,own ++ R',F,M⟩:=λa w ⟨G,S,h1,h2,h3⟩=>by
 have hr:=y6 (w:=w) hf ho hx h1;rw [ha G λx hx=>(h3.var x hx).2.2] at hr
 unfold wpList
 rw [if_pos (by simp [aL,hg])];refine .inl ?_
 unfold lR
 rw [hr];simp only [jR,hd];refine (h3.Vp (hs G) (hF G)).mono ?_
 rintro e w' ⟨x,S',rfl,hok,h4⟩
 have h5:=h1.put hk (post.ret x).den;rw [<-RV.tP _ G] at h5;have h6:=hn x _ w' ⟨G,S',h5,h2.cons hok,h4⟩;rw [RV.tP] at h6;exact h6
theorem VA {r : RV} (args : List Value) (hg : o.guard = none) (hd : o.dst = some k) (hk : aQ k N = true) (hf : Own f) (ho : o.op = .call { callee:=.value (.func f),args:=xs,argTypes:=ats }) (hx : A6 E xs.toList = some svs)
  (ha : ∀ G : Nat -> Nat,(∀ x ∈ L,∀ g,x.g = some g -> G x.j = g) -> svs.map (SV.den G) = args) (hr : r.sv.Ok) (hs : ∀ G S w,View G S L R F M w -> Calls Tryd.prog f args.toArray w λe w'=>e = .returned r.den /\ Below w.heap.size w w')
  (hn : lS Tryd.prog b ops Q N rest ⟨(k,r.sv) :: E,L,R,F,M⟩) : lS Tryd.prog b ops Q N (o :: rest) ⟨E,L,R,F,M⟩:=λa w ⟨G,S,h1,h2,h3⟩=>by
 have hr':=y6 (w:=w) hf ho hx h1;rw [ha G λx hx=>(h3.var x hx).2.2] at hr'
 unfold wpList
 rw [if_pos (by simp [aL,hg])];refine .inl ?_
 unfold lR
 rw [hr'];simp only [jR,hd];refine (hs G S w h3.view).mono ?_
 rintro e w' ⟨rfl,hb⟩
 have h5:=h1.put hk r.den;rw [<-RV.tP _ G] at h5;have h6:=hn _ w' ⟨G,S,h5,h2.cons hr,h3.later hb⟩;rw [RV.tP] at h6;exact h6
theorem l_f {P : Program} (v : SV) (hv : v.Ok) (h : ∀ (G : Nat -> Nat) (S : Nat -> Prop) (w : World) (C0 : World -> Prop) (Q' : Act -> Prop),View G S L R F M w -> (∀ w',C0 w' -> w' = w) -> bF P ops C0 Q' [] N ((k,v.den G) :: fY G E) -> bF P ops C0 Q' [o] N (fY G E)) (hs : oR o.op = true)
  (hn : lS P b ops Q N rest ⟨(k,v) :: E,L,R,F,M⟩) : lS P b ops Q N (o :: rest) ⟨E,L,R,F,M⟩:=λa w ⟨G,S,h1,h2,h3⟩=>by
 refine o7 [o] a w (by simp [hs]) (h G S w (· = w) _ h3.view (λ_ h=>h) (λa' ha'=>cL ?_) a h1);exact hn a' w ⟨G,S,ha',h2.cons hv,h3⟩
theorem QK {P : Program} {l : List Oper} (k : Nat) {v : SV} (v' : SV) (h : kU E k = some v) (he : v = v') (hn : lS P b ops Q N l ⟨(k,v') :: E,L,R,F,M⟩) : lS P b ops Q N l ⟨E,L,R,F,M⟩:=λa w ⟨G,S,h1,h2,h3⟩=>by
 subst he;exact hn a w ⟨G,S,h1.more (h1.get k _ (by rw [jJ,h]; rfl)),h2.cons (h2.get h),h3⟩
theorem qK {P : Program} {l : List Oper} (k : Nat) {t : Bool} (q : Bool) (h : kU E k = some (.b t)) (he : t = q) (hn : lS P b ops Q N l ⟨(k,.v (.bool q)) :: E,L,R,F,M⟩) : lS P b ops Q N l ⟨E,L,R,F,M⟩:=λa w ⟨G,S,h1,h2,h3⟩=>by
 subst he;exact hn a w ⟨G,S,h1.more (h1.get k _ (by rw [jJ,h]; rfl)),h2.cons trivial,h3⟩
theorem oZ {P : Program} {l : List Oper} (k : Nat) {K : IntKind} {m : Int} (n : Int) (h : kU E k = some (.v (.int K m))) (he : m = n) (hn : lS P b ops Q N l ⟨(k,.v (.int K n)) :: E,L,R,F,M⟩) : lS P b ops Q N l ⟨E,L,R,F,M⟩:=QK k _ h (by rw [he]) hn
end
def gS (P : Program) (_b : iF) (ops : Array Oper) (Q : Exit -> Act -> World -> Prop) (N : Nat) (T : List Oper) (G : Nat -> Nat) (w0 : World) (l : List (Nat × Oper)) (E : SE) : Prop:=OkE E -> gF P Bel ops (Up w0) (A7 P ops Q (Up w0) T) l N (fY G E) []
section
variable {P : Program} {b : iF} {Q : Exit -> Act -> World -> Prop} {N : Nat} {E : SE} {L : List LV} {R : List Res} {F M : World -> Prop} {id : Nat} {l : List Oper}
theorem JH (n : Nat) (hn : n <= l.length) (hm : P.follows .mixedOrders = true) (hB : At l.toArray n (l.drop n).length = true)
  (h : ∀ G S w0,StW b G S L R F M w0 -> gS P b l.toArray Q N (l.drop n) G w0 (idx 0 (l.take n)) E) : cS P b (.region id l.toArray true) Q N ⟨E,L,R,F,M⟩:=λa w ⟨G,S,h1,h2,h3⟩ =>
 c_g n hn hm hB (h G S w h3 h2) a h1
theorem MT {y : Code} (n : Nat) (hn : n <= l.length) (hm : P.follows .mixedOrders = true) (hB : At l.toArray n (l.drop n).length = true)
  (h : ∀ K : Act -> World -> Prop,(∀ e',cS P b y Q N e' -> kS b K N e') -> ∀ G S w0,StW b G S L R F M w0 -> gS P b l.toArray (Exit.then K Q) N (l.drop n) G w0 (idx 0 (l.take n)) E) : cS P b (.seq (.region id l.toArray true) y) Q N ⟨E,L,R,F,M⟩:=fO λK hK=>JH n hn hm hB (h K hK)
end
def DU (T : List TyR) (ops : Array Oper) (N : Nat) (L : List LV) : List (Nat × Oper) -> SE -> List (Nat × Oper) × SE
  | [],E=>([],E)
  | (i,o) :: l,E=>match qM ops N E o with
    | none=>((i,o) :: l,E)
    | some false=>match o.dst with
      | some k=>match aQ k N with
        | true=>DU T ops N L l ((k,.v undef) :: E)
        | false=>((i,o) :: l,E)
      | none=>((i,o) :: l,E)
    | some true=>match o.dst with
      | some k=>match aQ k N with
        | true=>match nF T E L o.op with
          | some v=>DU T ops N L l ((k,v) :: E)
          | none=>((i,wL o) :: l,E)
        | false=>((i,o) :: l,E)
      | none=>((i,wL o) :: l,E)
section
variable {P : Program} {b : iF} {T : List TyR} {ops : Array Oper} {Q : Exit -> Act -> World -> Prop} {N : Nat} {T' : List Oper} {G : Nat -> Nat} {S : Nat -> Prop} {L : List LV} {R : List Res} {F M : World -> Prop} {w0 : World}
theorem Cy (hT : OkT P T) (hst : StW b G S L R F M w0) : ∀ {l : List (Nat × Oper)} {E : SE},gS P b ops Q N T' G w0 (DU T ops N L l E).1 (DU T ops N L l E).2 -> gS P b ops Q N T' G w0 l E
 | [],_,h=>h
 | (i,o) :: l,E,h=>by
  unfold DU at h
  cases hw : qM ops N E o with
  | none=>rw [hw] at h; exact h
  | some q =>
   rw [hw] at h
   intro hE a Fa ha hF
   have hwt:=pO ha hw
   cases q with
   | false =>
    dsimp only at h
    cases hd : o.dst with
    | none=>rw [hd] at h; exact h hE a Fa ha hF
    | some k =>
     rw [hd] at h
     dsimp only at h
     cases hk : aQ k N with
     | false=>rw [hk] at h; exact h hE a Fa ha hF
     | true =>
      rw [hk] at h
      unfold wpG
      rw [hwt,if_neg (by decide)]
      dsimp only
      rw [hd];exact Cy hT hst h (hE.cons (v:=.v undef) trivial) _ _ (ha.put hk undef) (hF.up rfl)
   | true =>
    dsimp only at h
    have hgd : gS P b ops Q N T' G w0 ((i,wL o) :: l) E -> wpG P Bel ops (Up w0) (A7 P ops Q (Up w0) T') ((i,o) :: l) Fa a:=λh1=>by
     have h1:=h1 hE a Fa ha hF;obtain ⟨dst,op,ty,pos,af,gd⟩:=o
     unfold wpG at h1 ⊢
     rw [if_pos hwt];rw [if_pos (by rfl)] at h1;exact h1
    cases hd : o.dst with
    | none=>rw [hd] at h; exact hgd h
    | some k =>
     rw [hd] at h
     dsimp only at h
     cases hk : aQ k N with
     | false=>rw [hk] at h; exact h hE a Fa ha hF
     | true =>
      rw [hk] at h
      dsimp only at h
      cases hv : nF T E L o.op with
      | none=>rw [hv] at h; exact hgd h
      | some v =>
       rw [hv] at h;obtain ⟨h1,h2⟩:=rK hT hE hst.okL hv;refine cU rfl (λa ha=>k5 (pO ha hw) (λw hw=>h2 ha (hst.later hw.1).at) ?_) a Fa ha hF;rw [hd];exact cV (o:=o) (Cy hT hst h (hE.cons h1)) _ (ha.put hk _)
theorem Kh (hT : OkT P T) (hst : StW b G S L R F M w0) {l l' : List (Nat × Oper)} {E E' : SE} (h : DU T ops N L l E = (l',E')) (hn : gS P b ops Q N T' G w0 l' E') : gS P b ops Q N T' G w0 l E:=Cy hT hst (by rw [h]; exact hn)
theorem Tv (hst : StW b G S L R F M w0) {E : SE} (h : lS P b ops Q N T' ⟨E,L,R,F,M⟩) : gS P b ops Q N T' G w0 [] E:=λhE=>jC λw hw _ a ha=>h a w ⟨G,S,ha,hE,hst.later hw⟩
variable {E : SE} {o : Oper} {rest : List (Nat × Oper)} {i k : Nat}
end
def SQ.cl (q : SQ) : List Value:=q.den.cells.toList
def SQ.j6 : SQ -> List Pt
  | .c s=>[.one s]
  | .p ps=>ps
def OkF {α : Type} (k : Nat) (fe : α -> SQ) (l : List α) : Prop:=∀ x ∈ l,OkP (fe x).j6 /\ (fe x).cl.length = k
theorem SQ.Hc {q : SQ} (h : OkP q.j6) : q.cl = (eO q.j6).toList:=by
 cases q with
 | c s=>exact congrArg Array.toList (h _ bZ).2.2
 | p ps=>rfl
theorem SQ.Gm {q : SQ} (h : OkP q.j6) : q.Ok:=by
 cases q with
 | c s=>exact (h _ bZ).1
 | p ps=>exact h
theorem SQ.TW {q : SQ} (h : OkP q.j6) : ∀ v ∈ q.cl,v.oneCell' = true:=by
 rw [SQ.Hc h];exact h.one
def Rd {α : Type} (k : Nat) (fe : α -> SQ) (A : Option Addr) (c : Nat) (l : List α) (w : World) : Prop :=
  l.length <= c /\ c <= 9223372036854775807 /\ (A = none -> c = 0) /\ OkF k fe l /\ (0 < l.length -> ∃ b o,A = some ⟨b,o,none⟩ /\ b < w.heap.size /\ ∀ (i : Nat) x,l[i]? = some x -> w.rangeAt b (o + k * i) (fe x).cl)
section
variable {α : Type} {k c : Nat} {fe : α -> SQ} {A : Option Addr} {l : List α} {w w' : World}
theorem Rd.kH (h : Rd k fe A c l w) (hs : w.heap.size <= w'.heap.size) (hk : ∀ b,A.map (·.block) = some b -> b < w.heap.size -> w'.heap[b]? = w.heap[b]?) : Rd k fe A c l w':=by
 obtain ⟨h1,h2,h3,h4,h5⟩:=h;refine ⟨h1,h2,h3,h4,λhl=>?_⟩;obtain ⟨b,o,e,hb,hr⟩:=h5 hl;subst e;exact ⟨b,o,rfl,bB hb hs,λi x hi j v hj=>(World.cell?_of_block (w:=w) (w':=w') (a:=⟨b,o + k * i + j,none⟩) (hk b rfl hb)).trans (hr i x hi j v hj)⟩
instance : Pst (Rd k fe A c l):=⟨λ_ _ h hb=>h.kH hb.size λb _ hlt=>hb.block b hlt⟩
theorem Rd.later (h : Rd k fe A c l w) (hb : Below w.heap.size w w') : Rd k fe A c l w':=h.kH hb.size λb _ hlt=>hb.block b hlt
theorem Rd.nil (k : Nat) (fe : α -> SQ) (w : World) : Rd k fe none 0 [] w:=⟨aF _,by decide,λ_=>rfl,λ_ h=>(by cases h),λh=>absurd h (lY _)⟩
theorem Rd.take (h : Rd k fe A c l w) (n : Nat) : Rd k fe A c (l.take n) w:=by
 obtain ⟨h1,h2,h3,h4,h5⟩:=h;refine ⟨Nat.le_trans (List.length_take_le' _ _) h1,h2,h3,λx hx=>h4 x (List.mem_of_mem_take hx),λhl=>?_⟩;obtain ⟨b,o,e,hb,hr⟩:=h5 (by rw [List.length_take] at hl; omega);refine ⟨b,o,e,hb,λi x hi=>hr i x ?_⟩;rw [List.getElem?_take] at hi
 split at hi
 ·exact hi
 ·cases hi
end
def pT (A : Option Addr) (n : Nat) : Value:=match A with
  | some a=>.pointer (some ⟨a.block,a.off + n,none⟩)
  | none=>.pointer none
structure EL where
  k1 : Nat
  k2 : Nat
  sz : Nat
  t : TypeId
  A : Option Addr
  n : Nat
  c : Nat
  i : Int
def G6 (T : List TyR) (N : Nat) (E : SE) (o1 o2 : Oper) : Option EL:=match o1.dst,o2.dst,o1.op,o2.op with
  | some k1,some k2,.indexAddr t x y,.load t' (.tmp z)=>match g7 z k1,aQ k1 N,aQ k2 N,oK T t with
    | true,true,true,some r=>match r.el with
      | some e=>match oK T e,evS E x,evS E y with
        | some re,some (.q (.c (.v (.slice A n c)))),some (.q (.c (.v (.int _ i))))=>some ⟨k1,k2,mF re.zero,t',A,n,c,i⟩
        | _,_,_=>none
      | none=>none
    | _,_,_,_=>none
  | _,_,_,_=>none
theorem Sd {P : Program} {r : TyR} (h : r.ok P) {e : TypeId} (he : r.el = some e) : P.underlying r.t = some (.slice e):=by
 obtain ⟨it,d,h5,h6, -, -, -, -,h7, -⟩:=h.info;rw [he] at h7
 cases d <;> first | (cases h7; done) | skip
 injection h7 with h7
 subst h7;exact h6
theorem Le {P : Program} {t e : TypeId} {k : Nat} (ht : P.underlying t = some (.slice e)) (he : (P.info? e).map (·.size) = some k) (b o n c : Nat) (K : IntKind) (i : Nat) (hi : i < n) (w : World) :
  (mL t (.slice (some ⟨b,o,none⟩) n c) (.int K (i : Int))).run P w = .ok (.pointer (some ⟨b,o + k * i,none⟩)) w:=by
 cases hq : P.info? e with
 | none=>simp [hq] at he
 | some ie =>
  have hs : ie.size = k:=by simpa [hq] using he
  have h1 : (i : Int) < (n : Int):=by omega
  have h2 : (0 : Int) <= (i : Int):=by omega
  simp [mL,asIntOf,run_underlying ht,sizeOf,typeInfo,hq,hs,k9,Nat.mul_comm,hi]
theorem Cr {P : Program} {T : List TyR} (hT : OkT P T) {N : Nat} {E : SE} {o1 o2 : Oper} {u : EL} (h : G6 T N E o1 o2 = some u) :
  o1.dst = some u.k1 /\ o2.dst = some u.k2 /\ aQ u.k1 N = true /\ aQ u.k2 N = true /\ o2.op = .load u.t (.tmp u.k1) /\ ∃ t e x y K,o1.op = .indexAddr t x y /\ P.underlying t = some (.slice e) /\ (P.info? e).map (·.size) = some u.sz /\ evS E x = some (.v (.slice u.A u.n u.c)) /\ evS E y = some (.v (.int K u.i)):=by
 unfold G6 at h
 split at h
 ·rename_i k1 k2 t x y t' z e1 e2 e3 e4
  split at h
  ·rename_i r e5 e6 e7 hr
   split at h
   ·rename_i e he
    split at h
    ·rename_i re A n c K i hre hx hy
     injection h with h
     subst h;obtain ⟨h1,rfl⟩:=iB hT hr;have h2:=iB hT hre;clear hre;obtain ⟨h2,rfl⟩:=h2;obtain ⟨it,d,h5,_,h6, -⟩:=h2.info;have e5:=bL e5;subst e5;exact ⟨e1,e2,e6,e7,e4,_,_,x,y,K,e3,Sd h1 he,by rw [h5,fF,h6],hx,hy⟩
    ·cases h
   ·cases h
  ·cases h
 ·cases h
section
variable {α : Type} {fe : α -> SQ} {l : List α} {P : Program} {T : List TyR} {b : iF} {ops : Array Oper} {Q : Exit -> Act -> World -> Prop} {N : Nat} {E : SE} {L : List LV} {R : List Res} {F M : World -> Prop} {o1 o2 : Oper} {u : EL}
theorem Cq (hT : OkT P T) (h : G6 T N E o1 o2 = some u) (j : Nat) {x : α} (hj : u.i = (j : Int)) (hx : l[j]? = some x) (hn : u.n = l.length) (hl : AH T (fe x).j6 u.t 0 = some (fe x)) :
  ∀ {G : Nat -> Nat} {a : Act} {w : World},Rd u.sz fe u.A u.c l w -> Fr N (fY G E) a -> (execOp a.eval o1).run P w = .ok (.value (pT u.A (u.sz * j))) w /\ (fe x).Ok /\
   ∀ a' : Act,a'.eval (.tmp u.k1) = pT u.A (u.sz * j) -> (execOp a'.eval o2).run P w = .ok (.value (fe x).den) w:=by
 intro G a w hrd ha
 obtain ⟨h1,h2,h3,h4,h5,t,e,y1,y2,K,h6,h7,h8,h9,h10⟩:=Cr hT h;have hlt:=(hH.1 hx).1;obtain ⟨_,_,_,hok,hr⟩:=hrd;obtain ⟨bk,o,hA,hb,hr⟩:=hr (by omega);obtain ⟨hp,hsz⟩:=hok x (fM hx);have e1:=ha.eval (eF h9);have e2:=ha.eval (eF h10)
 have hq : pT u.A (u.sz * j) = .pointer (some ⟨bk,o + u.sz * j,none⟩):=by rw [hA]; rfl
 refine ⟨?_,SQ.Gm hp,λa' ha'=>?_⟩
 ·have hi:=Le (P:=P) h7 h8 bk o u.n u.c K j (by omega) w
  rw [<-hA,<-hj] at hi
  unfold execOp
  simp only [h6,e1,e2,SV.den,SQ.den,SC.den,hi,aJ,aI,aG,hq]
 ·obtain ⟨_,h12⟩:=GA hT hp hl
  have h13:=h12 (w:=w) (g:=bk) (base:=o + u.sz * j) (by rw [<-SQ.Hc hp]; exact hr j x hx);rw [fJ] at h13
  unfold execOp
  simp only [h5,ha',hq,h13,aJ,aI,aG]
theorem F0 (A : Option Addr) (n : Nat) : (SV.o (pT A n)).Ok:=by
 cases A <;> exact ⟨rfl,rfl⟩
theorem Fo {ops : Array Oper} {N k : Nat} {E : SE} {o : Oper} {v : SV} {q : Bool} (h : qM ops N ((k,.v undef) :: E) o = some q) : qM ops N ((k,v) :: E) o = some q:=by
 unfold qM at h ⊢
 cases hgd : o.guard with
 | none=>rw [hgd] at h; exact h
 | some jb =>
  obtain ⟨j,b⟩:=jb;rw [hgd] at h
  dsimp only at h ⊢
  cases ht : (ops[j]?).bind (·.dst) with
  | none=>rw [ht] at h; cases h
  | some t =>
   rw [ht] at h
   dsimp only at h ⊢
   cases hN : aQ t N with
   | false=>rw [hN] at h; cases h
   | true =>
    rw [hN] at h;simp only [kU] at h ⊢
    cases he : g7 k t with
    | true=>rw [he] at h; cases h
    | false=>rw [he] at h; exact h
theorem xJ {rest : List Oper} (hT : OkT P T) (h : G6 T N E o1 o2 = some u) (hg : o1.guard = none) (hw : qM ops N ((u.k1,.v undef) :: E) o2 = some true) (j : Nat) {x : α} (hj : u.i = (j : Int)) (hx : l[j]? = some x) (hn : u.n = l.length) (hl : AH T (fe x).j6 u.t 0 = some (fe x))
  (hrd : ∀ G S w,View G S L R F M w -> Rd u.sz fe u.A u.c l w) (hk : lS P b ops Q N rest ⟨(u.k2,.q (fe x)) :: (u.k1,.o (pT u.A (u.sz * j))) :: E,L,R,F,M⟩) : lS P b ops Q N (o1 :: o2 :: rest) ⟨E,L,R,F,M⟩:=λa w ⟨G,S,h1,h2,h3⟩=>by
 obtain ⟨d1,d2,n1,n2,ho2, -⟩:=Cr hT h;obtain ⟨r1,hok,r2⟩:=Cq hT h j hj hx hn hl (hrd G S w h3.view) h1
 have hw1 : aL o1 (yielded ops a.tmps) = true:=by simp [aL,hg]
 refine pL hw1 r1 ?_;rw [d1];have f1 : Fr N (fY G ((u.k1,.o (pT u.A (u.sz * j))) :: E)) (a.put (some u.k1) (pT u.A (u.sz * j))):=h1.put n1 _;refine pL (pO (E:=(u.k1,.o (pT u.A (u.sz * j))) :: E) f1 (Fo hw)) (r2 _ (wG h1 n1 _)) ?_;rw [d2];exact hk _ w ⟨G,S,f1.put n2 _,(h2.cons (F0 _ _)).cons hok,h3⟩
theorem Ol {T' : List Oper} {G : Nat -> Nat} {S : Nat -> Prop} {w0 : World} {rest : List (Nat × Oper)} {i1 i2 : Nat} (hT : OkT P T) (hst : StW b G S L R F M w0) (h : G6 T N E o1 o2 = some u) (hg : o1.guard = none) (hw : qM ops N ((u.k1,.v undef) :: E) o2 = some true) (j : Nat) {x : α} (hj : u.i = (j : Int)) (hx : l[j]? = some x) (hn : u.n = l.length) (hl : AH T (fe x).j6 u.t 0 = some (fe x))
  (hrd : ∀ G S w,View G S L R F M w -> Rd u.sz fe u.A u.c l w) (hk : gS P b ops Q N T' G w0 rest ((u.k2,.q (fe x)) :: (u.k1,.o (pT u.A (u.sz * j))) :: E)) : gS P b ops Q N T' G w0 ((i1,o1) :: (i2,o2) :: rest) E:=λhE=>by
 obtain ⟨d1,d2,n1,n2,ho2, -⟩:=Cr hT h;have hv:=λw (hw : Up w0 w)=>hrd G S w (hst.later hw).view
 have hok : (fe x).Ok:=by
  obtain ⟨_,_,_,h4,_⟩:=hv w0 (Up.refl _);exact SQ.Gm (h4 x (fM hx)).1
 refine cU rfl (λa ha=>k5 (v:=pT u.A (u.sz * j)) (by simp [aL,hg]) (λw hw=>(Cq hT h j hj hx hn hl (hv w hw.1) ha).1) ?_);rw [d1];have f1 : Fr N (fY G ((u.k1,.o (pT u.A (u.sz * j))) :: E)) (a.put (some u.k1) (pT u.A (u.sz * j))):=ha.put n1 _;refine cV (o:=o1) (E:=fY G ((u.k1,.o (pT u.A (u.sz * j))) :: E)) (cU rfl (λa2 ha2=>k5 (v:=(fe x).den) (pO (E:=(u.k1,.o (pT u.A (u.sz * j))) :: E) ha2 (Fo hw)) (λw hw=>?_) ?_)) _ f1
 ·have hev : a2.eval (.tmp u.k1) = pT u.A (u.sz * j):=ha2.get u.k1 _ (by rw [fY,fL,if_pos rfl]; rfl)
  exact (Cq hT h j hj hx hn hl (hv w hw.1) ha).2.2 a2 hev
 ·rw [d2]
  exact cV (o:=o2) (hk ((hE.cons (F0 _ _)).cons hok)) _ (ha2.put n2 _)
end
end Go.Proofs.YtfkchihlchlfdaaDoor
