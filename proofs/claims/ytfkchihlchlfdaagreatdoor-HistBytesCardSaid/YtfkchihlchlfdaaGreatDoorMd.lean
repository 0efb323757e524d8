import Derived.Test.YtfkchihlchlfdaaGreatDoorMc
import Derived.Laws.MakeOwn
import Derived.Maps.AppendAt
import Derived.Great.BuildSlice
set_option maxRecDepth 100000
open Array renaming length_toList->dL,toList_map->sW,range->BE
open Bool renaming and_eq_true->aW
open Go.Addr renaming add_mid->iS
open Go.Exit renaming inBlock->eE
open Go.Instr renaming fill->gN,indexAt->lN
open Go.Oper renaming upon->mJ,wp->nC
open Go.Region renaming wanted->aN
open Go.Result renaming andThen_ok->aF
open Go.Sem renaming run_bind->aJ,run_pure->aK
open Iff renaming rfl->wZ
open List renaming replicate->aE,length_append->aI,append_assoc->aU,length_take->aY,mem_singleton->bK,mem_cons_of_mem->bL,mem_cons->b7,map_cons->cA,mem_cons_self->cB,length_cons->cC,eq_nil_of_length_eq_zero->cM,getElem?_eq_some_iff->dI,map_toArray->dW,map_nil->gB,mem_of_getElem?->gK,mem_map->gP,getElem?_take->iJ,nil_append->kG,pairwise_iff_getElem->nA,getElem_of_mem->rK,nodup_cons->Bq
open List.Pairwise renaming imp_of_mem->BW
open Nat renaming le_refl->aH,blt->aQ,eq_of_beq_eq_true->bD,lt_of_lt_of_le->bM,zero_add->cK,beq->hH,mul_comm->iH,lt_irrefl->jW,le_trans->j6
open Option renaming map_some->eZ
open Option.some renaming injEq->bG
namespace Go.Proofs.YtfkchihlchlfdaaGreatDoor
open Go.RowKit Go.IntWalk
def ikB : IntKind -> IntKind -> Bool
  | .i8,.i8=>true
  | .i16,.i16=>true
  | .i32,.i32=>true
  | .i64,.i64=>true
  | .u8,.u8=>true
  | .u16,.u16=>true
  | .u32,.u32=>true
  | .u64,.u64=>true
  | _,_=>false
theorem V8 {a b : IntKind} (h : ikB a b = true) : a = b:=by
 cases a <;> cases b <;> first | rfl | cases h
def nzB : Operand -> Bool
  | .const (.int _ (.ofNat (_ + 1)))=>true
  | _=>false
def WH (op : BinOp) (y : Operand) (K : IntKind) (m n : Int) : Option SV:=match op with
  | .add=>some (.v (.int K (K.wrap (m + n))))
  | .sub=>some (.v (.int K (K.wrap (m - n))))
  | .mul=>some (.v (.int K (K.wrap (m * n))))
  | .quo=>match nzB y with
    | true=>some (.v (.int K (K.wrap (m.tdiv n))))
    | false=>none
  | .rem=>match nzB y with
    | true=>some (.v (.int K (m.tmod n)))
    | false=>none
  | .eql=>some (.b (decide (m = n)))
  | .neq=>some (.b (decide (m ≠ n)))
  | .lss=>some (.b (decide (m < n)))
  | .leq=>some (.b (decide (m <= n)))
  | .gtr=>some (.b (decide (m > n)))
  | .geq=>some (.b (decide (m >= n)))
  | _=>none
theorem PL {E : SE} {y : Operand} {K : IntKind} {n : Int} (h : nzB y = true) (hy : evS E y = some (.v (.int K n))) : n ≠ 0:=by
 unfold nzB at h
 split at h
 ·injection hy with hy
  injection hy with hy
  injection hy with hy
  injection hy with hy
  injection hy with _ hy
  subst hy;exact λh=>(by cases h)
 ·cases h
theorem Uj {P : Program} {E : SE} {op : BinOp} {t : TypeId} {y : Operand} {K : IntKind} {m n : Int} {v : SV} (hy : evS E y = some (.v (.int K n))) (h : WH op y K m n = some v) :
  v.Ok /\ ∀ G w,(binOp op t (.int K m) (.int K n)).run P w = .ok (v.den G) w:=by
 cases op <;> simp only [WH] at h
 case quo =>
  split at h
  ·rename_i hz
   have:=PL hz hy
   injection h with h
   subst h;exact ⟨trivial,λG w=>by simp [binOp,Op.intDiv,this,SV.den,SQ.den,SC.den]⟩
  ·cases h
 case rem =>
  split at h
  ·rename_i hz
   have:=PL hz hy
   injection h with h
   subst h;exact ⟨trivial,λG w=>by simp [binOp,Op.intDiv,this,SV.den,SQ.den,SC.den]⟩
  ·cases h
 all_goals first | (cases h; done) | skip
 all_goals injection h with h
 all_goals subst h
 all_goals refine ⟨trivial,λG w=>?_⟩
 all_goals first | (simp [binOp,Op.intArith,SV.den,SQ.den,SC.den]; done) | skip
 all_goals simp [binOp,Op.intCmp,SV.den,SQ.den,SC.den]
 all_goals rfl
def nD (T : List TyR) (E : SE) (L : List LV) : Op -> Option SV
  | .move x=>evS E x
  | .assign x=>evS E x
  | .pick c x y=>match evS E c with
    | some (.q (.c (.v (.bool true))))=>evS E x
    | some (.q (.c (.v (.bool false))))=>evS E y
    | _=>none
  | .extract x i=>match evS E x with
    | some (.t vs)=>match vs[i]? with
      | some q=>some (.q q)
      | none=>none
    | _=>none
  | .unOp .not _ x=>match evS E x with
    | some (.q (.c (.v (.bool true))))=>some (.v (.bool false))
    | some (.q (.c (.v (.bool false))))=>some (.v (.bool true))
    | some (.q (.c (.b e)))=>some (.b !e)
    | _=>none
  | .nilCheck x=>match evS E x with
    | some (.a j off)=>some (.a j off)
    | some (.q (.c (.v (.pointer (some p)))))=>some (.v (.pointer (some p)))
    | _=>none
  | .fieldAddr t x i=>match evS E x,JZ T t i with
    | some (.a j off),some o=>some (.a j (off + o))
    | some (.q (.c (.v (.pointer (some ⟨g,off,none⟩))))),some o=>some (.v (.pointer (some ⟨g,off + o,none⟩)))
    | _,_=>none
  | .load t x=>match evS E x with
    | some (.a j off)=>match tW L j with
      | some ps=>match tX T ps t off with
        | some q=>some (.q q)
        | none=>none
      | none=>none
    | _=>none
  | .build t parts=>match o6 T t with
    | some r=>match hH r.kind 2 with
      | true=>match FR E r.zero parts.toList with
        | some ps=>some (.p ps)
        | none=>none
      | false=>match hH r.kind 1,parts.toList with
        | true,[]=>some (.p r.zero)
        | _,_=>none
    | none=>none
  | .binOp op t x y _=>match evS E x,evS E y with
    | some (.q (.c (.v (.int K m)))),some (.q (.c (.v (.int K' n))))=>match ikB K K' with
      | true=>WH op y K m n
      | false=>none
    | some (.q (.c (.v (.pointer p)))),some (.q (.c (.v (.pointer none))))=>match o6 T t with
      | some r=>match r.pt,op,p with
        | true,.eql,none=>some (.v (.bool true))
        | true,.eql,some _=>some (.v (.bool false))
        | true,.neq,none=>some (.v (.bool false))
        | true,.neq,some _=>some (.v (.bool true))
        | _,_,_=>none
      | none=>none
    | _,_=>none
  | .convert src dst x=>match o6 T src,o6 T dst,evS E x with
    | some _,some r,some (.q (.c (.v (.int _ n))))=>match r.ik with
      | some K=>some (.v (.int K (K.wrap n)))
      | none=>none
    | _,_,_=>none
  | .call { callee:=.builtin .len,args:=⟨[x]⟩,argTypes:=⟨[t]⟩ }=>match o6 T t with
    | some r=>match r.el,evS E x with
      | some _,some (.q (.c (.v (.slice _ n _))))=>some (.v (.int .i64 (n : Int)))
      | some _,some (.s _ _ n _)=>some (.v (.int .i64 (n : Int)))
      | _,_=>none
    | none=>none
  | _=>none
def OkL (L : List LV) : Prop:=∀ x ∈ L,OkP x.ps
def LAt (G : Nat -> Nat) (L : List LV) (w : World) : Prop:=∀ x ∈ L,Blk w (G x.j) x.t (eI x.ps)
theorem Rh {P : Program} {t : TypeId} {r : TyR} (hr : r.ok P) (ht : r.t = t) (hk : r.kind = 2) (parts : List (Nat × Value)) : P.built t parts = gN ((kM 0 r.zero).toArray[·]?) (eI r.zero) parts:=by
 subst ht;obtain ⟨it,d,h1,h2,h3,h4,h5,h6, -⟩:=hr.info;rw [hk] at h5 h6
 cases d <;> first | (cases h5; done) | skip
 rename_i fs
 dsimp only at h6
 cases hz : it.zero with
 | none=>rw [hz] at h4; cases h4
 | some z =>
  rw [hz] at h4;simp only [eZ,bG] at h4
  unfold Program.built
  simp only [h1,h2,hz,h6,h4]
theorem Kh {P : Program} {t : TypeId} {r : TyR} (hr : r.ok P) (ht : r.t = t) (hk : r.kind = 1) : P.built t [] = some (eI r.zero):=by
 subst ht;obtain ⟨it,d,h1,h2,h3,h4,h5,h6, -⟩:=hr.info;rw [hk] at h5 h6
 cases d <;> first | (cases h5; done) | skip
 rename_i n e
 dsimp only at h6
 cases he : P.info? e with
 | none=>rw [he] at h6; cases h6
 | some ie =>
  cases hz : it.zero with
  | none=>rw [hz] at h4; cases h4
  | some z =>
   rw [hz] at h4;simp only [eZ,bG] at h4
   unfold Program.built
   simp only [h1,h2,hz,he,h4]
   rfl
theorem KS {P : Program} {t : TypeId} {e : TypeId} (ht : P.underlying t = some (.slice e)) (ty : TypeId) (A : Option Addr) (n c : Nat) (w : World) : (Builtin.len_ #[t] ty #[.slice A n c]).run P w = .ok (.int .i64 (n : Int)) w:=by
 simp [Builtin.len_,run_underlying ht,goInt]
theorem qG {P : Program} {T : List TyR} (hT : OkT P T) {E : SE} {L : List LV} {N : Nat} {o : Oper} {v : SV} (hE : OkE E) (hL : OkL L) (h : nD T E L o.op = some v) :
    v.Ok /\ ∀ {G : Nat -> Nat} {a : Act} {w : World},Fr N (fS G E) a -> LAt G L w -> (execOp a.eval o).run P w = .ok (.value (v.den G)) w:=by
  obtain ⟨dst,op,ty,pos,af,gd⟩:=o
  dsimp only at h
  have hev : ∀ {x : Operand} {u : SV},evS E x = some u -> ∀ {G : Nat -> Nat} {a : Act},Fr N (fS G E) a -> a.eval x = u.den G:=by
    intro x u hx G a ha
    exact ha.eval (cU hx)
  cases op
  case move x =>
    refine ⟨hE.ev h,λha _=>?_⟩;have h1:=hev h ha
    unfold execOp
    simp only [h1,aK]
  case assign x =>
    refine ⟨hE.ev h,λha _=>?_⟩;have h1:=hev h ha
    unfold execOp
    simp only [h1,aK]
  case pick c x y =>
    simp only [nD] at h
    split at h
    · rename_i hc
      refine ⟨hE.ev h,λha _=>?_⟩;have h1:=hev hc ha;have h2:=hev h ha
      unfold execOp
      simp only [h1,h2,SV.den,SQ.den,SC.den,asBool,aJ,aK,aF,if_true]
    · rename_i hc
      refine ⟨hE.ev h,λha _=>?_⟩;have h1:=hev hc ha;have h2:=hev h ha
      unfold execOp
      simp only [h1,h2,SV.den,SQ.den,SC.den,asBool,aJ,aK,aF,Bool.false_eq_true,if_false]
    · cases h
  case extract x i =>
    simp only [nD] at h
    split at h
    · rename_i vs hx
      split at h
      · rename_i q hq
        injection h with h
        subst h;refine ⟨hE.ev hx q (gK hq),λha _=>?_⟩;have h1:=hev hx ha
        have h2 : (vs.map SQ.den).toArray[i]? = some q.den:=by simp [hq]
        unfold execOp
        simp only [h1,SV.den,Instr.extract,h2,aJ,aK,aF]
      · cases h
    · cases h
  case unOp k t x =>
    cases k
    case not =>
      simp only [nD] at h
      split at h
      · rename_i hx
        injection h with h
        subst h;refine ⟨trivial,λha _=>?_⟩;have h1:=hev hx ha
        unfold execOp
        simp only [h1,SV.den,SQ.den,SC.den,Op.unary,aJ,aK,aF,Bool.not_true]
      · rename_i hx
        injection h with h
        subst h;refine ⟨trivial,λha _=>?_⟩;have h1:=hev hx ha
        unfold execOp
        simp only [h1,SV.den,SQ.den,SC.den,Op.unary,aJ,aK,aF,Bool.not_false]
      · rename_i e hx
        injection h with h
        subst h;refine ⟨trivial,λha _=>?_⟩;have h1:=hev hx ha
        unfold execOp
        simp only [h1,SV.den,SQ.den,SC.den,Op.unary,aJ,aK,aF]
      · cases h
    all_goals cases h
  case nilCheck x =>
    simp only [nD] at h
    split at h
    · rename_i j off hx
      injection h with h
      subst h;refine ⟨trivial,λha _=>?_⟩;have h1:=hev hx ha
      unfold execOp
      simp only [h1,SV.den,aK]
    · rename_i p hx
      injection h with h
      subst h;refine ⟨trivial,λha _=>?_⟩;have h1:=hev hx ha
      unfold execOp
      simp only [h1,SV.den,SQ.den,SC.den,aK]
    · cases h
  case fieldAddr t x i =>
    simp only [nD] at h
    split at h
    · rename_i j off o hx ho
      injection h with h
      subst h;refine ⟨trivial,λha _=>?_⟩;have h1:=hev hx ha
      unfold execOp
      simp only [h1,SV.den,EA hT ho,aJ,aK,aF]
    · rename_i g off o hx ho
      injection h with h
      subst h;refine ⟨trivial,λha _=>?_⟩;have h1:=hev hx ha
      unfold execOp
      simp only [h1,SV.den,SQ.den,SC.den,EA hT ho,aJ,aK,aF]
    · cases h
  case load t x =>
    simp only [nD] at h
    split at h
    · rename_i j off hx
      split at h
      · rename_i ps hps
        split at h
        · rename_i q hq
          injection h with h
          subst h;obtain ⟨y,hy,rfl,rfl⟩:=mX hps;obtain ⟨h3,h4⟩:=zG hT (hL y hy) hq;refine ⟨h3,λha hl=>?_⟩;have h1:=hev hx ha
          unfold execOp
          simp only [h1,SV.den,h4 (hl y hy),aJ,aK,aF]
        · cases h
      · cases h
    · cases h
  case build t parts =>
    simp only [nD] at h
    split at h
    · rename_i r hr
      split at h
      · rename_i hk
        split at h
        · rename_i ps hps
          injection h with h
          subst h;obtain ⟨h3,h4⟩:=iV hT hr;have hf:=λ(G : Nat -> Nat)=>LC (G:=G) hE (places:=kM 0 r.zero) h3.2 rfl hps;refine ⟨(hf (λ_=>0) (λx=>((evS E x).map (SV.den λ_=>0)).getD undef) (λx u hx=>by rw [hx]; rfl)).1,λ{G a w} ha _=>?_⟩;have h5:=(hf G a.eval (λx u hx=>hev hx ha)).2;rw [<-Rh h3 h4 (bD hk)] at h5;have h6:=run_build (P:=P) w t (parts.map λ(i,x)=>(i,a.eval x)) (eI ps) (by rw [sW]; exact h5)
          unfold execOp
          simp only [h6,SV.den,SQ.den,aJ,aK,aF]
        · cases h
      · split at h
        · rename_i hk hpt
          injection h with h
          subst h;obtain ⟨h3,h4⟩:=iV hT hr
          have hpt' : parts = #[]:=by simpa using hpt
          subst hpt';refine ⟨h3.2,λ{G a w} _ _=>?_⟩;have h6:=run_build (P:=P) w t #[] (eI r.zero) (Kh h3 h4 (bD hk))
          unfold execOp
          simp only [dW,gB,h6,SV.den,SQ.den,aJ,aK,aF]
        · cases h
    · cases h
  case binOp op t x y t2 =>
    simp only [nD] at h
    split at h
    · rename_i K m K' n hx hy
      split at h
      · rename_i hK
        obtain rfl:=V8 hK;obtain ⟨h1,h2⟩:=Uj (P:=P) (t:=t) hy h;refine ⟨h1,λ{G a w} ha _=>?_⟩;have e1:=hev hx ha;have e2:=hev hy ha
        have e3 : (eqGuard op t x y (.int K m) (.int K n)).run P w = .ok () w:=by
          cases op <;> rfl
        unfold execOp
        simp only [e1,e2,SV.den,SQ.den,SC.den,aJ,e3,h2 G w,aK,aF]
      · cases h
    · rename_i p hx hy
      split at h
      · rename_i r hr
        obtain ⟨h3,rfl⟩:=iV hT hr;obtain ⟨it,d,h5,h6, -, -, -, -, -, -,h7, -⟩:=h3.info
        have hpt : r.pt = true -> ∃ e,P.underlying r.t = some (.pointer e):=λhe=>by
          rw [he] at h7
          cases d <;> first | (cases h7; done) | skip
          exact ⟨_,h6⟩
        have key : ∀ {G : Nat -> Nat} {a : Act} {w : World},Fr N (fS G E) a -> ∀ b : Bool,(binOp op r.t (.pointer p) (.pointer none)).run P w = .ok (.bool b) w -> (execOp a.eval ⟨dst,.binOp op r.t x y t2,ty,pos,af,gd⟩).run P w = .ok (.value (.bool b)) w:=λ{G a w} ha b hb=>by
          have e1:=hev hx ha;have e2:=hev hy ha
          have e3 : (eqGuard op r.t x y (.pointer p) (.pointer none)).run P w = .ok () w:=by
            cases op <;> rfl
          unfold execOp
          simp only [e1,e2,SV.den,SQ.den,SC.den,aJ,e3,hb,aK,aF]
        have heq : ∀ w,r.pt = true -> (Op.equal r.t (.pointer p) (.pointer none)).run P w = .ok p.isNone w:=λw he=>by
          obtain ⟨e,hu⟩:=hpt he
          unfold Op.equal Op.maxDepth
          rw [show (10000 : Nat) = 9999 + 1 from rfl,Op.equalIn];simp only [aJ,run_underlying hu,aF]
          cases p <;> rfl
        split at h
        all_goals first | (cases h; done) | skip
        all_goals rename_i he
        all_goals injection h with h
        all_goals subst h
        all_goals refine ⟨trivial,λha _=>key ha _ ?_⟩
        all_goals simp [binOp,heq _ he]
      · cases h
    · cases h
  case convert src dst' x =>
    simp only [nD] at h
    split at h
    · rename_i r0 r K0 n h0 hr hx
      split at h
      · rename_i K hK
        injection h with h
        subst h;have q1:=iV hT h0;have q2:=iV hT hr;clear h0 hr;obtain ⟨q1,rfl⟩:=q1;obtain ⟨q2,rfl⟩:=q2;obtain ⟨it0,d0,_,h6, -⟩:=q1.info;obtain ⟨it,d,_,h7, -, -, -, -, -,h8, -⟩:=q2.info;rw [hK] at h8
        cases d <;> first | (cases h8; done) | skip
        injection h8 with h8
        subst h8;refine ⟨trivial,λha _=>?_⟩;have e1:=hev hx ha
        unfold execOp
        simp only [e1,SV.den,SQ.den,SC.den]
        simp [convert,run_underlying h6,run_underlying h7,Conv.intToInt]
      · cases h
    · cases h
  case call c =>
    obtain ⟨callee,args,ats⟩:=c
    cases callee
    case builtin bi =>
     cases bi
     case len =>
      obtain ⟨args⟩:=args;obtain ⟨ats⟩:=ats
      rcases args with _ | ⟨x,_ | ⟨y,r⟩⟩
      · cases h
      rcases ats with _ | ⟨t,_ | ⟨y,r⟩⟩
      all_goals first | (cases h; done) | skip
      simp only [nD] at h
      split at h
      · rename_i r hr
        obtain ⟨h3,rfl⟩:=iV hT hr;obtain ⟨it,d,h5,h6, -, -, -, -,h7, -⟩:=h3.info
        have hu : ∀ e,r.el = some e -> P.underlying r.t = some (.slice e):=λe he=>by
          rw [he] at h7
          cases d <;> first | (cases h7; done) | skip
          injection h7 with h7
          subst h7;exact h6
        split at h
        · rename_i e A n cc he hx
          injection h with h
          subst h;refine ⟨trivial,λha _=>?_⟩;have h1:=hev hx ha
          unfold execOp
          simp only [resolve,invoke,builtin,dW,cA,gB,h1,SV.den,SQ.den,SC.den,aJ,aK,aF,KS (hu e he)]
        · rename_i e j off n cc he hx
          injection h with h
          subst h;refine ⟨trivial,λha _=>?_⟩;have h1:=hev hx ha
          unfold execOp
          simp only [resolve,invoke,builtin,dW,cA,gB,h1,SV.den,SQ.den,SC.den,aJ,aK,aF,KS (hu e he)]
        · cases h
      · cases h
     all_goals cases h
    all_goals cases h
  all_goals cases h
def qY (ops : Array Oper) (N : Nat) (E : SE) (o : Oper) : Option Bool :=
  match o.guard with
  | none=>some true
  | some (j,b)=>match (ops[j]?).bind (·.dst) with
    | some t=>match aQ t N with
      | true=>match iU E t with
        | some (.q (.c (.v (.bool true))))=>some b
        | some (.q (.c (.v (.bool false))))=>some (!b)
        | _=>none
      | false=>none
    | none=>none
theorem qD {ops : Array Oper} {N : Nat} {G : Nat -> Nat} {E : SE} {a : Act} {o : Oper} {q : Bool} (ha : Fr N (fS G E) a) (h : qY ops N E o = some q) : aN o (yielded ops a.tmps) = q:=by
 refine N0 ha ?_
 unfold qY at h
 unfold N1
 split at h
 ·rename_i hg
  rw [hg];exact h
 ·rename_i j b hg
  rw [hg]
  split at h
  ·rename_i t hj
   dsimp only
   rw [hj]
   split at h
   ·rename_i hN
    dsimp only
    rw [hN]
    split at h
    ·rename_i hc
     dsimp only
     rw [iK,hc];exact h
    ·rename_i hc
     dsimp only
     rw [iK,hc];exact h
    ·cases h
   ·cases h
  ·cases h
def Ii (j : Nat) (E : SE) : Bool:=E.all λx=>x.2.TN j
def Tk (T : List TyR) (E : SE) (L : List LV) (k : Nat) : Op -> Option (TypeId × List Pt)
  | .alloc ty=>match o6 T ty,AE k L,Ii k E with
    | some r,true,true=>some (ty,r.zero)
    | _,_,_=>none
  | .box ty x=>match evS E x,AE k L,Ii k E with
    | some (.q (.p ps)),true,true=>some (ty,ps)
    | some (.q (.c s)),true,true=>match We s with
      | true=>some (ty,[.one s])
      | false=>none
    | _,_,_=>none
  | _=>none
def Vp (T : List TyR) (E : SE) (L : List LV) : Op -> Option (Nat × List Pt)
  | .store t x y=>match evS E x,evS E y with
    | some (.a j off),some (.q q)=>match tW L j with
      | some ps=>match ET T ps t off q with
        | some qs=>some (j,qs)
        | none=>none
      | none=>none
    | _,_=>none
  | _=>none
def sR (T : List TyR) (ops : Array Oper) (N : Nat) : List Oper -> SE -> List LV -> List Oper × SE × List LV
  | [],E,L=>([],E,L)
  | o :: l,E,L=>match qY ops N E o with
    | none=>(o :: l,E,L)
    | some false=>match o.dst with
      | some k=>match aQ k N with
        | true=>sR T ops N l ((k,.v undef) :: E) L
        | false=>(o :: l,E,L)
      | none=>sR T ops N l E L
    | some true=>match o.dst with
      | some k=>match aQ k N with
        | true=>match nD T E L o.op with
          | some v=>sR T ops N l ((k,v) :: E) L
          | none=>match Tk T E L k o.op with
            | some (ty,ps)=>sR T ops N l ((k,.a k 0) :: E) (⟨k,none,ty,ps⟩ :: L)
            | none=>(xH o :: l,E,L)
        | false=>(o :: l,E,L)
      | none=>match Vp T E L o.op with
        | some (j,ps)=>sR T ops N l E (y5 L j ps)
        | none=>(xH o :: l,E,L)
theorem StW.okL {b : iI} {G : Nat -> Nat} {S : Nat -> Prop} {L : List LV} {R : List Res} {F M : World -> Prop} {w : World} (h : StW b G S L R F M w) : OkL L:=λx hx=>(h.var x hx).2.1
theorem StW.at {b : iI} {G : Nat -> Nat} {S : Nat -> Prop} {L : List LV} {R : List Res} {F M : World -> Prop} {w : World} (h : StW b G S L R F M w) : LAt G L w:=λx hx=>(h.var x hx).1
theorem vD : ∀ {L : List LV} {j : Nat},AE j L = true -> j ∉ fF L
 | [],_,_,h=>by cases h
 | x :: r,j,h,hm=>by
  unfold AE at h
  simp only [aW,Bool.not_eq_true'] at h
  rcases b7.1 hm with e | hm
  ·rw [e] at h
   simp at h
  ·exact vD h.2 hm
theorem T4 {G : Nat -> Nat} {j g : Nat} {v : SV} (h : v.TN j = true) : v.den (λi=>if i = j then g else G i) = v.den G:=by
 cases v with
 | q x=>rfl
 | a i off =>
  have : i ≠ j:=by
   rintro rfl
   simp [SV.TN] at h
  simp [SV.den,this]
 | s i off n c =>
  have : i ≠ j:=by
   rintro rfl
   simp [SV.TN] at h
  simp [SV.den,this]
 | t vs=>rfl
theorem C8 {G : Nat -> Nat} {j g : Nat} : ∀ {E : SE},Ii j E = true -> fS (λi=>if i = j then g else G i) E = fS G E
 | [],_=>rfl
 | (k,v) :: r,h=>by
  unfold Ii at h
  rw [List.all_cons,aW] at h;rw [fS,fS,T4 h.1,C8 h.2]
section
variable {b : iI} {G : Nat -> Nat} {S : Nat -> Prop} {L : List LV} {R : List Res} {F M : World -> Prop} {w : World}
theorem StW.new (h : StW b G S L R F M w) {j : Nat} {t : TypeId} {ps : List Pt} (hj : AE j L = true) (hp : OkP ps) : StW b (λi=>if i = j then w.heap.size else G i) S (⟨j,none,t,ps⟩ :: L) R F M (w.alloc (.cells (eI ps) t)):=by
 have hal:=(Below.refl w.heap.size w).alloc (aH _) (.cells (eI ps) t);have hn:=vD hj;have hne : ∀ i,i ∈ fF L -> i ≠ j:=λi hi e=>hn (e ▸ hi);have hG : ∀ i ∈ fF L,(if i = j then w.heap.size else G i) = G i:=λi hi=>if_neg (hne i hi);have hlt : ∀ i ∈ fF L,G i < w.heap.size:=λi hi=>h.lt _ (.inr ⟨i,hi,rfl⟩);have h1:=h.later hal
 have hM : ∀ k,rW S (λi=>if i = j then w.heap.size else G i) (⟨j,none,t,ps⟩ :: L) k -> k = w.heap.size \/ rW S G L k:=λk hk=>by
  rcases hk with hk | ⟨i,hi,rfl⟩
  ·exact .inr (.inl hk)
  ·rcases b7.1 hi with rfl | hi
   ·exact .inl (if_pos rfl)
   ·exact .inr (.inr ⟨i,hi,(hG i hi).symm⟩)
 refine ⟨λx hx=>?_,List.Pairwise.cons (λi hi=>?_) ?_,h1.res,λi hi=>?_,?_,?_,h1.chg,λk hk hlt=>?_,h.old⟩
 ·rcases b7.1 hx with rfl | hx
  ·refine ⟨?_,hp,λg hg=>by cases hg⟩
   show Blk _ (if j = j then w.heap.size else G j) t (eI ps)
   rw [if_pos rfl];exact Blk.new w _ _
  ·rw [hG _ (gP.2 ⟨x,hx,rfl⟩)]
   exact h1.var x hx
 ·show (if j = j then w.heap.size else G j) ≠ _
  rw [if_pos rfl,hG i hi];exact Nat.ne_of_gt (hlt i hi)
 ·refine BW (λ{x y} hx hy hxy=>?_) h.apart
  rw [hG x hx,hG y hy];exact hxy
 ·rcases b7.1 hi with rfl | hi
  ·show ¬ S (if i = i then w.heap.size else G i)
   rw [if_pos rfl];exact λhs=>jW _ (h.res.lt _ hs)
  ·rw [hG i hi]
   exact h.sep i hi
 ·refine h.fact.G5 (Chg.tV hal) λi hi hd=>?_
  rcases hd with hd | hd
  ·exact .inl hd
  ·rcases hM i hd with rfl | hd
   ·exact absurd hi (jW _)
   ·exact .inr hd
 ·refine h.fresh.G5 (Chg.tV hal) λi hi hd=>?_
  rcases hd with hd | hd
  ·exact .inl hd
  ·rcases hM i hd with rfl | hd
   ·exact absurd hi (jW _)
   ·exact .inr hd
 ·rcases hM k hk with rfl | hk
  ·exact absurd (Nat.lt_of_le_of_lt h.chg.size hlt) (jW _)
  ·exact h.mine k hk hlt
theorem GX {j : Nat} {ps : List Pt} : ∀ {L : List LV},(fF L).Nodup -> ∀ y ∈ y5 L j ps,(y ∈ L /\ y.j ≠ j) \/ ∃ x ∈ L,x.j = j /\ y = { x with ps:=ps }
 | [],_,y,h=>by cases h
 | x :: r,hd,y,h=>by
  unfold y5 at h
  have hd':=Bq.1 hd
  split at h
  ·rename_i e
   have e:=bD e
   rcases b7.1 h with rfl | h
   ·exact .inr ⟨x,cB,e,rfl⟩
   ·refine .inl ⟨bL _ h,λe2=>hd'.1 ?_⟩
    show x.j ∈ fF r
    rw [e,<-e2];exact gP.2 ⟨y,h,rfl⟩
  ·rename_i e
   rcases b7.1 h with rfl | h
   ·exact .inl ⟨cB,λe2=>by rw [e2] at e; simp at e⟩
   ·rcases GX hd'.2 y h with ⟨h1,h2⟩ | ⟨z,h1,h2,h3⟩
    ·exact .inl ⟨bL _ h1,h2⟩
    ·exact .inr ⟨z,bL _ h1,h2,h3⟩
theorem StW.nodup (h : StW b G S L R F M w) : (fF L).Nodup:=h.apart.imp λhxy e=>hxy (congrArg G e)
theorem StW.set (h : StW b G S L R F M w) {j : Nat} {ps : List Pt} (hj : j ∈ fF L) (hp : OkP ps) : StW b G S (y5 L j ps) R F M (w.setRow (G j) (eI ps)):=by
 have hc:=Chg.row w (G j) (eI ps);have hmine : rW S G L (G j):=.inr ⟨j,hj,rfl⟩
 have hne : ∀ i ∈ fF L,i ≠ j -> G i ≠ G j:=λi hi e=>by
  have:=h.apart;obtain ⟨p,hp,rfl⟩:=rK hi;obtain ⟨q,hq,rfl⟩:=rK hj
  rcases Nat.lt_trichotomy p q with h1 | h1 | h1
  ·exact nA.1 this p q hp hq h1
  ·subst h1; exact absurd rfl e
  ·exact (nA.1 this q p hq hp h1).symm
 have hM : ∀ k,rW S G (y5 L j ps) k ↔ rW S G L k:=λk=>by unfold rW; rw [s9]
 refine ⟨λy hy=>?_,by rw [s9]; exact h.apart,h.res.mF λk hk=>hc.block k (h.res.lt k hk) (λe=>h.sep j hj (e ▸ hk)),by rw [s9]; exact h.sep,?_,?_,h.chg.step hc (λi hi e=>by subst e; exact h.mine _ hmine hi),λk hk=>h.mine k ((hM k).1 hk),h.old⟩
 ·rcases GX h.nodup y hy with ⟨h1,h2⟩ | ⟨x,h1,h2,rfl⟩
  ·refine ⟨(h.var y h1).1.aT (hne _ (gP.2 ⟨y,h1,rfl⟩) h2) _,(h.var y h1).2⟩
  ·subst h2
   exact ⟨(h.var x h1).1.row _,hp,(h.var x h1).2.2⟩
 ·refine h.fact.G5 (D':=Dof b.X S G (y5 L j ps)) (hc.mono (D':=Dof b.X S G L) λi _ e=>by subst e; exact .inr hmine) λi _ hd=>?_
  exact hd.imp id (hM i).1
 ·refine h.fresh.G5 (D':=Nof b S G (y5 L j ps)) (hc.mono (D':=Nof b S G L) λi _ e=>by subst e; exact .inr hmine) λi _ hd=>?_
  exact hd.imp id (hM i).1
end
def lS (P : Program) (b : iI) (ops : Array Oper) (Q : Exit -> Act -> World -> Prop) (N : Nat) (l : List Oper) (e : Env) : Prop:=∀ a w,St b N e a w -> wpList P ops Q l a w
theorem OM {P : Program} {o : Oper} {ty : TypeId} {x : Operand} (ho : o.op = .box ty x) (a : Act) (w : World) : (execOp a.eval o).run P w = .ok (.value (.pointer (some ⟨w.heap.size,0,none⟩))) (w.alloc (.cells (a.eval x).cells ty)):=by
 unfold execOp
 simp [ho,Instr.box,newVar,newRow]
theorem x8 {L : List LV} {j : Nat} {ps : List Pt} (h : tW L j = some ps) : j ∈ fF L:=by
 obtain ⟨x,hx,rfl,_⟩:=mX h;exact gP.2 ⟨x,hx,rfl⟩
section
variable {P : Program} {b : iI} {T : List TyR} {ops : Array Oper} {Q : Exit -> Act -> World -> Prop} {N : Nat} {R : List Res} {F M : World -> Prop}
theorem pE {o : Oper} {l : List Oper} {a : Act} {w w' : World} {v : Value} (hw : aN o (yielded ops a.tmps) = true) (hr : (execOp a.eval o).run P w = .ok (.value v) w') (h : wpList P ops Q l (a.put o.dst v) w') : wpList P ops Q (o :: l) a w:=by
 unfold wpList
 rw [if_pos hw];refine .inl ?_
 unfold nC
 rw [hr];exact h
theorem BZ {o : Oper} {l : List Oper} {a : Act} {w w' : World} (hw : aN o (yielded ops a.tmps) = true) (hr : (execOp a.eval o).run P w = .ok .skip w') (h : wpList P ops Q l (a.put o.dst undef) w') : wpList P ops Q (o :: l) a w:=by
 unfold wpList
 rw [if_pos hw];refine .inl ?_
 unfold nC
 rw [hr];exact h
theorem Gg {o : Oper} {l : List Oper} {a : Act} {w : World} (hw : aN o (yielded ops a.tmps) = true) (h : wpList P ops Q (xH o :: l) a w) : wpList P ops Q (o :: l) a w:=by
 obtain ⟨dst,op,ty,pos,af,gd⟩:=o
 unfold wpList at h ⊢
 rw [if_pos hw];rw [if_pos (by rfl)] at h;exact h
theorem StA.put {e : Env} {G : Nat -> Nat} {S : Nat -> Prop} {a : Act} {w : World} (h : StA b N e G S a w) {k : Nat} (hk : aQ k N = true) {v : SV} (hv : v.Ok) : StA b N { e with E:=(k,v) :: e.E } G S (a.put (some k) (v.den G)) w:=⟨h.fr.put hk _,h.ok.cons hv,h.st⟩
theorem sQ (hT : OkT P T) : ∀ {l : List Oper} {E : SE} {L : List LV},lS P b ops Q N (sR T ops N l E L).1 ⟨(sR T ops N l E L).2.1,(sR T ops N l E L).2.2,R,F,M⟩ -> lS P b ops Q N l ⟨E,L,R,F,M⟩
 | [],_,_,h=>h
 | o :: l,E,L,h=>by
  intro a w ⟨G,S,hs⟩
  have hst:=hs.st
  dsimp only at hst
  unfold sR at h
  cases hw : qY ops N E o with
  | none=>rw [hw] at h; exact h a w ⟨G,S,hs⟩
  | some q =>
   rw [hw] at h;have hwt:=qD hs.fr hw
   cases q with
   | false =>
    dsimp only at h
    have key : ∀ K,wpList P ops Q l (a.put o.dst undef) w -> K = (o :: l) -> wpList P ops Q K a w:=λK hk e=>by
     rw [e]
     unfold wpList
     rw [hwt,if_neg (by decide)];exact hk
    cases hd : o.dst with
    | none =>
     rw [hd] at h;exact key _ (by rw [hd]; exact sQ hT h a w ⟨G,S,hs⟩) rfl
    | some k =>
     rw [hd] at h
     dsimp only at h
     cases hk : aQ k N with
     | false=>rw [hk] at h; exact h a w ⟨G,S,hs⟩
     | true =>
      rw [hk] at h;exact key _ (by rw [hd]; exact sQ hT h _ w ⟨G,S,hs.put (v:=.v undef) hk trivial⟩) rfl
   | true =>
    dsimp only at h
    cases hd : o.dst with
    | none =>
     rw [hd] at h
     dsimp only at h
     cases hv : Vp T E L o.op with
     | none=>rw [hv] at h; exact Gg hwt (h a w ⟨G,S,hs⟩)
     | some jp =>
      obtain ⟨j,qs⟩:=jp;rw [hv] at h
      dsimp only at h
      obtain ⟨dst,op,ty,pos,af,gd⟩:=o
      dsimp only at hv hd
      subst hd
      cases op <;> first | (cases hv; done) | skip
      rename_i t x y
      simp only [Vp] at hv
      split at hv
      ·rename_i i off q hx hy
       split at hv
       ·rename_i ps hps
        split at hv
        ·rename_i qs' hq
         injection hv with hv
         injection hv with e1 e2
         subst e1 e2;obtain ⟨z,hz,rfl,rfl⟩:=mX hps;obtain ⟨h3,h4⟩:=DY hT (hst.okL z hz) (hs.ok.ev hy) hq;have e1:=hs.fr.eval (cU hx);have e2:=hs.fr.eval (cU hy);refine BZ (w':=w.setRow (G z.j) (eI qs')) hwt ?_ (sQ hT h _ _ ⟨G,S,hs.fr,hs.ok,hst.set (x8 hps) h3⟩)
         unfold execOp
         simp only [e1,e2,SV.den,h4 (hst.at z hz),aJ,aK,aF]
        ·cases hv
       ·cases hv
      ·cases hv
    | some k =>
     rw [hd] at h
     dsimp only at h
     cases hk : aQ k N with
     | false=>rw [hk] at h; exact h a w ⟨G,S,hs⟩
     | true =>
      rw [hk] at h
      dsimp only at h
      cases hv : nD T E L o.op with
      | some v =>
       rw [hv] at h;obtain ⟨h1,h2⟩:=qG hT hs.ok hst.okL hv;exact pE hwt (h2 hs.fr hst.at) (by rw [hd]; exact sQ hT h _ w ⟨G,S,hs.put hk h1⟩)
      | none =>
       rw [hv] at h
       dsimp only at h
       cases hn : Tk T E L k o.op with
       | none=>rw [hn] at h; exact Gg hwt (h a w ⟨G,S,hs⟩)
       | some tp =>
        obtain ⟨ty,ps⟩:=tp;rw [hn] at h
        dsimp only at h
        have key : OkP ps -> AE k L = true -> Ii k E = true -> (execOp a.eval o).run P w = .ok (.value (.pointer (some ⟨w.heap.size,0,none⟩))) (w.alloc (.cells (eI ps) ty)) -> wpList P ops Q (o :: l) a w:=λhp hf hfe hr=>by
         refine pE hwt hr ?_;rw [hd];have hfr:=hs.fr.put hk (.pointer (some ⟨w.heap.size,0,none⟩));refine sQ hT h _ _ ⟨_,S,?_,hs.ok.cons trivial,hst.new hf hp⟩
         show Fr N ((k,.pointer (some ⟨if k = k then w.heap.size else G k,0,none⟩)) :: fS _ E) _
         rw [if_pos rfl,C8 hfe];exact hfr
        obtain ⟨dst,op,ty',pos,af,gd⟩:=o
        dsimp only at hn hd
        subst hd
        cases op <;> first | (cases hn; done) | skip
        ·simp only [Tk] at hn
         split at hn
         ·rename_i r hr hf hfe
          injection hn with hn
          injection hn with e1 e2
          subst e1 e2;obtain ⟨h3,h4⟩:=iV hT hr;subst h4;obtain ⟨it,d,h5,_,_,h6,_⟩:=h3.info;exact key h3.2 hf hfe (dE rfl (by rw [h5]; exact h6) a w)
         ·cases hn
        ·simp only [Tk] at hn
         split at hn
         ·rename_i qs hx hf hfe
          injection hn with hn
          injection hn with e1 e2
          subst e1 e2;have e1:=hs.fr.eval (cU hx);refine key (hs.ok.ev hx) hf hfe ?_;rw [OM rfl,e1]
          rfl
         ·rename_i s hx hf hfe
          split at hn
          ·rename_i hfc
           injection hn with hn
           injection hn with e1 e2
           subst e1 e2;have e1:=hs.fr.eval (cU hx);have hso : s.Ok:=hs.ok.ev hx;obtain ⟨h5,h6⟩:=LA hso hfc;refine key (λp hp=>by rw [bK.1 hp]; exact ⟨hso,h5,h6⟩) hf hfe ?_;rw [OM rfl,e1]
           show _ = Result.ok _ (w.alloc (.cells #[s.den] _))
           rw [<-h6]
           rfl
          ·cases hn
         ·cases hn
theorem aR (hT : OkT P T) {l l' : List Oper} {E E' : SE} {L L' : List LV} (h : sR T ops N l E L = (l',E',L')) (hn : lS P b ops Q N l' ⟨E',L',R,F,M⟩) : lS P b ops Q N l ⟨E,L,R,F,M⟩:=sQ hT (by rw [h]; exact hn)
end
def cS (P : Program) (b : iI) (c : Code) (Q : Exit -> Act -> World -> Prop) (N : Nat) (e : Env) : Prop:=∀ a w,St b N e a w -> c.wp P Q a w
def kS (b : iI) (K : Act -> World -> Prop) (N : Nat) (e : Env) : Prop:=∀ a w,St b N e a w -> K a w
def FY : SE -> SE -> Prop
  | [],_=>True
  | p :: r,E=>iU E p.1 = some p.2 /\ FY r E
def Ie : List LV -> Nat -> Option LV
  | [],_=>none
  | x :: r,j=>match hH x.j j with
    | true=>some x
    | false=>Ie r j
def Dm : List LV -> List LV -> Prop
  | [],_=>True
  | x :: r,L=>Ie L x.j = some x /\ AE x.j r = true /\ Dm r L
theorem FY.ok : ∀ {E' E : SE},FY E' E -> OkE E -> OkE E'
 | [],_,_,_=>λ_ hx=>by cases hx
 | (j,u) :: r,E,hs,h=>λx hx=>by
  rcases b7.1 hx with rfl | hx
  ·exact h.get hs.1
  ·exact FY.ok hs.2 h x hx
theorem AD : ∀ {L : List LV} {j : Nat} {x : LV},Ie L j = some x -> x ∈ L /\ x.j = j
 | [],_,_,h=>by cases h
 | y :: r,j,x,h=>by
  unfold Ie at h
  split at h
  ·rename_i e
   injection h with h
   subst h;exact ⟨cB,bD e⟩
  ·exact ⟨bL _ (AD h).1,(AD h).2⟩
theorem Dm.mem : ∀ {L' L : List LV},Dm L' L -> ∀ x ∈ L',x ∈ L
 | [],_,_,_,h=>by cases h
 | y :: r,L,h,x,hx=>by
  rcases b7.1 hx with rfl | hx
  ·exact (AD h.1).1
  ·exact Dm.mem h.2.2 x hx
theorem Dm.names {L' L : List LV} (h : Dm L' L) : ∀ j ∈ fF L',j ∈ fF L:=λj hj=>by
 obtain ⟨x,hx,rfl⟩:=gP.1 hj;exact gP.2 ⟨x,h.mem x hx,rfl⟩
theorem Dm.nodup : ∀ {L' L : List LV},Dm L' L -> (fF L').Nodup
 | [],_,_=>List.nodup_nil
 | _ :: _,_,h=>Bq.2 ⟨vD h.2.1,Dm.nodup h.2.2⟩
theorem SX {G : Nat -> Nat} {l m : List Nat} (h : m.Pairwise λi j=>G i ≠ G j) (hl : ∀ j ∈ l,j ∈ m) (hd : l.Nodup) : l.Pairwise λi j=>G i ≠ G j:=by
 refine BW (λ{x y} hx hy hxy=>?_) hd;obtain ⟨p,hp,e1⟩:=rK (hl x hx);obtain ⟨q,hq,e2⟩:=rK (hl y hy);rw [<-e1,<-e2]
 rcases Nat.lt_trichotomy p q with h1 | h1 | h1
 ·exact nA.1 h p q hp hq h1
 ·subst h1; exact absurd (e1.symm.trans e2) hxy
 ·exact (nA.1 h q p hq hp h1).symm
theorem zP {G : Nat -> Nat} : ∀ {E' E : SE},FY E' E -> Sub (fS G E') (fS G E)
 | [],_,_=>trivial
 | (k,v) :: r,E,h=>⟨by rw [iK,h.1]; rfl,zP h.2⟩
structure FW (e e' : Env) : Prop where
  E : FY e'.E e.E
  L : Dm e'.L e.L
  R : e.R.Perm e'.R
  F : ∀ w,e.F w -> e.M w -> e'.F w
  M : ∀ w,e.M w -> e'.M w
section
variable {b : iI} {N : Nat} {e e' : Env} {a : Act} {w : World}
theorem StW.less {G : Nat -> Nat} {S : Nat -> Prop} {L L' : List LV} {R : List Res} {F M : World -> Prop} (h : StW b G S L R F M w) (hL : Dm L' L) : StW b G S L' R F M w:=by
 have hM : ∀ k,rW S G L' k -> rW S G L k:=λk hk=>hk.imp id λ⟨j,hj,e⟩=>⟨j,hL.names j hj,e⟩;exact ⟨λx hx=>h.var x (hL.mem x hx),SX h.apart hL.names hL.nodup,h.res,λj hj=>h.sep j (hL.names j hj),h.fact.less λk _ hk=>hk.imp id (hM k),h.fresh.less λk _ hk=>hk.imp id (hM k),h.chg,λk hk=>h.mine k (hM k hk),h.old⟩
theorem St.U6 (h : St b N e a w) (hw : FW e e') : St b N e' a w:=by
 obtain ⟨G,S,h1,h2,h3⟩:=h;refine ⟨G,S,h1.sub (zP hw.E),hw.E.ok h2,?_⟩;have h4:=(h3.less hw.L).imp hw.F hw.M;exact { h4 with res:=h4.res.perm hw.R }
end
section
variable {P : Program} {b : iI} {Q : Exit -> Act -> World -> Prop} {N : Nat} {e e' : Env}
theorem tI {K : Act -> World -> Prop} (hw : FW e e') (h : kS b K N e') : kS b K N e:=λa w hs=>h a w (hs.U6 hw)
theorem oM {c : Code} (hw : FW e e') (h : cS P b c Q N e') : cS P b c Q N e:=λa w hs=>h a w (hs.U6 hw)
theorem dJ {x y : Code} (h : ∀ K : Act -> World -> Prop,(∀ e',cS P b y Q N e' -> kS b K N e') -> cS P b x (Exit.then K Q) N e) : cS P b (.seq x y) Q N e:=λa w hs =>
 wp_seq_k λK hK=>h K (λ_ h' a' w' hs'=>hK _ _ (h' a' w' hs')) a w hs
theorem tU {id : Nat} {l : List Oper} (h : lS P b l.toArray Q N l e) : cS P b (.region id l.toArray false) Q N e:=λa w hs=>wp_region_lit (h a w hs)
theorem UB {id : Nat} {l : List Oper} {y : Code} (h : ∀ K : Act -> World -> Prop,(∀ e',cS P b y Q N e' -> kS b K N e') -> lS P b l.toArray (Exit.then K Q) N l e) : cS P b (.seq (.region id l.toArray false) y) Q N e:=dJ λK hK=>tU (h K hK)
theorem bJ {ops : Array Oper} (h : kS b (Q .normal) N e) : lS P b ops Q N [] e:=λa w hs=>dX (h a w hs)
theorem Vt {c : Operand} {x y : Code} {E : SE} {L : List LV} {R : List Res} {F M : World -> Prop} (t : Bool) (hc : evS E c = some (.b t)) (h1 : t = true -> cS P b x Q N ⟨E,L,R,F,M⟩) (h2 : t = false -> cS P b y Q N ⟨E,L,R,F,M⟩) : cS P b (.cond c x y) Q N ⟨E,L,R,F,M⟩:=λa w hs=>by
 have hs':=hs;obtain ⟨G,S,h3⟩:=hs;exact wp_cond_split (h3.fr.eval (cU hc)) (λht=>h1 ht a w hs') (λht=>h2 ht a w hs')
theorem jK {c : Operand} {x y : Code} {E : SE} {L : List LV} {R : List Res} {F M : World -> Prop} (p : Prop) [Decidable p] (hc : evS E c = some (.b (decide p))) (h1 : p -> cS P b x Q N ⟨E,L,R,F,M⟩) (h2 : ¬ p -> cS P b y Q N ⟨E,L,R,F,M⟩) : cS P b (.cond c x y) Q N ⟨E,L,R,F,M⟩ :=
 Vt (decide p) hc (λh=>h1 (of_decide_eq_true h)) (λh=>h2 (of_decide_eq_false h))
theorem E5 {c : Operand} {x y : Code} {E : SE} {L : List LV} {R : List Res} {F M : World -> Prop} (hc : evS E c = some (.v (.bool false))) (h1 : cS P b y Q N ⟨E,L,R,F,M⟩) : cS P b (.cond c x y) Q N ⟨E,L,R,F,M⟩:=λa w hs=>by
 have hs':=hs;obtain ⟨G,S,h3⟩:=hs;exact wp_cond_false (h3.fr.eval (cU hc)) (h1 a w hs')
theorem fB {id : Nat} {c : Code} (h : cS P b c (eE id Q) N e) : cS P b (.block id c) Q N e:=λa w hs=>wp_block (h a w hs)
theorem eW (h : kS b (Q .normal) N e) : cS P b .skip Q N e:=λa w hs=>wp_skip (h a w hs)
theorem mT {id : Nat} (h : kS b (Q (.exit id)) N e) : cS P b (.exit id) Q N e:=λa w hs=>wp_exit (h a w hs)
theorem eK (h : kS b (Q .ret) N e) : cS P b .ret Q N e:=λa w hs=>wp_ret (h a w hs)
theorem qS {id : Nat} (h : kS b (Q .normal) N e) : kS b (eE id Q (.exit id)) N e:=λa w hs=>by
 simp only [eE,if_true];exact h a w hs
theorem fY {id : Nat} {K : Act -> World -> Prop} (h : kS b (Q (.exit id)) N e) : kS b (Exit.then K Q (.exit id)) N e:=h
theorem oG {σ : Type} {c : Code} (m : σ -> Nat) (F : σ -> Env) (I : σ -> Prop)
  (round : ∀ s,I s -> cS P b c (Exit.then (λa' w'=>∃ s',I s' /\ St b N (F s') a' w' /\ m s' < m s) Q) N (F s)) (s0 : σ) (h0 : I s0) : cS P b (.loop c) Q N (F s0):=λa w hs=>by
 obtain ⟨G,S,h1,h2,h3⟩:=hs;refine kQ (σ:=σ × (Nat -> Nat) × (Nat -> Prop)) (m:=λx=>m x.1) (F:=λx=>fS x.2.1 (F x.1).E) (R:=λx w=>I x.1 /\ OkE (F x.1).E /\ StW b x.2.1 x.2.2 (F x.1).L (F x.1).R (F x.1).F (F x.1).M w) ?_ (s0,G,S) ⟨h0,h2,h3⟩ a h1
 rintro ⟨s,G,S⟩ w ⟨hI,hE,hW⟩ a ha
 refine wp_mono (round s hI a w ⟨G,S,ha,hE,hW⟩) λx a' w' hx=>?_
 cases x with
 | normal =>
  obtain ⟨s',hI',⟨G',S',h4,h5,h6⟩,hm⟩:=hx;exact ⟨(s',G',S'),⟨hI',h5,h6⟩,h4,hm⟩
 | exit _=>exact hx
 | goto _=>exact hx
 | ret=>exact hx
 | panic _=>exact hx
 | outgrown=>exact hx
theorem oK {σ : Type} {m : σ -> Nat} {F : σ -> Env} {I : σ -> Prop} {s : σ} (s' : σ) (hI : I s') (hm : m s' < m s) (hw : FW e (F s')) : kS b (λa' w'=>∃ s',I s' /\ St b N (F s') a' w' /\ m s' < m s) N e:=λ_ _ hs=>⟨s',hI,hs.U6 hw,hm⟩
end
inductive RV where
  | q (x : SQ)
  | t (vs : List SQ)
def RV.sv : RV -> SV
  | .q x=>.q x
  | .t vs=>.t vs
def RV.den : RV -> Value
  | .q x=>x.den
  | .t vs=>.tuple (vs.map SQ.den).toArray
theorem RV.Ai (r : RV) (G : Nat -> Nat) : r.sv.den G = r.den:=by cases r <;> rfl
abbrev RV.v (x : Value) : RV:=.q (.c (.v x))
structure wX (α : Type) where
  ret : α -> RV
  own : α -> List Res:=λ_=>[]
  p : α -> World -> Prop:=λ_ _=>True
  n : α -> World -> Prop:=λ_ _=>True
def Spec (f : FuncId) (args : List Value) (own : List Res) (F : World -> Prop) {α : Type} (post : wX α) : Prop :=
  ∀ (w : World) (S X : Nat -> Prop),gU own w S -> (∀ k,X k -> k < w.heap.size /\ ¬ S k) -> Stb (λk=>X k \/ S k) F w ->
    Calls Tryz.prog f args.toArray w λe w'=>∃ x S',e = .returned (post.ret x).den /\ (post.ret x).sv.Ok /\ Chg S w w' /\ gU (post.own x) w' S' /\ (∀ k,S' k -> k < w.heap.size -> S k) /\
      Stb (λk=>X k \/ S' k) (post.p x) w' /\ Stb (λk=>k < w.heap.size \/ S' k) (post.n x) w'
abbrev one (r : RV) : wX Unit:={ ret:=λ_=>r }
theorem Spec.pure {f : FuncId} {args : List Value} {F : World -> Prop} {r : RV} (hr : r.sv.Ok) (h : ∀ w,F w -> Calls Tryz.prog f args.toArray w λe w'=>e = .returned r.den /\ Below w.heap.size w w') : Spec f args [] F (one r):=λw _ _ _ _ hF =>
 (h w hF.now).mono λ_ _ ⟨h1,h2⟩=>⟨(),λ_=>False,h1,hr,Chg.tV h2,λ_ h=>h,λ_ h=>h.elim,λ_ _=>trivial,λ_ _=>trivial⟩
def Rv : Nat -> List SQ -> SE
  | _,[]=>[]
  | j,v :: vs=>(j,.q v) :: Rv (j + 1) vs
theorem IL (G : Nat -> Nat) : ∀ (vs : List SQ) (j : Nat),fS G (Rv j vs) = Rw j (vs.map SQ.den)
 | [],_=>rfl
 | v :: vs,j=>by rw [Rv,fS,IL G vs (j + 1)]; rfl
theorem L3 : ∀ {vs : List SQ} {j : Nat},(∀ v ∈ vs,v.Ok) -> OkE (Rv j vs)
 | [],_,_=>λ_ h=>by cases h
 | v :: vs,j,h=>OkE.cons (L3 λu hu=>h u (by simp [hu])) (h v (by simp))
def TW {α : Type} (b : iI) (post : wX α) (e : Ending) (w' : World) : Prop:=∃ x S',e = .returned (post.ret x).den /\ (post.ret x).sv.Ok /\ Chg b.D b.B w' /\ gU (post.own x) w' S' /\ (∀ k,S' k -> k < b.B.heap.size -> b.D k) /\
  Stb (λk=>b.X k \/ S' k) (post.p x) w' /\ Stb (λk=>k < b.B.heap.size \/ S' k) (post.n x) w'
theorem fD {f : FuncId} {fn : Func} {c : Code} {own : List Res} {F : World -> Prop} {α : Type} {post : wX α} (vs : List SQ) (N : Nat) (hf : Tryz.prog.funcs[f]? = some fn) (hb : fn.body = some c) (hn : vs.length + (fn.ntmps - vs.length) = N) (hv : ∀ v ∈ vs,v.Ok)
  (h : ∀ b : iI,cS Tryz.prog b c (bodyPost Tryz.prog fn (TW b post)) N ⟨Rv 0 vs,[],own,F,λ_=>True⟩) : Spec f (vs.map SQ.den) own F post:=λw S X hS hX hF=>by
 refine fI N hf hb (by simpa using hn) λa ha=>?_;refine h ⟨X,w,S⟩ a w ⟨λ_=>0,S,by rw [IL]; exact ha,L3 hv,λx hx=>(by cases hx),List.Pairwise.nil,hS,λx hx=>(by cases hx),?_,λ_ _=>trivial,Chg.refl _ _,λk hk _=>?_,hX⟩
 ·exact hF.less λk _ hk=>hk.imp id λhk=>hk.elim id λ⟨j,hj,_⟩=>by cases hj
 ·exact hk.elim id λ⟨j,hj,_⟩=>by cases hj
def E9 (T : List TyR) (E : SE) (L : List LV) : List ResultVar -> Option (List SQ)
  | []=>some []
  | .tmp t :: r=>match iU E t,E9 T E L r with
    | some (.q q),some qs=>some (q :: qs)
    | _,_=>none
  | .cell t ty :: r=>match iU E t,E9 T E L r with
    | some (.a j off),some qs=>match tW L j with
      | some ps=>match tX T ps ty off with
        | some q=>some (q :: qs)
        | none=>none
      | none=>none
    | _,_=>none
def A7 : List SQ -> RV
  | [q]=>.q q
  | qs=>.t qs
def LI (tmps : Array Value) : ResultVar -> Sem Value
  | .tmp t=>pure (tmps.getD t undef)
  | .cell p t=>do loadVar t (<-asAddr (tmps.getD p undef))
theorem sM {P : Program} {T : List TyR} (hT : OkT P T) {E : SE} {L : List LV} (hE : OkE E) (hL : OkL L) {N : Nat} {G : Nat -> Nat} {a : Act} {w : World} (ha : Fr N (fS G E) a) (hl : LAt G L w) {r : ResultVar} {rs : List ResultVar} {qs : List SQ} (h : E9 T E L (r :: rs) = some qs) :
  ∃ q qs',qs = q :: qs' /\ q.Ok /\ (LI a.tmps r).run P w = .ok q.den w /\ E9 T E L rs = some qs':=by
 cases r with
 | tmp t =>
  simp only [E9] at h
  split at h
  ·rename_i q qs' h1 h2
   injection h with h
   subst h;have e : a.tmps.getD t undef = q.den:=ha.get t _ (by rw [iK,h1]; rfl);exact ⟨q,qs',rfl,hE.get h1,by simp only [LI,aK,e],h2⟩
  ·cases h
 | cell t ty =>
  simp only [E9] at h
  split at h
  ·rename_i j off qs' h1 h2
   split at h
   ·rename_i ps hps
    split at h
    ·rename_i q hq
     injection h with h
     subst h;obtain ⟨y,hy,rfl,rfl⟩:=mX hps;obtain ⟨h5,h6⟩:=zG hT (hL y hy) hq;have e : a.tmps.getD t undef = .pointer (some ⟨G y.j,off,none⟩):=ha.get t _ (by rw [iK,h1]; rfl);have h7:=h6 (hl y hy);simp only [Instr.loadAt,Instr.sureAddr,aJ,aK,aF] at h7;exact ⟨q,qs',rfl,h5,by simp only [LI,aJ,aK,aF,e,asAddr,h7],h2⟩
    ·cases h
   ·cases h
  ·cases h
theorem Jr (fn : Func) (tmps : Array Value) : results fn tmps = (do
  let vs <-fn.results.mapM (LI tmps)
  pure (if h : vs.size = 1 then vs[0] else .tuple vs)):=by
 unfold results
 congr 2
theorem AZ {P : Program} {T : List TyR} (hT : OkT P T) {E : SE} {L : List LV} (hE : OkE E) (hL : OkL L) {N : Nat} {G : Nat -> Nat} {fn : Func} {a : Act} {w : World} (ha : Fr N (fS G E) a) (hl : LAt G L w) {rs : List ResultVar} {qs : List SQ} (hr : fn.results = rs.toArray) (hs : rs.length <= 3) (h : E9 T E L rs = some qs) :
  (A7 qs).sv.Ok /\ (results fn a.tmps).run P w = .ok (A7 qs).den w:=by
 rw [Jr,hr]
 rcases rs with _ | ⟨r1,_ | ⟨r2,_ | ⟨r3,_ | ⟨r4,rs⟩⟩⟩⟩
 ·cases h
  exact ⟨λ_ h=>(by cases h),by simp [A7,RV.den]⟩
 ·obtain ⟨q1,qs,rfl,o1,e1,h⟩:=sM hT hE hL ha hl h
  cases h
  exact ⟨o1,by simp [A7,RV.den,e1]⟩
 ·obtain ⟨q1,qs,rfl,o1,e1,h⟩:=sM hT hE hL ha hl h
  obtain ⟨q2,qs,rfl,o2,e2,h⟩:=sM hT hE hL ha hl h
  cases h
  refine ⟨λx hx=>?_,by simp [A7,RV.den,e1,e2]⟩;simp only [b7,List.not_mem_nil,or_false] at hx
  rcases hx with rfl | rfl <;> assumption
 ·obtain ⟨q1,qs,rfl,o1,e1,h⟩:=sM hT hE hL ha hl h
  obtain ⟨q2,qs,rfl,o2,e2,h⟩:=sM hT hE hL ha hl h;obtain ⟨q3,qs,rfl,o3,e3,h⟩:=sM hT hE hL ha hl h
  cases h
  refine ⟨λx hx=>?_,by simp [A7,RV.den,e1,e2,e3]⟩;simp only [b7,List.not_mem_nil,or_false] at hx
  rcases hx with rfl | rfl | rfl <;> assumption
 ·simp at hs
theorem eR {T : List TyR} (hT : OkT Tryz.prog T) {b : iI} {fn : Func} {N : Nat} {E : SE} {L : List LV} {R : List Res} {F M : World -> Prop} {α : Type} {post : wX α} {rs : List ResultVar} {qs : List SQ} (x : α) (hr : fn.results = rs.toArray) (hs : rs.length <= 3) (h : E9 T E L rs = some qs)
  (hx : post.ret x = A7 qs) (hR : post.own x = R) (hp : ∀ w,F w -> M w -> post.p x w) (hn : ∀ w,M w -> post.n x w) : kS b (bodyPost Tryz.prog fn (TW b post) .ret) N ⟨E,L,R,F,M⟩:=λa w ⟨G,S,h1,h2,h3⟩=>by
 obtain ⟨h4,h5⟩:=AZ hT h2 h3.okL h1 h3.at hr hs h;refine bodyPost_ret h5 h1.defers ⟨x,S,by rw [hx],by rw [hx]; exact h4,h3.chg,by rw [hR]; exact h3.res,λk hk hlt=>h3.mine k (.inl hk) hlt,(h3.all.imp λw hw=>hp w hw.1 hw.2).less λk _ hk=>hk.imp id .inl,(h3.fresh.imp hn).less λk _ hk=>hk.imp id .inl⟩
theorem Qn {T : List TyR} (hT : OkT Tryz.prog T) {b : iI} {fn : Func} {N : Nat} {E : SE} {L : List LV} {R : List Res} {F M : World -> Prop} {α : Type} {post : wX α} {rs : List ResultVar} {qs : List SQ} (x : α) (hr : fn.results = rs.toArray) (hs : rs.length <= 3) (h : E9 T E L rs = some qs)
  (hx : (post.ret x).den = (A7 qs).den) (ho : (post.ret x).sv.Ok) (hR : post.own x = R) (hp : ∀ w,F w -> M w -> post.p x w) (hn : ∀ w,M w -> post.n x w) : kS b (bodyPost Tryz.prog fn (TW b post) .ret) N ⟨E,L,R,F,M⟩:=λa w ⟨G,S,h1,h2,h3⟩=>by
 obtain ⟨h4,h5⟩:=AZ hT h2 h3.okL h1 h3.at hr hs h;refine bodyPost_ret h5 h1.defers ⟨x,S,by rw [hx],ho,h3.chg,by rw [hR]; exact h3.res,λk hk hlt=>h3.mine k (.inl hk) hlt,(h3.all.imp λw hw=>hp w hw.1 hw.2).less λk _ hk=>hk.imp id .inl,(h3.fresh.imp hn).less λk _ hk=>hk.imp id .inl⟩
structure View (G : Nat -> Nat) (S : Nat -> Prop) (L : List LV) (R : List Res) (F M : World -> Prop) (w : World) : Prop where
  var : ∀ x ∈ L,Blk w (G x.j) x.t (eI x.ps) /\ OkP x.ps /\ ∀ g,x.g = some g -> G x.j = g
  res : gU R w S
  fact : F w
  fresh : M w
section
variable {b : iI} {G : Nat -> Nat} {S : Nat -> Prop} {L : List LV} {R R' own : List Res} {F M F' : World -> Prop} {w w' : World} {α : Type} {post : wX α} {f : FuncId} {args : List Value}
theorem StW.view (h : StW b G S L R F M w) : View G S L R F M w:=⟨h.var,h.res,h.fact.now,h.all.now.2⟩
theorem StW.split (h : StW b G S L (own ++ R') F M w) : ∃ S1 S2,gU own w S1 /\ gU R' w S2 /\ (∀ k,S k ↔ S1 k \/ S2 k) /\ ∀ k,S1 k -> ¬ S2 k:=gU.app.1 h.res
theorem StW.WD (h : StW b G S L R F M w) {S1 S2 S' : Nat -> Prop} (hS : ∀ k,S k ↔ S1 k \/ S2 k) (hc : Chg S1 w w') (hr : gU R' w' λk=>S' k \/ S2 k) (hS' : ∀ k,S' k -> k < w.heap.size -> S1 k) : StW b G (λk=>S' k \/ S2 k) L R' F M w':=by
 have hSm : ∀ k,S1 k -> rW S G L k:=λk hk=>.inl ((hS k).2 (.inl hk));have hM : ∀ k,k < w.heap.size -> rW (λk=>S' k \/ S2 k) G L k -> rW S G L k:=λk hlt hk=>hk.imp (λhk=>(hS k).2 (hk.imp (λh=>hS' k h hlt) id)) id;refine ⟨λx hx=>⟨(hc.block _ (h.var x hx).1.lt λhs=>h.sep x.j (gP.2 ⟨x,hx,rfl⟩) ((hS _).2 (.inl hs))).trans (h.var x hx).1,(h.var x hx).2⟩,h.apart,hr,λj hj hs=>?_,?_,?_,h.chg.step hc λi hi hs=>h.mine i (hSm i hs) hi,λk hk hlt=>h.mine k (hM k (bM hlt h.chg.size) hk) hlt,h.old⟩
 ·have hlt:=h.lt (G j) (.inr ⟨j,hj,rfl⟩)
  exact h.sep j hj ((hS _).2 (hs.imp (λh=>hS' _ h hlt) id))
 ·exact h.fact.G5 (D':=Dof b.X (λk=>S' k \/ S2 k) G L) (hc.mono (D':=Dof b.X S G L) λi _ hs=>.inr (hSm i hs)) λi hi hd=>hd.imp id (hM i hi)
 ·exact h.fresh.G5 (D':=Nof b (λk=>S' k \/ S2 k) G L) (hc.mono (D':=Nof b S G L) λi _ hs=>.inr (hSm i hs)) λi hi hd=>hd.imp id (hM i hi)
theorem StW.YC (h : StW b G S L (own ++ R') F M w) {S1 S2 S' : Nat -> Prop} {own' : List Res} (h2 : gU R' w S2) (hS : ∀ k,S k ↔ S1 k \/ S2 k) (hd : ∀ k,S1 k -> ¬ S2 k) (hc : Chg S1 w w') (h1' : gU own' w' S') (hS' : ∀ k,S' k -> k < w.heap.size -> S1 k) :
  StW b G (λk=>S' k \/ S2 k) L (own' ++ R') F M w':=h.WD hS hc (gU.app.2 ⟨S',S2,h1',h2.mF λk hk=>hc.block k (h2.lt k hk) λhs=>hd k hs hk,λ_=>wZ,λk hk hk2=>hd k (hS' k hk (h2.lt k hk2)) hk2⟩) hS'
theorem StW.put (h : StW b G S L R F M w) {i : Nat} {r : Res} (hi : R[i]? = some r) : ∃ S1,r.holds w S1 /\ ∀ (r' : Res) (w' : World) (S' : Nat -> Prop),Chg S1 w w' -> r'.holds w' S' -> (∀ k,S' k -> k < w.heap.size -> S1 k) -> ∃ S'',StW b G S'' L (R.set i r') F M w':=by
 obtain ⟨S1,S2,h1,h2,h3,h4,h5⟩:=h.res.at hi;refine ⟨S1,h1,λr' w' S' hc hr hS'=>⟨_,h.WD h2 hc (h5 r' w' S' hr (λk hk=>hc.block k (h4.lt k hk) λhs=>h3 k hs hk) λk hk hk2=>h3 k (hS' k hk (h4.lt k hk2)) hk2) hS'⟩⟩
theorem StW.Wc (h : StW b G S L R F M w) (k : Below w.heap.size w w') {r : Res} {S' : Nat -> Prop} (hr : r.holds w' S') (hn : ∀ k,S' k -> w.heap.size <= k) : ∃ S'',StW b G S'' L (r :: R) F M w':=by
 refine ⟨_,h.WD (S1:=λ_=>False) (S2:=S) (S':=S') (λk=>⟨.inr,λh=>h.elim False.elim id⟩) (Chg.tV k) ⟨S',S,hr,h.res.mF λi hi=>k.block i (h.res.lt i hi),λ_=>wZ,λi hi hs=>?_⟩ λi hi hlt=>?_⟩
 ·exact jW _ (bM (h.res.lt i hs) (hn i hi))
 ·exact jW _ (bM hlt (hn i hi))
theorem StW.let (h : StW b G S L R F M w) {i : Nat} {r : Res} (hi : R[i]? = some r) : ∃ S1 S2,r.holds w S1 /\ (∀ k,S1 k -> ¬ S2 k) /\ (∀ k,S k ↔ S1 k \/ S2 k) /\ StW b G S2 L (R.eraseIdx i) F M w:=by
 obtain ⟨S1,S2,h1,h2,h3,h4,_⟩:=h.res.at hi;have hM : ∀ k,rW S2 G L k -> rW S G L k:=λk hk=>hk.imp (λh=>(h2 k).2 (.inr h)) id;exact ⟨S1,S2,h1,h3,h2,{ h with res:=h4,sep:=λj hj hs=>h.sep j hj ((h2 _).2 (.inr hs)),fact:=h.fact.less λk _ hk=>hk.imp id (hM k),fresh:=h.fresh.less λk _ hk=>hk.imp id (hM k),mine:=λk hk=>h.mine k (hM k hk) }⟩
theorem StW.Yd (h : StW b G S L (own ++ R') F M w) (hs : Spec f args own F' post) (hF : ∀ w,F w -> M w -> F' w) :
  Calls Tryz.prog f args.toArray w λe w'=>∃ x S',e = .returned (post.ret x).den /\ (post.ret x).sv.Ok /\ StW b G S' L (post.own x ++ R') (λw=>post.p x w /\ F w) (λw=>post.n x w /\ M w) w':=by
 obtain ⟨S1,S2,h1,h2,hS,hd⟩:=h.split
 have hX : ∀ k,b.X k \/ (S2 k \/ ∃ j ∈ fF L,G j = k) -> k < w.heap.size /\ ¬ S1 k:=λk hk=>by
  rcases hk with hk | hk | ⟨j,hj,rfl⟩
  ·exact ⟨bM (h.old k hk).1 h.chg.size,λhs=>(h.old k hk).2 (h.mine k (.inl ((hS k).2 (.inl hs))) (h.old k hk).1)⟩
  ·exact ⟨h2.lt k hk,λhs=>hd k hs hk⟩
  ·exact ⟨h.lt _ (.inr ⟨j,hj,rfl⟩),λhs=>h.sep j hj ((hS _).2 (.inl hs))⟩
 refine (hs w S1 (λk=>b.X k \/ (S2 k \/ ∃ j ∈ fF L,G j = k)) h1 hX ((h.all.imp λw hw=>hF w hw.1 hw.2).less λk _ hk=>?_)).mono ?_
 ·rcases hk with (hk | hk | hk) | hk
  ·exact .inl hk
  ·exact .inr (.inl ((hS k).2 (.inr hk)))
  ·exact .inr (.inr hk)
  ·exact .inr (.inl ((hS k).2 (.inl hk)))
 ·rintro e w' ⟨x,S',he,hok,hc,h1',hS',hp,hn⟩
  have h3:=h.YC h2 hS hd hc h1' hS';refine ⟨x,_,he,hok,(h3.and (p:=post.p x) (hp.less λk _ hk=>?_)).andM (p:=post.n x) (hn.less λk _ hk=>?_)⟩
  ·rcases hk with hk | (hk | hk) | hk
   ·exact .inl (.inl hk)
   ·exact .inr hk
   ·exact .inl (.inr (.inl hk))
   ·exact .inl (.inr (.inr hk))
  ·rcases hk with hk | (hk | hk) | ⟨j,hj,rfl⟩
   ·exact .inl (bM hk h.chg.size)
   ·exact .inr hk
   ·exact .inl (h2.lt k hk)
   ·exact .inl (h.lt _ (.inr ⟨j,hj,rfl⟩))
end
section
variable {b : iI} {ops : Array Oper} {Q : Exit -> Act -> World -> Prop} {N : Nat} {E : SE} {L : List LV} {R R' own : List Res} {F M F' : World -> Prop} {o : Oper} {rest : List Oper} {k : Nat} {α : Type} {post : wX α} {f : FuncId} {xs : Array Operand} {ats : Array TypeId} {svs : List SV}
theorem Db {G : Nat -> Nat} {a : Act} {w : World} (hf : Own f) (ho : o.op = .call { callee:=.value (.func f),args:=xs,argTypes:=ats }) (hx : C5 E xs.toList = some svs) (ha : Fr N (fS G E) a) :
  (execOp a.eval o).run Tryz.prog w = .ok (.enter f (svs.map (SV.den G)).toArray) w:=by
 rw [kD hf ho,oZ (ha.Im _ _ (by rw [BR hx]))]
theorem fQ (args : List Value) (hg : o.guard = none) (hd : o.dst = some k) (hk : aQ k N = true) (hf : Own f) (ho : o.op = .call { callee:=.value (.func f),args:=xs,argTypes:=ats }) (hx : C5 E xs.toList = some svs)
  (ha : ∀ G : Nat -> Nat,(∀ x ∈ L,∀ g,x.g = some g -> G x.j = g) -> svs.map (SV.den G) = args) (hs : Spec f args own F' post) (hF : ∀ w,F w -> M w -> F' w)
  (hn : ∀ x,lS Tryz.prog b ops Q N rest ⟨(k,(post.ret x).sv) :: E,L,post.own x ++ R',λw=>post.p x w /\ F w,λw=>post.n x w /\ M w⟩) : lS Tryz.prog b ops Q N (o :: rest) ⟨E,L,own ++ R',F,M⟩:=λa w ⟨G,S,h1,h2,h3⟩=>by
 have hr:=Db (w:=w) hf ho hx h1;rw [ha G λx hx=>(h3.var x hx).2.2] at hr
 unfold wpList
 rw [if_pos (by simp [aN,hg])];refine .inl ?_
 unfold nC
 rw [hr];simp only [mJ,hd];refine (h3.Yd hs hF).mono ?_
 rintro e w' ⟨x,S',rfl,hok,h4⟩
 have h5:=h1.put hk (post.ret x).den;rw [<-RV.Ai _ G] at h5;have h6:=hn x _ w' ⟨G,S',h5,h2.cons hok,h4⟩;rw [RV.Ai] at h6;exact h6
theorem Yn {r : RV} (args : List Value) (hg : o.guard = none) (hd : o.dst = some k) (hk : aQ k N = true) (hf : Own f) (ho : o.op = .call { callee:=.value (.func f),args:=xs,argTypes:=ats }) (hx : C5 E xs.toList = some svs)
  (ha : ∀ G : Nat -> Nat,(∀ x ∈ L,∀ g,x.g = some g -> G x.j = g) -> svs.map (SV.den G) = args) (hr : r.sv.Ok) (hs : ∀ G S w,View G S L R F M w -> Calls Tryz.prog f args.toArray w λe w'=>e = .returned r.den /\ Below w.heap.size w w')
  (hn : lS Tryz.prog b ops Q N rest ⟨(k,r.sv) :: E,L,R,F,M⟩) : lS Tryz.prog b ops Q N (o :: rest) ⟨E,L,R,F,M⟩:=λa w ⟨G,S,h1,h2,h3⟩=>by
 have hr':=Db (w:=w) hf ho hx h1;rw [ha G λx hx=>(h3.var x hx).2.2] at hr'
 unfold wpList
 rw [if_pos (by simp [aN,hg])];refine .inl ?_
 unfold nC
 rw [hr'];simp only [mJ,hd];refine (hs G S w h3.view).mono ?_
 rintro e w' ⟨rfl,hb⟩
 have h5:=h1.put hk r.den;rw [<-RV.Ai _ G] at h5;have h6:=hn _ w' ⟨G,S,h5,h2.cons hr,h3.later hb⟩;rw [RV.Ai] at h6;exact h6
theorem l_f {P : Program} (v : SV) (hv : v.Ok) (h : ∀ (G : Nat -> Nat) (S : Nat -> Prop) (w : World) (C0 : World -> Prop) (Q' : Act -> Prop),View G S L R F M w -> (∀ w',C0 w' -> w' = w) -> bF P ops C0 Q' [] N ((k,v.den G) :: fS G E) -> bF P ops C0 Q' [o] N (fS G E)) (hs : mE o.op = true)
  (hn : lS P b ops Q N rest ⟨(k,v) :: E,L,R,F,M⟩) : lS P b ops Q N (o :: rest) ⟨E,L,R,F,M⟩:=λa w ⟨G,S,h1,h2,h3⟩=>by
 refine pM [o] a w (by simp [hs]) (h G S w (· = w) _ h3.view (λ_ h=>h) (λa' ha'=>cQ ?_) a h1);exact hn a' w ⟨G,S,ha',h2.cons hv,h3⟩
theorem Bs {P : Program} {l : List Oper} (k : Nat) {v : SV} (v' : SV) (h : iU E k = some v) (he : v = v') (hn : lS P b ops Q N l ⟨(k,v') :: E,L,R,F,M⟩) : lS P b ops Q N l ⟨E,L,R,F,M⟩:=λa w ⟨G,S,h1,h2,h3⟩=>by
 subst he;exact hn a w ⟨G,S,h1.more (h1.get k _ (by rw [iK,h]; rfl)),h2.cons (h2.get h),h3⟩
theorem tG {P : Program} {l : List Oper} (k : Nat) {t : Bool} (q : Bool) (h : iU E k = some (.b t)) (he : t = q) (hn : lS P b ops Q N l ⟨(k,.v (.bool q)) :: E,L,R,F,M⟩) : lS P b ops Q N l ⟨E,L,R,F,M⟩:=λa w ⟨G,S,h1,h2,h3⟩=>by
 subst he;exact hn a w ⟨G,S,h1.more (h1.get k _ (by rw [iK,h]; rfl)),h2.cons trivial,h3⟩
theorem tY {P : Program} {l : List Oper} (k : Nat) {K : IntKind} {m : Int} (n : Int) (h : iU E k = some (.v (.int K m))) (he : m = n) (hn : lS P b ops Q N l ⟨(k,.v (.int K n)) :: E,L,R,F,M⟩) : lS P b ops Q N l ⟨E,L,R,F,M⟩:=Bs k _ h (by rw [he]) hn
end
def gS (P : Program) (_b : iI) (ops : Array Oper) (Q : Exit -> Act -> World -> Prop) (N : Nat) (T : List Oper) (G : Nat -> Nat) (w0 : World) (l : List (Nat × Oper)) (E : SE) : Prop:=OkE E -> gF P Bel ops (Up w0) (Bw P ops Q (Up w0) T) l N (fS G E) []
section
variable {P : Program} {b : iI} {Q : Exit -> Act -> World -> Prop} {N : Nat} {E : SE} {L : List LV} {R : List Res} {F M : World -> Prop} {id : Nat} {l : List Oper}
theorem KQ (n : Nat) (hn : n <= l.length) (hm : P.follows .mixedOrders = true) (hB : AX l.toArray n (l.drop n).length = true)
  (h : ∀ G S w0,StW b G S L R F M w0 -> gS P b l.toArray Q N (l.drop n) G w0 (idx 0 (l.take n)) E) : cS P b (.region id l.toArray true) Q N ⟨E,L,R,F,M⟩:=λa w ⟨G,S,h1,h2,h3⟩ =>
 c_g n hn hm hB (h G S w h3 h2) a h1
theorem Ch {y : Code} (n : Nat) (hn : n <= l.length) (hm : P.follows .mixedOrders = true) (hB : AX l.toArray n (l.drop n).length = true)
  (h : ∀ K : Act -> World -> Prop,(∀ e',cS P b y Q N e' -> kS b K N e') -> ∀ G S w0,StW b G S L R F M w0 -> gS P b l.toArray (Exit.then K Q) N (l.drop n) G w0 (idx 0 (l.take n)) E) : cS P b (.seq (.region id l.toArray true) y) Q N ⟨E,L,R,F,M⟩:=dJ λK hK=>KQ n hn hm hB (h K hK)
end
def EG (T : List TyR) (ops : Array Oper) (N : Nat) (L : List LV) : List (Nat × Oper) -> SE -> List (Nat × Oper) × SE
  | [],E=>([],E)
  | (i,o) :: l,E=>match qY ops N E o with
    | none=>((i,o) :: l,E)
    | some false=>match o.dst with
      | some k=>match aQ k N with
        | true=>EG T ops N L l ((k,.v undef) :: E)
        | false=>((i,o) :: l,E)
      | none=>((i,o) :: l,E)
    | some true=>match o.dst with
      | some k=>match aQ k N with
        | true=>match nD T E L o.op with
          | some v=>EG T ops N L l ((k,v) :: E)
          | none=>((i,xH o) :: l,E)
        | false=>((i,o) :: l,E)
      | none=>((i,xH o) :: l,E)
section
variable {P : Program} {b : iI} {T : List TyR} {ops : Array Oper} {Q : Exit -> Act -> World -> Prop} {N : Nat} {T' : List Oper} {G : Nat -> Nat} {S : Nat -> Prop} {L : List LV} {R : List Res} {F M : World -> Prop} {w0 : World}
theorem Df (hT : OkT P T) (hst : StW b G S L R F M w0) : ∀ {l : List (Nat × Oper)} {E : SE},gS P b ops Q N T' G w0 (EG T ops N L l E).1 (EG T ops N L l E).2 -> gS P b ops Q N T' G w0 l E
 | [],_,h=>h
 | (i,o) :: l,E,h=>by
  unfold EG at h
  cases hw : qY ops N E o with
  | none=>rw [hw] at h; exact h
  | some q =>
   rw [hw] at h
   intro hE a Fa ha hF
   have hwt:=qD ha hw
   cases q with
   | false =>
    dsimp only at h
    cases hd : o.dst with
    | none=>rw [hd] at h; exact h hE a Fa ha hF
    | some k =>
     rw [hd] at h
     dsimp only at h
     cases hk : aQ k N with
     | false=>rw [hk] at h; exact h hE a Fa ha hF
     | true =>
      rw [hk] at h
      unfold wpG
      rw [hwt,if_neg (by decide)]
      dsimp only
      rw [hd];exact Df hT hst h (hE.cons (v:=.v undef) trivial) _ _ (ha.put hk undef) (hF.up rfl)
   | true =>
    dsimp only at h
    have hgd : gS P b ops Q N T' G w0 ((i,xH o) :: l) E -> wpG P Bel ops (Up w0) (Bw P ops Q (Up w0) T') ((i,o) :: l) Fa a:=λh1=>by
     have h1:=h1 hE a Fa ha hF;obtain ⟨dst,op,ty,pos,af,gd⟩:=o
     unfold wpG at h1 ⊢
     rw [if_pos hwt];rw [if_pos (by rfl)] at h1;exact h1
    cases hd : o.dst with
    | none=>rw [hd] at h; exact hgd h
    | some k =>
     rw [hd] at h
     dsimp only at h
     cases hk : aQ k N with
     | false=>rw [hk] at h; exact h hE a Fa ha hF
     | true =>
      rw [hk] at h
      dsimp only at h
      cases hv : nD T E L o.op with
      | none=>rw [hv] at h; exact hgd h
      | some v =>
       rw [hv] at h;obtain ⟨h1,h2⟩:=qG hT hE hst.okL hv;refine cZ rfl (λa ha=>k5 (qD ha hw) (λw hw=>h2 ha (hst.later hw.1).at) ?_) a Fa ha hF;rw [hd];exact c9 (o:=o) (Df hT hst h (hE.cons h1)) _ (ha.put hk _)
theorem kO (hT : OkT P T) (hst : StW b G S L R F M w0) {l l' : List (Nat × Oper)} {E E' : SE} (h : EG T ops N L l E = (l',E')) (hn : gS P b ops Q N T' G w0 l' E') : gS P b ops Q N T' G w0 l E:=Df hT hst (by rw [h]; exact hn)
theorem CT (hst : StW b G S L R F M w0) {E : SE} (h : lS P b ops Q N T' ⟨E,L,R,F,M⟩) : gS P b ops Q N T' G w0 [] E:=λhE=>jT λw hw _ a ha=>h a w ⟨G,S,ha,hE,hst.later hw⟩
variable {E : SE} {o : Oper} {rest : List (Nat × Oper)} {i k : Nat}
theorem YI {l : List (Nat × Oper)} (k : Nat) {v : SV} (v' : SV) (h : iU E k = some v) (he : v = v') (hn : gS P b ops Q N T' G w0 l ((k,v') :: E)) : gS P b ops Q N T' G w0 l E:=λhE=>by
 subst he
 intro a Fa ha hF
 exact hn (hE.cons (hE.get h)) a Fa (ha.more (ha.get k _ (by rw [iK,h]; rfl))) hF
theorem XO {l : List (Nat × Oper)} (k : Nat) {t : Bool} (q : Bool) (h : iU E k = some (.b t)) (he : t = q) (hn : gS P b ops Q N T' G w0 l ((k,.v (.bool q)) :: E)) : gS P b ops Q N T' G w0 l E:=λhE=>by
 subst he
 intro a Fa ha hF
 exact hn (hE.cons trivial) a Fa (ha.more (ha.get k _ (by rw [iK,h]; rfl))) hF
theorem XN {l : List (Nat × Oper)} (k : Nat) {K : IntKind} {m : Int} (n : Int) (h : iU E k = some (.v (.int K m))) (he : m = n) (hn : gS P b ops Q N T' G w0 l ((k,.v (.int K n)) :: E)) : gS P b ops Q N T' G w0 l E:=YI k _ h (by rw [he]) hn
end
def SQ.cl (q : SQ) : List Value:=q.den.cells.toList
def SQ.iN : SQ -> List Pt
  | .c s=>[.one s]
  | .p ps=>ps
def OkF {α : Type} (k : Nat) (fe : α -> SQ) (l : List α) : Prop:=∀ x ∈ l,OkP (fe x).iN /\ (fe x).cl.length = k
theorem SQ.IA {q : SQ} (h : OkP q.iN) : q.cl = (eI q.iN).toList:=by
 cases q with
 | c s=>exact congrArg Array.toList (h _ cB).2.2
 | p ps=>rfl
theorem SQ.Hn {q : SQ} (h : OkP q.iN) : q.Ok:=by
 cases q with
 | c s=>exact (h _ cB).1
 | p ps=>exact h
theorem SQ.WC {q : SQ} (h : OkP q.iN) : ∀ v ∈ q.cl,v.oneCell' = true:=by
 rw [SQ.IA h];exact h.one
def Rd {α : Type} (k : Nat) (fe : α -> SQ) (A : Option Addr) (c : Nat) (l : List α) (w : World) : Prop :=
  l.length <= c /\ c <= 9223372036854775807 /\ (A = none -> c = 0) /\ OkF k fe l /\ (0 < l.length -> ∃ b o,A = some ⟨b,o,none⟩ /\ b < w.heap.size /\ ∀ (i : Nat) x,l[i]? = some x -> w.rangeAt b (o + k * i) (fe x).cl)
section
variable {α : Type} {k c : Nat} {fe : α -> SQ} {A : Option Addr} {l : List α} {w w' : World}
theorem Rd.mF (h : Rd k fe A c l w) (hs : w.heap.size <= w'.heap.size) (hk : ∀ b,A.map (·.block) = some b -> b < w.heap.size -> w'.heap[b]? = w.heap[b]?) : Rd k fe A c l w':=by
 obtain ⟨h1,h2,h3,h4,h5⟩:=h;refine ⟨h1,h2,h3,h4,λhl=>?_⟩;obtain ⟨b,o,e,hb,hr⟩:=h5 hl;subst e;exact ⟨b,o,rfl,bM hb hs,λi x hi j v hj=>(World.cell?_of_block (w:=w) (w':=w') (a:=⟨b,o + k * i + j,none⟩) (hk b rfl hb)).trans (hr i x hi j v hj)⟩
instance : Pst (Rd k fe A c l):=⟨λ_ _ h hb=>h.mF hb.size λb _ hlt=>hb.block b hlt⟩
theorem Rd.later (h : Rd k fe A c l w) (hb : Below w.heap.size w w') : Rd k fe A c l w':=h.mF hb.size λb _ hlt=>hb.block b hlt
theorem Rd.nil (k : Nat) (fe : α -> SQ) (w : World) : Rd k fe none 0 [] w:=⟨aH _,by decide,λ_=>rfl,λ_ h=>(by cases h),λh=>absurd h (jW _)⟩
theorem Rd.take (h : Rd k fe A c l w) (n : Nat) : Rd k fe A c (l.take n) w:=by
 obtain ⟨h1,h2,h3,h4,h5⟩:=h;refine ⟨j6 (List.length_take_le' _ _) h1,h2,h3,λx hx=>h4 x (List.mem_of_mem_take hx),λhl=>?_⟩;obtain ⟨b,o,e,hb,hr⟩:=h5 (by rw [aY] at hl; omega);refine ⟨b,o,e,hb,λi x hi=>hr i x ?_⟩;rw [iJ] at hi
 split at hi
 ·exact hi
 ·cases hi
end
def qL (A : Option Addr) (n : Nat) : Value:=match A with
  | some a=>.pointer (some ⟨a.block,a.off + n,none⟩)
  | none=>.pointer none
structure EL where
  k1 : Nat
  k2 : Nat
  sz : Nat
  t : TypeId
  A : Option Addr
  n : Nat
  c : Nat
  i : Int
def Iu (T : List TyR) (N : Nat) (E : SE) (o1 o2 : Oper) : Option EL:=match o1.dst,o2.dst,o1.op,o2.op with
  | some k1,some k2,.indexAddr t x y,.load t' (.tmp z)=>match hH z k1,aQ k1 N,aQ k2 N,o6 T t with
    | true,true,true,some r=>match r.el with
      | some e=>match o6 T e,evS E x,evS E y with
        | some re,some (.q (.c (.v (.slice A n c)))),some (.q (.c (.v (.int _ i))))=>some ⟨k1,k2,mW re.zero,t',A,n,c,i⟩
        | _,_,_=>none
      | none=>none
    | _,_,_,_=>none
  | _,_,_,_=>none
theorem UX {P : Program} {r : TyR} (h : r.ok P) {e : TypeId} (he : r.el = some e) : P.underlying r.t = some (.slice e):=by
 obtain ⟨it,d,h5,h6, -, -, -, -,h7, -⟩:=h.info;rw [he] at h7
 cases d <;> first | (cases h7; done) | skip
 injection h7 with h7
 subst h7;exact h6
theorem Mw {P : Program} {t e : TypeId} {k : Nat} (ht : P.underlying t = some (.slice e)) (he : (P.info? e).map (·.size) = some k) (b o n c : Nat) (K : IntKind) (i : Nat) (hi : i < n) (w : World) :
  (lN t (.slice (some ⟨b,o,none⟩) n c) (.int K (i : Int))).run P w = .ok (.pointer (some ⟨b,o + k * i,none⟩)) w:=by
 cases hq : P.info? e with
 | none=>simp [hq] at he
 | some ie =>
  have hs : ie.size = k:=by simpa [hq] using he
  have h1 : (i : Int) < (n : Int):=by omega
  have h2 : (0 : Int) <= (i : Int):=by omega
  simp [lN,asIntOf,run_underlying ht,sizeOf,typeInfo,hq,hs,iS,iH,hi]
theorem C7 {P : Program} {T : List TyR} (hT : OkT P T) {N : Nat} {E : SE} {o1 o2 : Oper} {u : EL} (h : Iu T N E o1 o2 = some u) :
  o1.dst = some u.k1 /\ o2.dst = some u.k2 /\ aQ u.k1 N = true /\ aQ u.k2 N = true /\ o2.op = .load u.t (.tmp u.k1) /\ ∃ t e x y K,o1.op = .indexAddr t x y /\ P.underlying t = some (.slice e) /\ (P.info? e).map (·.size) = some u.sz /\ evS E x = some (.v (.slice u.A u.n u.c)) /\ evS E y = some (.v (.int K u.i)):=by
 unfold Iu at h
 split at h
 ·rename_i k1 k2 t x y t' z e1 e2 e3 e4
  split at h
  ·rename_i r e5 e6 e7 hr
   split at h
   ·rename_i e he
    split at h
    ·rename_i re A n c K i hre hx hy
     injection h with h
     subst h;obtain ⟨h1,rfl⟩:=iV hT hr;have h2:=iV hT hre;clear hre;obtain ⟨h2,rfl⟩:=h2;obtain ⟨it,d,h5,_,h6, -⟩:=h2.info;have e5:=bD e5;subst e5;exact ⟨e1,e2,e6,e7,e4,_,_,x,y,K,e3,UX h1 he,by rw [h5,eZ,h6],hx,hy⟩
    ·cases h
   ·cases h
  ·cases h
 ·cases h
section
variable {α : Type} {fe : α -> SQ} {l : List α} {P : Program} {T : List TyR} {b : iI} {ops : Array Oper} {Q : Exit -> Act -> World -> Prop} {N : Nat} {E : SE} {L : List LV} {R : List Res} {F M : World -> Prop} {o1 o2 : Oper} {u : EL}
theorem C6 (hT : OkT P T) (h : Iu T N E o1 o2 = some u) (j : Nat) {x : α} (hj : u.i = (j : Int)) (hx : l[j]? = some x) (hn : u.n = l.length) (hl : tX T (fe x).iN u.t 0 = some (fe x)) :
  ∀ {G : Nat -> Nat} {a : Act} {w : World},Rd u.sz fe u.A u.c l w -> Fr N (fS G E) a -> (execOp a.eval o1).run P w = .ok (.value (qL u.A (u.sz * j))) w /\ (fe x).Ok /\
   ∀ a' : Act,a'.eval (.tmp u.k1) = qL u.A (u.sz * j) -> (execOp a'.eval o2).run P w = .ok (.value (fe x).den) w:=by
 intro G a w hrd ha
 obtain ⟨h1,h2,h3,h4,h5,t,e,y1,y2,K,h6,h7,h8,h9,h10⟩:=C7 hT h;have hlt:=(dI.1 hx).1;obtain ⟨_,_,_,hok,hr⟩:=hrd;obtain ⟨bk,o,hA,hb,hr⟩:=hr (by omega);obtain ⟨hp,hsz⟩:=hok x (gK hx);have e1:=ha.eval (cU h9);have e2:=ha.eval (cU h10)
 have hq : qL u.A (u.sz * j) = .pointer (some ⟨bk,o + u.sz * j,none⟩):=by rw [hA]; rfl
 refine ⟨?_,SQ.Hn hp,λa' ha'=>?_⟩
 ·have hi:=Mw (P:=P) h7 h8 bk o u.n u.c K j (by omega) w
  rw [<-hA,<-hj] at hi
  unfold execOp
  simp only [h6,e1,e2,SV.den,SQ.den,SC.den,hi,aJ,aK,aF,hq]
 ·obtain ⟨_,h12⟩:=CK hT hp hl
  have h13:=h12 (w:=w) (g:=bk) (base:=o + u.sz * j) (by rw [<-SQ.IA hp]; exact hr j x hx);rw [Nat.add_zero] at h13
  unfold execOp
  simp only [h5,ha',hq,h13,aJ,aK,aF]
theorem GY (A : Option Addr) (n : Nat) : (SV.o (qL A n)).Ok:=by
 cases A <;> exact ⟨rfl,rfl⟩
theorem Gi {ops : Array Oper} {N k : Nat} {E : SE} {o : Oper} {v : SV} {q : Bool} (h : qY ops N ((k,.v undef) :: E) o = some q) : qY ops N ((k,v) :: E) o = some q:=by
 unfold qY at h ⊢
 cases hgd : o.guard with
 | none=>rw [hgd] at h; exact h
 | some jb =>
  obtain ⟨j,b⟩:=jb;rw [hgd] at h
  dsimp only at h ⊢
  cases ht : (ops[j]?).bind (·.dst) with
  | none=>rw [ht] at h; cases h
  | some t =>
   rw [ht] at h
   dsimp only at h ⊢
   cases hN : aQ t N with
   | false=>rw [hN] at h; cases h
   | true =>
    rw [hN] at h;simp only [iU] at h ⊢
    cases he : hH k t with
    | true=>rw [he] at h; cases h
    | false=>rw [he] at h; exact h
theorem qQ {rest : List Oper} (hT : OkT P T) (h : Iu T N E o1 o2 = some u) (hg : o1.guard = none) (hw : qY ops N ((u.k1,.v undef) :: E) o2 = some true) (j : Nat) {x : α} (hj : u.i = (j : Int)) (hx : l[j]? = some x) (hn : u.n = l.length) (hl : tX T (fe x).iN u.t 0 = some (fe x))
  (hrd : ∀ G S w,View G S L R F M w -> Rd u.sz fe u.A u.c l w) (hk : lS P b ops Q N rest ⟨(u.k2,.q (fe x)) :: (u.k1,.o (qL u.A (u.sz * j))) :: E,L,R,F,M⟩) : lS P b ops Q N (o1 :: o2 :: rest) ⟨E,L,R,F,M⟩:=λa w ⟨G,S,h1,h2,h3⟩=>by
 obtain ⟨d1,d2,n1,n2,ho2, -⟩:=C7 hT h;obtain ⟨r1,hok,r2⟩:=C6 hT h j hj hx hn hl (hrd G S w h3.view) h1
 have hw1 : aN o1 (yielded ops a.tmps) = true:=by simp [aN,hg]
 refine pE hw1 r1 ?_;rw [d1];have f1 : Fr N (fS G ((u.k1,.o (qL u.A (u.sz * j))) :: E)) (a.put (some u.k1) (qL u.A (u.sz * j))):=h1.put n1 _;refine pE (qD (E:=(u.k1,.o (qL u.A (u.sz * j))) :: E) f1 (Gi hw)) (r2 _ (rU h1 n1 _)) ?_;rw [d2];exact hk _ w ⟨G,S,f1.put n2 _,(h2.cons (GY _ _)).cons hok,h3⟩
theorem Qy {T' : List Oper} {G : Nat -> Nat} {S : Nat -> Prop} {w0 : World} {rest : List (Nat × Oper)} {i1 i2 : Nat} (hT : OkT P T) (hst : StW b G S L R F M w0) (h : Iu T N E o1 o2 = some u) (hg : o1.guard = none) (hw : qY ops N ((u.k1,.v undef) :: E) o2 = some true) (j : Nat) {x : α} (hj : u.i = (j : Int)) (hx : l[j]? = some x) (hn : u.n = l.length) (hl : tX T (fe x).iN u.t 0 = some (fe x))
  (hrd : ∀ G S w,View G S L R F M w -> Rd u.sz fe u.A u.c l w) (hk : gS P b ops Q N T' G w0 rest ((u.k2,.q (fe x)) :: (u.k1,.o (qL u.A (u.sz * j))) :: E)) : gS P b ops Q N T' G w0 ((i1,o1) :: (i2,o2) :: rest) E:=λhE=>by
 obtain ⟨d1,d2,n1,n2,ho2, -⟩:=C7 hT h;have hv:=λw (hw : Up w0 w)=>hrd G S w (hst.later hw).view
 have hok : (fe x).Ok:=by
  obtain ⟨_,_,_,h4,_⟩:=hv w0 (Up.refl _);exact SQ.Hn (h4 x (gK hx)).1
 refine cZ rfl (λa ha=>k5 (v:=qL u.A (u.sz * j)) (by simp [aN,hg]) (λw hw=>(C6 hT h j hj hx hn hl (hv w hw.1) ha).1) ?_);rw [d1];have f1 : Fr N (fS G ((u.k1,.o (qL u.A (u.sz * j))) :: E)) (a.put (some u.k1) (qL u.A (u.sz * j))):=ha.put n1 _;refine c9 (o:=o1) (E:=fS G ((u.k1,.o (qL u.A (u.sz * j))) :: E)) (cZ rfl (λa2 ha2=>k5 (v:=(fe x).den) (qD (E:=(u.k1,.o (qL u.A (u.sz * j))) :: E) ha2 (Gi hw)) (λw hw=>?_) ?_)) _ f1
 ·have hev : a2.eval (.tmp u.k1) = qL u.A (u.sz * j):=ha2.get u.k1 _ (by rw [fS,fU,if_pos rfl]; rfl)
  exact (C6 hT h j hj hx hn hl (hv w hw.1) ha).2.2 a2 hev
 ·rw [d2]
  exact c9 (o:=o2) (hk ((hE.cons (GY _ _)).cons hok)) _ (ha2.put n2 _)
end
def gH {α : Type} (fe : α -> SQ) (l : List α) : List Value:=l.flatMap λx=>(fe x).cl
section
variable {α : Type} {k : Nat} {fe : α -> SQ} {l m : List α}
theorem Nk : gH fe (l ++ m) = gH fe l ++ gH fe m:=List.flatMap_append
theorem sK (h : OkF k fe l) : (gH fe l).length = l.length * k:=by
 induction l with
 | nil=>simp [gH]
 | cons x l ih =>
  have h1:=ih λy hy=>h y (by simp [hy]);have h2:=(h x (by simp)).2;simp only [gH,List.flatMap_cons,aI,cC] at h1 ⊢;rw [h1,h2,Nat.add_mul]
  omega
theorem Nj (h : OkF k fe l) : ∀ v ∈ gH fe l,v.oneCell' = true:=λv hv=>by
 obtain ⟨x,hx,hv⟩:=List.mem_flatMap.1 hv;exact SQ.WC (h x hx).1 v hv
theorem Bi (h : OkF k fe l) {i : Nat} {x : α} (hi : l[i]? = some x) : ∃ A Z,gH fe l = A ++ ((fe x).cl ++ Z) /\ A.length = k * i /\ ∀ y : α,gH fe (l.set i y) = A ++ ((fe y).cl ++ Z):=by
 induction l generalizing i with
 | nil=>simp at hi
 | cons y l ih =>
  cases i with
  | zero =>
   simp only [List.getElem?_cons_zero,bG] at hi;subst hi;exact ⟨[],gH fe l,by simp [gH],rfl,λz=>by simp [gH]⟩
  | succ i =>
   obtain ⟨A,Z,h1,h2,h3⟩:=ih (λz hz=>h z (by simp [hz])) (by simpa using hi);refine ⟨(fe y).cl ++ A,Z,?_,?_,λz=>?_⟩
   ·rw [aU,<-h1]
    simp [gH]
   ·rw [aI,h2,(h y (by simp)).2,Nat.mul_succ]
    omega
   ·rw [aU,<-h3 z]
    simp [gH]
theorem OkF.app (h : OkF k fe l) (h' : OkF k fe m) : OkF k fe (l ++ m):=λx hx=>(List.mem_append.1 hx).elim (h x) (h' x)
end
def gA {α : Type} (lo : Nat) (e : TypeId) (k : Nat) (fe : α -> SQ) (A : Option Addr) (c : Nat) (l : List α) : Res where
  holds w S:=OkF k fe l /\ w.ownsRow lo e k (.slice A l.length c) l.length (gH fe l) /\ ∀ j,S j ↔ A.map (·.block) = some j
  mF:=λ{w w' S} ⟨h1,h2,h3⟩ hk=>by
    refine ⟨h1,⟨h2.1,?_⟩,h3⟩
    rcases h2.2 with h4 | ⟨g,cap,cur,hv,hb,hg,hr⟩
    · exact .inl h4
    · injection hv with h5 h6 h7
      refine .inr ⟨g,cap,cur,by rw [h5,h7],hb,?_,hr⟩
      rw [hk g ((h3 g).2 (by rw [h5]; rfl))]
      exact hg
  lt:=λ{w S} ⟨_,h2,h3⟩ j hj=>by
    have h4:=(h3 j).1 hj
    cases A with
    | none=>cases h4
    | some a =>
      have:=(h2.lt a.block rfl).2
      simp only [eZ,bG] at h4
      rw [<-h4]
      exact this
section
variable {α : Type} {lo e k c : Nat} {fe : α -> SQ} {A : Option Addr} {l : List α} {w : World} {S : Nat -> Prop}
theorem gA.rd (h : (gA lo e k fe A c l).holds w S) : Rd k fe A c l w:=by
 obtain ⟨h1,h2,h3⟩:=h
 rcases h2.2 with ⟨h4,h5⟩ | ⟨g,cap,cur,hv,hb,hg,hn,hm,hs,ht⟩
 ·injection h4 with h6 h7 h8
  have:=cM h5;subst h6 h8 this;exact Rd.nil _ _ _
 ·injection hv with h6 h7 h8
  subst h6 h8;refine ⟨hn,by simp only [maxLen] at hm; omega,λh=>(by cases h),h1,λ_=>⟨g,0,rfl,(Array.getElem?_eq_some_iff.1 hg).1,λi x hi j v hj=>?_⟩⟩;obtain ⟨B,Z,h9,h10,_⟩:=Bi h1 hi;have hB : Blk w g e cur:=hg;rw [hB.cell,cK];have hlt:=(dI.1 hj).1
  have h11 : (gH fe l)[k * i + j]? = some v:=by
   rw [h9,List.getElem?_append_right (by omega),h10,Nat.add_sub_cancel_left,List.getElem?_append_left hlt];exact hj
  rw [<-ht,iJ] at h11
  split at h11
  ·simpa using h11
  ·cases h11
theorem gA.nil (lo e k : Nat) (fe : α -> SQ) (w : World) : (gA lo e k fe none 0 []).holds w λ_=>False :=
 ⟨λ_ h=>(by cases h),⟨by simp [gH],.inl ⟨rfl,rfl⟩⟩,λj=>⟨False.elim,λh=>(by cases h)⟩⟩
theorem gA.inb (h : (gA lo e k fe A c l).holds w S) : ∀ a,A = some a -> lo <= a.block /\ a.block < w.heap.size:=λa ha=>h.2.1.lt a.block (by rw [ha]; rfl)
end
theorem Ig {k : Nat} : ∀ (vs : List Value) (A Z : List Value) (i : Nat),A.length = i * k -> Z.length = k * vs.length -> (∀ v ∈ vs,v.cells.size = k) ->
  gN (λi=>some (i * k,k)) (A ++ Z).toArray ((vs.zipIdx i).map λx=>(x.2,x.1)) = some (A ++ vs.flatMap λv=>v.cells.toList).toArray
 | [],A,Z,i,_,hZ,_=>by
  obtain rfl:=cM (show Z.length = 0 by simpa using hZ)
  rfl
 | v :: vs,A,Z,i,hA,hZ,hl=>by
  rw [cC,Nat.mul_succ] at hZ;have hk:=hl v (by simp);have e : Z = Z.take k ++ Z.drop k:=(List.take_append_drop k Z).symm
  have tk : (Z.take k).length = k:=by rw [aY]; omega
  rw [e,List.zipIdx_cons,cA];rw [C1 (λi=>some (i * k,k)) i k A (Z.take k) (Z.drop k) v.cells.toList _ v (by rw [hA]) (by rw [dL,hk]) tk (by simp),<-aU];rw [Ig vs (A ++ v.cells.toList) (Z.drop k) (i + 1) (by rw [aI,show v.cells.toList.length = k from by rw [dL,hk],hA,Nat.succ_mul]) (by rw [List.length_drop]; omega) (λu hu=>hl u (by simp [hu]))];rw [List.flatMap_cons,aU]
theorem BM {P : Program} {t e : TypeId} {ie : TypeInfo} {z : Value} {k : Nat} (ht : P.underlying t = some (.slice e)) (hi : P.info? e = some ie) (hz : ie.zero = some z) (hs : ie.size = k) (vs : List Value) (n : Nat) (parts : Array (Nat × Value)) (hp : parts.toList = (vs.zipIdx 0).map λx=>(x.2,x.1)) (hn : vs.length = n) (h0 : 0 < n * k) (h24 : n * k <= 16777216) (hl : ∀ v ∈ vs,v.cells.size = k) (w : World) :
  (Instr.buildSlice t n parts).run P w = .ok (.slice (some ⟨w.heap.size,0,none⟩) n n) (w.alloc (.cells (vs.flatMap λv=>v.cells.toList).toArray e)):=by
 subst hs;refine run_buildSlice w t e n parts _ ie z ht hi hz (by omega) (by omega) ?_;rw [hp]
 have hsz : ((BE (n * ie.size)).map (z.cells[· % z.cells.size]!)).size = n * ie.size:=by simp
 generalize (BE (n * ie.size)).map (z.cells[· % z.cells.size]!) = Z at *;have:=Ig (k:=ie.size) vs [] Z.toList 0 (by simp) (by rw [dL,hsz,hn,iH]) hl
 rwa [kG,kG,Array.toArray_toList] at this
def slS (T : List TyR) (t : TypeId) : Option (TypeId × Nat × Nat):=match o6 T t with
  | some r=>match r.el with
    | some e=>match o6 T e with
      | some re=>some (e,mW re.zero,re.w)
      | none=>none
    | none=>none
  | none=>none
theorem xS {P : Program} {T : List TyR} (hT : OkT P T) {t e : TypeId} {k bs : Nat} (h : slS T t = some (e,k,bs)) : P.underlying t = some (.slice e) /\ ∃ ie z,P.info? e = some ie /\ ie.zero = some z /\ ie.size = k /\ ie.bytes = bs /\ z.cells.size = k /\ ∃ zs,OkP zs /\ z.cells = eI zs /\ ∃ r,o6 T e = some r /\ r.zero = zs:=by
 unfold slS at h
 split at h
 ·rename_i r hr
  split at h
  ·rename_i e' he
   split at h
   ·rename_i re hre
    injection h with h
    injection h with e1 h
    injection h with e2 e3
    subst e1 e2 e3;obtain ⟨h1,rfl⟩:=iV hT hr;have hre':=hre;have h2:=iV hT hre;clear hre;obtain ⟨h2,rfl⟩:=h2;obtain ⟨it,d,h5,_,h6,h7,_,_,_,_,_,h8⟩:=h2.info
    cases hz : it.zero with
    | none=>rw [hz] at h7; cases h7
    | some z =>
     rw [hz] at h7;simp only [eZ,bG] at h7;exact ⟨UX h1 he,it,z,h5,hz,h6,h8,by rw [h7,h2.2.size],re.zero,h2.2,h7,re,hre',rfl⟩
   ·cases h
  ·cases h
 ·cases h
theorem gA.new {α : Type} {lo e k : Nat} {fe : α -> SQ} {l : List α} (w : World) (hlo : lo <= w.heap.size) (h : OkF k fe l) (hm : l.length <= 9223372036854775807) : (gA lo e k fe (some ⟨w.heap.size,0,none⟩) l.length l).holds (w.alloc (.cells (gH fe l).toArray e)) λj=>j = w.heap.size :=
 ⟨h,⟨sK h,.inr ⟨w.heap.size,l.length,(gH fe l).toArray,rfl,hlo,heap_alloc_new w _,aH _,by simp only [maxLen]; omega,by simp [sK h],List.take_of_length_le (Nat.le_of_eq (sK h))⟩⟩,λj=>by simp [eq_comm]⟩
section
variable {α : Type} {fe : α -> SQ} {l : List α} {P : Program} {T : List TyR} {b : iI} {ops : Array Oper} {Q : Exit -> Act -> World -> Prop} {N : Nat} {E : SE} {L : List LV} {R : List Res} {F M : World -> Prop} {o o2 : Oper} {rest : List Oper} {k e sz bs : Nat} {t : TypeId}
theorem DB (hg : o.guard = none) {a : Act} : aN o (yielded ops a.tmps) = true:=by simp [aN,hg]
theorem wH {G : Nat -> Nat} {a : Act} (ha : Fr N (fS G E) a) : ∀ (l : List (Nat × Operand)) (m : List (Value × Nat)),l.map (λp=>(p.1,(evS E p.2).map (SV.den G))) = m.map (λx=>(x.2,some x.1)) -> l.map (λ(i,x)=>(i,a.eval x)) = m.map λx=>(x.2,x.1)
 | [],[],_=>rfl
 | [],_ :: _,h=>by cases h
 | _ :: _,[],h=>by cases h
 | p :: l,u :: m,h=>by
  simp only [cA,List.cons.injEq,Prod.mk.injEq] at h ⊢;refine ⟨⟨h.1.1,?_⟩,wH ha l m h.2⟩
  cases hx : evS E p.2 with
  | none=>rw [hx] at h; cases h.1.2
  | some v =>
   rw [hx] at h;simp only [eZ,bG] at h;exact (ha.eval (cU hx)).trans h.1.2
theorem pF {n : Nat} {parts : Array (Nat × Operand)} (hT : OkT P T) (lo : Nat) (l : List α) (hg : o.guard = none) (hd : o.dst = some k) (hk : aQ k N = true) (ho : o.op = .buildSlice t n parts) (hs : slS T t = some (e,sz,bs))
  (hp : ∀ G : Nat -> Nat,parts.toList.map (λp=>(p.1,(evS E p.2).map (SV.den G))) = ((l.map λx=>(fe x).den).zipIdx 0).map λx=>(x.2,some x.1)) (hn : l.length = n) (h0 : 0 < n * sz) (h24 : n * sz <= 16777216) (hok : OkF sz fe l) (hlo : lo <= b.B.heap.size)
  (hc : ∀ A,lS P b ops Q N rest ⟨(k,.v (.slice A n n)) :: E,L,gA lo e sz fe A n l :: R,F,M⟩) : lS P b ops Q N (o :: rest) ⟨E,L,R,F,M⟩:=λa w ⟨G,S,h1,h2,h3⟩=>by
 obtain ⟨ht,ie,z,hi,hz,hsz,hbs,hzs,_⟩:=xS hT hs
 have hr:=BM (P:=P) ht hi hz hsz (l.map λx=>(fe x).den) n (parts.map λ(i,x)=>(i,a.eval x)) (by rw [sW]; exact wH h1 _ _ (hp G)) (by rw [List.length_map,hn]) h0 h24 (λv hv=>by
  obtain ⟨x,hx,rfl⟩:=gP.1 hv;have:=(hok x hx).2
  rwa [SQ.cl,dL] at this) w
 have e1 : ((l.map λx=>(fe x).den).flatMap λv=>v.cells.toList) = gH fe l:=by rw [List.flatMap_map]; rfl
 rw [e1] at hr;subst hn
 refine pE (v:=.slice (some ⟨w.heap.size,0,none⟩) l.length l.length) (w':=w.alloc (.cells (gH fe l).toArray e)) (DB hg) (by
  unfold execOp
  simp only [ho,aJ,hr,aF,aK]) ?_
 rw [hd];have hsz' : 0 < sz:=Nat.pos_of_mul_pos_left h0
 obtain ⟨S',h4⟩:=h3.Wc ((Below.refl w.heap.size w).alloc (aH _) _) (gA.new (lo:=lo) w (j6 hlo h3.chg.size) hok (by
  have:=Nat.le_mul_of_pos_right l.length hsz'
  omega)) (λj hj=>Nat.le_of_eq hj.symm)
 exact hc _ _ _ ⟨G,S',h1.put hk _,h2.cons trivial,h4⟩
theorem OE {c : Code} (lo e sz : Nat) (fe : α -> SQ) (h : cS P b c Q N ⟨E,L,gA lo e sz fe none 0 [] :: R,F,M⟩) : cS P b c Q N ⟨E,L,R,F,M⟩:=λa w ⟨G,S,h1,h2,h3⟩=>by
 obtain ⟨S',h4⟩:=h3.Wc (Below.refl _ _) (gA.nil lo e sz fe w) (λ_ h=>h.elim);exact h a w ⟨G,S',h1,h2,h4⟩
end
structure PU where
  k1 : Nat
  k2 : Nat
  t : TypeId
  A : Option Addr
  n : Nat
  c : Nat
  q : SQ
def O2 (N : Nat) (E : SE) (o1 o2 : Oper) : Option PU:=match o1.dst,o2.dst,o1.op,o2.op with
  | some k1,some k2,.buildSlice t 1 ⟨[(0,z)]⟩,.call { callee:=.builtin .append,args:=⟨[s,.tmp y]⟩,argTypes:=⟨[t1,t2]⟩ }=>match hH y k1,hH t1 t,hH t2 t,aQ k1 N,aQ k2 N with
    | true,true,true,true,true=>match evS E z,evS E s,iU E k1 with
      | some (.q q),some (.q (.c (.v (.slice A n c)))),none=>some ⟨k1,k2,t,A,n,c,q⟩
      | _,_,_=>none
    | _,_,_,_,_=>none
  | _,_,_,_=>none
theorem O1 {N : Nat} {E : SE} {o1 o2 : Oper} {u : PU} (h : O2 N E o1 o2 = some u) : o1.dst = some u.k1 /\ o2.dst = some u.k2 /\ aQ u.k1 N = true /\ aQ u.k2 N = true /\ iU E u.k1 = none /\
  ∃ z s,o1.op = .buildSlice u.t 1 #[(0,z)] /\ o2.op = .call { callee:=.builtin .append,args:=#[s,.tmp u.k1],argTypes:=#[u.t,u.t] } /\ evS E z = some (.q u.q) /\ evS E s = some (.v (.slice u.A u.n u.c)):=by
 unfold O2 at h
 split at h
 ·rename_i k1 k2 t z s y t1 t2 e1 e2 e3 e4
  split at h
  ·rename_i e5 e6 e7 e8 e9
   split at h
   ·rename_i q A n c e10 e11 e12
    injection h with h
    subst h;obtain rfl:=bD e5;obtain rfl:=bD e6;obtain rfl:=bD e7;exact ⟨e1,e2,e8,e9,e12,z,s,e3,e4,e10,e11⟩
   ·cases h
  ·cases h
 ·cases h
theorem Oo {w : World} {lo e k n : Nat} {v : Value} {xs : List Value} (h : w.ownsRow lo e k v n xs) : ∃ A c,v = .slice A n c:=by
 rcases h.2 with ⟨h1,h2⟩ | ⟨g,cap,cur,hv,_⟩
 ·exact ⟨none,0,by rw [h1,h2]⟩
 ·exact ⟨_,_,hv⟩
theorem uV (A : Option Addr) (n c : Nat) : (Value.slice A n c).ownBlock = A.map (·.block):=by cases A <;> rfl
theorem gA.grow {α : Type} {P : Program} {T : List TyR} (hT : OkT P T) {t e : TypeId} {lo sz bs c d : Nat} {fe : α -> SQ} {A : Option Addr} {l m : List α} {ad : Addr} {w : World} {S : Nat -> Prop} (ty : TypeId) (hs : slS T t = some (e,sz,bs)) (h0 : 0 < sz) (h : (gA lo e sz fe A c l).holds w S) (hok : OkF sz fe m)
  (hcells : ∀ j u,(gH fe m)[j]? = some u -> w.cell? (ad.add j) = some u) (hb : (l.length + m.length) * bs <= 140737488355328) (hm : l.length + m.length <= 9223372036854775807 - 64) (hlo : lo <= w.heap.size) :
  ∃ A' c' w' S',(Builtin.append_ #[t,t] ty #[.slice A l.length c,.slice (some ad) m.length d]).run P w = .ok (.slice A' (l ++ m).length c') w' /\ Chg S w w' /\ (gA lo e sz fe A' c' (l ++ m)).holds w' S' /\ ∀ k,S' k -> k < w.heap.size -> S k:=by
 obtain ⟨ht,ie,z,hi,hz,hsz,hbs,hzs,_⟩:=xS hT hs;obtain ⟨h1,h2,h3⟩:=h;obtain ⟨v',w',hr,ho,hg,_,hat⟩:=run_append_own_at (P:=P) w lo t ty e ie z sz bs ht hi hz hsz hbs hzs h0 _ l.length (gH fe l) h2 ad m.length d (gH fe m) (sK hok) hcells (Nj hok) (by simp only [maxLen]; omega) hb hlo;rw [<-Nk] at ho;obtain ⟨A',c',rfl⟩:=Oo ho;rw [uV] at hg hat;rw [uV] at hat;rw [<-aI] at hr ho;refine ⟨A',c',w',λj=>A'.map (·.block) = some j,hr,(Chg.PI hg).mono λi _ hi=>(h3 i).2 hi,⟨h1.app hok,ho,λ_=>wZ⟩,λj hj hlt=>?_⟩
 rcases hat with e1 | e1
 ·exact (h3 j).2 (e1.symm.trans hj)
 ·rw [hj] at e1
  injection e1 with e1
  omega
section
variable {α : Type} {fe : α -> SQ} {l : List α} {P : Program} {T : List TyR} {b : iI} {ops : Array Oper} {Q : Exit -> Act -> World -> Prop} {N : Nat} {E : SE} {L : List LV} {R : List Res} {F M : World -> Prop} {o1 o2 : Oper} {rest : List Oper} {e sz bs lo : Nat} {u : PU}
theorem Qe (hT : OkT P T) (i : Nat) (x : α) (h : O2 N E o1 o2 = some u) (hg : o1.guard = none) (hg2 : o2.guard = none) (hs : slS T u.t = some (e,sz,bs)) (hq : fe x = u.q) (hi : R[i]? = some (gA lo e sz fe u.A u.c l)) (hn : u.n = l.length) (hx : OkP (fe x).iN /\ (fe x).cl.length = sz) (h0 : 0 < sz) (h24 : sz <= 16777216)
  (hb : (l.length + 1) * bs <= 140737488355328) (hm : l.length < 9223372036854775000) (hlo : lo <= b.B.heap.size)
  (hc : ∀ A' c',lS P b ops Q N rest ⟨(u.k2,.v (.slice A' (l ++ [x]).length c')) :: E,L,R.set i (gA lo e sz fe A' c' (l ++ [x])),F,M⟩) : lS P b ops Q N (o1 :: o2 :: rest) ⟨E,L,R,F,M⟩:=λa w ⟨G,S,h1,h2,h3⟩=>by
 obtain ⟨d1,d2,n1,n2,hf,z,s,p1,p2,p3,p4⟩:=O1 h;obtain ⟨ht,ie,zz,hie,hz,hsz,hbs,hzs,_⟩:=xS hT hs
 have hok : OkF sz fe [x]:=λy hy=>by rw [bK.1 hy]; exact hx
 have hfl : gH fe [x] = (fe x).cl:=by simp [gH]
 have e1:=h1.eval (cU p3)
 have hr:=BM (P:=P) ht hie hz hsz [(fe x).den] 1 #[(0,a.eval z)] (by rw [e1,hq]; rfl) rfl (by omega) (by omega) (λv hv=>by
  rw [bK.1 hv];have:=hx.2
  rwa [SQ.cl,dL] at this) w
 have e2 : ([(fe x).den].flatMap λv=>v.cells.toList) = gH fe [x]:=by simp [gH,SQ.cl]
 rw [e2] at hr;have hal:=(Below.refl w.heap.size w).alloc (aH _) (.cells (gH fe [x]).toArray e)
 refine pE (v:=.slice (some ⟨w.heap.size,0,none⟩) 1 1) (w':=w.alloc (.cells (gH fe [x]).toArray e)) (DB hg) (by
  unfold execOp
  simp only [p1,dW,cA,gB,aJ,hr,aF,aK]) ?_
 rw [d1];have hnew:=Blk.new w e (gH fe [x]).toArray;have h4:=h3.later hal;generalize w.alloc (.cells (gH fe [x]).toArray e) = w1 at *;have f1:=h1.Fc (k:=u.k1) (by rw [iK,hf]; rfl) (.slice (some ⟨w.heap.size,0,none⟩) 1 1);have e3:=f1.eval (cU p4);have e4 : (a.put (some u.k1) (.slice (some ⟨w.heap.size,0,none⟩) 1 1)).eval (.tmp u.k1) = .slice (some ⟨w.heap.size,0,none⟩) 1 1:=rU h1 n1 _;obtain ⟨S1,h5,hput⟩:=h4.put hi
 obtain ⟨A',c',w',S',hr2,hch,ho,hS'⟩:=gA.grow hT (d:=1) (ad:=⟨w.heap.size,0,none⟩) o2.type hs h0 h5 hok (λj v hj=>by
  rw [iS,hnew.cell,cK]
  simpa using hj) hb (by simp; omega) (j6 hlo h4.chg.size)
 obtain ⟨S'',h6⟩:=hput _ _ _ hch ho hS'
 have hr3 : (Builtin.append_ #[u.t,u.t] o2.type #[.slice u.A u.n u.c,.slice (some ⟨w.heap.size,0,none⟩) 1 1]).run P w1 = .ok (.slice A' (l ++ [x]).length c') w':=by rw [hn]; exact hr2
 refine pE (v:=.slice A' (l ++ [x]).length c') (w':=w') (DB hg2) (by
  unfold execOp
  simp only [p2,resolve,invoke,builtin,aJ,aK,aF,dW,cA,gB,e3,e4,SV.den,SQ.den,SC.den,hr3]) ?_
 rw [d2];exact hc A' c' _ _ ⟨G,S'',f1.put n2 _,h2.cons trivial,h6⟩
end
theorem Jt {α : Type} {lo e k c : Nat} {fe : α -> SQ} {A : Option Addr} {l : List α} {L : List LV} {R : List Res} {F M : World -> Prop} (i : Nat) (hi : R[i]? = some (gA lo e k fe A c l)) : ∀ G S w,View G S L R F M w -> Rd k fe A c l w:=λ_ _ _ h=>by
 obtain ⟨S1,_,h1,_⟩:=h.res.at hi;exact gA.rd h1
theorem fX {α : Type} {k c : Nat} {fe : α -> SQ} {A : Option Addr} {l : List α} {L : List LV} {R : List Res} {F M : World -> Prop} (h : ∀ w,F w -> M w -> Rd k fe A c l w) : ∀ G S w,View G S L R F M w -> Rd k fe A c l w:=λ_ _ w hv=>h w hv.fact hv.fresh
section
variable {α : Type} {fe : α -> SQ} {b : iI} {G : Nat -> Nat} {S : Nat -> Prop} {L : List LV} {R : List Res} {F M : World -> Prop} {w : World} {lo e k c : Nat} {A : Option Addr} {l : List α}
theorem StW.free (h : StW b G S L R F M w) {i : Nat} (hi : R[i]? = some (gA lo e k fe A c l)) : ∃ S',StW b G S' L (R.eraseIdx i) (λw=>Rd k fe A c l w /\ F w) M w:=by
 obtain ⟨S1,S2,h1,h2,h3,h4⟩:=h.let hi;refine ⟨S2,h4.and λw' hw=>gA.rd h1 |>.mF hw.size λg hg hlt=>hw.block g hlt ?_⟩;have hS1 : S1 g:=(h1.2.2 g).2 hg
 rintro (hx | hx | ⟨j,hj,rfl⟩)
 ·exact (h.old g hx).2 (h.mine g (.inl ((h3 g).2 (.inl hS1))) (h.old g hx).1)
 ·exact h2 g hS1 hx
 ·exact h.sep j hj ((h3 _).2 (.inl hS1))
end
section
variable {α : Type} {fe : α -> SQ} {P : Program} {b : iI} {ops : Array Oper} {Q : Exit -> Act -> World -> Prop} {N : Nat} {E : SE} {L : List LV} {R : List Res} {F M : World -> Prop} {lo e k c : Nat} {A : Option Addr} {l : List α}
theorem tH {l' : List Oper} (i : Nat) (hi : R[i]? = some (gA lo e k fe A c l)) (h : lS P b ops Q N l' ⟨E,L,R.eraseIdx i,λw=>Rd k fe A c l w /\ F w,M⟩) : lS P b ops Q N l' ⟨E,L,R,F,M⟩:=λa w ⟨G,S,h1,h2,h3⟩=>by
 obtain ⟨S',h4⟩:=h3.free hi;exact h a w ⟨G,S',h1,h2,h4⟩
theorem xT {x : Code} (i : Nat) (hi : R[i]? = some (gA lo e k fe A c l)) (h : cS P b x Q N ⟨E,L,R.eraseIdx i,λw=>Rd k fe A c l w /\ F w,M⟩) : cS P b x Q N ⟨E,L,R,F,M⟩:=λa w ⟨G,S,h1,h2,h3⟩=>by
 obtain ⟨S',h4⟩:=h3.free hi;exact h a w ⟨G,S',h1,h2,h4⟩
end
def TY : List TyR:=[
  { t:=2,kind:=0,zero:=[.one (.v (.int .i64 0))],ik:=some .i64,w:=8 },
  { t:=3,kind:=0,zero:=[.one (.v (.int .i64 0))],ik:=some .i64,w:=8 },
  { t:=4,kind:=0,zero:=[.one (.v (.bool false))],w:=1 },
  { t:=5,kind:=0,zero:=[.one (.v (.int .u8 0))],ik:=some .u8,w:=1 },
  { t:=9,kind:=0,zero:=[.one (.v (.string ⟨#[]⟩))],w:=16 },
  { t:=12,kind:=0,zero:=[.one (.v (.int .u64 0))],ik:=some .u64,w:=8 },
  { t:=13,kind:=2,zero:=[.one (.v (.string ⟨#[]⟩)),.one (.v (.int .u64 0))],w:=24 },
  { t:=21,kind:=0,zero:=[.one (.v (.int .i32 0))],ik:=some .i32,w:=4 },
  { t:=22,kind:=0,zero:=[.one (.v (.slice none 0 0))],el:=some 40,w:=24 },
  { t:=23,kind:=0,zero:=[.one (.v (.slice none 0 0))],el:=some 5,w:=24 },
  { t:=27,kind:=1,zero:=[.agg 32 (By (aE 32 0)).toArray],w:=32 },
  { t:=30,kind:=0,zero:=[.one (.v (.slice none 0 0))],el:=some 23,w:=24 },
  { t:=31,kind:=0,zero:=[.one (.v (.int .i64 0))],ik:=some .i64,w:=8 },
  { t:=38,kind:=1,zero:=[.agg 64 (By (aE 64 0)).toArray],w:=64 },
  { t:=39,kind:=2,zero:=[.agg 32 (By (aE 32 0)).toArray,.one (.v (.int .i64 0)),.agg 32 (By (aE 32 0)).toArray,.agg 64 (By (aE 64 0)).toArray],w:=136 },
  { t:=40,kind:=2,zero:=[.agg 32 (By (aE 32 0)).toArray,.one (.v (.int .i64 0)),.agg 32 (By (aE 32 0)).toArray,.agg 64 (By (aE 64 0)).toArray],w:=136 },
  { t:=42,kind:=0,zero:=[.one (.v (.slice none 0 0))],el:=some 27,w:=24 },
  { t:=48,kind:=0,zero:=[.one (.v (.int .u64 0))],ik:=some .u64,w:=8 },
  { t:=53,kind:=0,zero:=[.one (.v (.int .u64 0))],ik:=some .u64,w:=8 },
  { t:=54,kind:=0,zero:=[.one (.v (.pointer none))],pt:=true,w:=8 },
  { t:=60,kind:=0,zero:=[.one (.v (.pointer none))],pt:=true,w:=8 },
  { t:=61,kind:=2,zero:=[.one (.v (.slice none 0 0)),.one (.v (.int .i64 0)),.one (.v (.int .i64 0))],w:=40 },
  { t:=62,kind:=2,zero:=[.one (.v (.slice none 0 0)),.one (.v (.int .i64 0)),.one (.v (.int .i64 0))],w:=40 },
  { t:=66,kind:=0,zero:=[.one (.v (.int .u8 0))],ik:=some .u8,w:=1 },
  { t:=70,kind:=1,zero:=[.agg 8 (By (aE 8 0)).toArray],w:=8 },
  { t:=72,kind:=0,zero:=[.one (.v (.int .u32 0))],ik:=some .u32,w:=4 },
  { t:=73,kind:=1,zero:=[.agg 8 (aE 8 (.int .u32 0)).toArray],w:=32 },
  { t:=78,kind:=0,zero:=[.one (.v (.slice none 0 0))],el:=some 53,w:=24 },
  { t:=79,kind:=0,zero:=[.one (.v (.slice none 0 0))],el:=some 48,w:=24 },
  { t:=83,kind:=2,zero:=[.one (.v (.slice none 0 0)),.one (.v (.int .i64 0))],w:=32 },
  { t:=84,kind:=2,zero:=[.one (.v (.slice none 0 0)),.one (.v (.int .i64 0))],w:=32 },
  { t:=91,kind:=1,zero:=[.agg 4 (aE 4 (.int .u64 0)).toArray],w:=32 },
  { t:=92,kind:=2,zero:=[.agg 4 (aE 4 (.int .u64 0)).toArray],w:=32 },
  { t:=93,kind:=2,zero:=[.agg 4 (aE 4 (.int .u64 0)).toArray],w:=32 },
  { t:=97,kind:=0,zero:=[.one (.v (.slice none 0 0))],el:=some 42,w:=24 },
  { t:=100,kind:=1,zero:=[.agg 8 (aE 8 (.int .u64 0)).toArray],w:=64 },
  { t:=102,kind:=1,zero:=[.agg 64 (aE 64 (.int .u32 0)).toArray],w:=256 },
  { t:=105,kind:=1,zero:=[.agg 80 (aE 80 (.int .u64 0)).toArray],w:=640 },
  { t:=114,kind:=1,zero:=[.agg 5 (aE 5 (.int .u64 0)).toArray],w:=40 },
  { t:=115,kind:=2,zero:=[.agg 5 (aE 5 (.int .u64 0)).toArray],w:=40 },
  { t:=116,kind:=2,zero:=[.agg 5 (aE 5 (.int .u64 0)).toArray],w:=40 },
  { t:=117,kind:=2,zero:=[.agg 5 #[.int .u64 0,.int .u64 0,.int .u64 0,.int .u64 0,.int .u64 0],.agg 5 #[.int .u64 0,.int .u64 0,.int .u64 0,.int .u64 0,.int .u64 0],.agg 5 #[.int .u64 0,.int .u64 0,.int .u64 0,.int .u64 0,.int .u64 0],.agg 5 #[.int .u64 0,.int .u64 0,.int .u64 0,.int .u64 0,.int .u64 0]],w:=160 },
  { t:=118,kind:=2,zero:=[.agg 5 #[.int .u64 0,.int .u64 0,.int .u64 0,.int .u64 0,.int .u64 0],.agg 5 #[.int .u64 0,.int .u64 0,.int .u64 0,.int .u64 0,.int .u64 0],.agg 5 #[.int .u64 0,.int .u64 0,.int .u64 0,.int .u64 0,.int .u64 0],.agg 5 #[.int .u64 0,.int .u64 0,.int .u64 0,.int .u64 0,.int .u64 0]],w:=160 },
  { t:=129,kind:=1,zero:=[.agg 128 (By (aE 128 0)).toArray],w:=128 },
  { t:=136,kind:=2,zero:=[.agg 5 #[.int .u64 0,.int .u64 0,.int .u64 0,.int .u64 0,.int .u64 0],.agg 5 #[.int .u64 0,.int .u64 0,.int .u64 0,.int .u64 0,.int .u64 0],.agg 5 #[.int .u64 0,.int .u64 0,.int .u64 0,.int .u64 0,.int .u64 0],.agg 5 #[.int .u64 0,.int .u64 0,.int .u64 0,.int .u64 0,.int .u64 0]],w:=160 },
  { t:=137,kind:=2,zero:=[.agg 5 #[.int .u64 0,.int .u64 0,.int .u64 0,.int .u64 0,.int .u64 0],.agg 5 #[.int .u64 0,.int .u64 0,.int .u64 0,.int .u64 0,.int .u64 0],.agg 5 #[.int .u64 0,.int .u64 0,.int .u64 0,.int .u64 0,.int .u64 0],.agg 5 #[.int .u64 0,.int .u64 0,.int .u64 0,.int .u64 0,.int .u64 0]],w:=160 },
  { t:=138,kind:=1,zero:=[.agg 160 #[.int .u64 0,.int .u64 0,.int .u64 0,.int .u64 0,.int .u64 0,.int .u64 0,.int .u64 0,.int .u64 0,.int .u64 0,.int .u64 0,.int .u64 0,.int .u64 0,.int .u64 0,.int .u64 0,.int .u64 0,.int .u64 0,.int .u64 0,.int .u64 0,.int .u64 0,.int .u64 0,.int .u64 0,.int .u64 0,.int .u64 0,.int .u64 0,.int .u64 0,.int .u64 0,.int .u64 0,.int .u64 0,.int .u64 0,.int .u64 0,.int .u64 0,.int .u64 0,.int .u64 0,.int .u64 0,.int .u64 0,.int .u64 0,.int .u64 0,.int .u64 0,.int .u64 0,.int .u64 0,.int .u64 0,.int .u64 0,.int .u64 0,.int .u64 0,.int .u64 0,.int .u64 0,.int .u64 0,.int .u64 0,.int .u64 0,.int .u64 0,.int .u64 0,.int .u64 0,.int .u64 0,.int .u64 0,.int .u64 0,.int .u64 0,.int .u64 0,.int .u64 0,.int .u64 0,.int .u64 0,.int .u64 0,.int .u64 0,.int .u64 0,.int .u64 0,.int .u64 0,.int .u64 0,.int .u64 0,.int .u64 0,.int .u64 0,.int .u64 0,.int .u64 0,.int .u64 0,.int .u64 0,.int .u64 0,.int .u64 0,.int .u64 0,.int .u64 0,.int .u64 0,.int .u64 0,.int .u64 0,.int .u64 0,.int .u64 0,.int .u64 0,.int .u64 0,.int .u64 0,.int .u64 0,.int .u64 0,.int .u64 0,.int .u64 0,.int .u64 0,.int .u64 0,.int .u64 0,.int .u64 0,.int .u64 0,.int .u64 0,.int .u64 0,.int .u64 0,.int .u64 0,.int .u64 0,.int .u64 0,.int .u64 0,.int .u64 0,.int .u64 0,.int .u64 0,.int .u64 0,.int .u64 0,.int .u64 0,.int .u64 0,.int .u64 0,.int .u64 0,.int .u64 0,.int .u64 0,.int .u64 0,.int .u64 0,.int .u64 0,.int .u64 0,.int .u64 0,.int .u64 0,.int .u64 0,.int .u64 0,.int .u64 0,.int .u64 0,.int .u64 0,.int .u64 0,.int .u64 0,.int .u64 0,.int .u64 0,.int .u64 0,.int .u64 0,.int .u64 0,.int .u64 0,.int .u64 0,.int .u64 0,.int .u64 0,.int .u64 0,.int .u64 0,.int .u64 0,.int .u64 0,.int .u64 0,.int .u64 0,.int .u64 0,.int .u64 0,.int .u64 0,.int .u64 0,.int .u64 0,.int .u64 0,.int .u64 0,.int .u64 0,.int .u64 0,.int .u64 0,.int .u64 0,.int .u64 0,.int .u64 0,.int .u64 0,.int .u64 0,.int .u64 0,.int .u64 0,.int .u64 0,.int .u64 0,.int .u64 0]],w:=1280 },
  { t:=153,kind:=0,zero:=[.one (.v (.slice none 0 0))],el:=some 141,w:=24 },
  { t:=158,kind:=2,zero:=[.one (.v (.int .u64 0)),.one (.v (.int .u64 0))],w:=16 },
  { t:=159,kind:=2,zero:=[.one (.v (.int .u64 0)),.one (.v (.int .u64 0))],w:=16 },
  { t:=171,kind:=0,zero:=[.one (.v (.pointer none))],pt:=true,w:=8 }]
theorem aD : OkT Tryz.prog TY:=VG (by kernel_rfl) (by kernel_rfl)
end Go.Proofs.YtfkchihlchlfdaaGreatDoor
