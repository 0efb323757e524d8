import Derived.Test.YtfkchihlchlfdaaGreatDoorMd
import Derived.Test.YtfkchihlchlfdaaGreatDoorMa
import Derived.Test.YtfkchihlchlfdaaGreatDoorMb
import Derived.Test.YtfkchihlchlfdaaGreatDoorMc
import Derived.Laws.OwnMore
set_option maxRecDepth 100000
set_option maxHeartbeats 4000000
open Bool renaming and_eq_true->aW
open Fin renaming ext->nU
open Go.Addr renaming add_mid->iS
open Go.Ending renaming returned->oB
open Go.Result renaming andThen_ok->aF
open Go.Sem renaming run_bind->aJ,run_pure->aK
open List renaming replicate->aE,length_append->aI,append_assoc->aU,getElem?_eq_getElem->aX,length_take->aY,size_toArray->a9,mem_singleton->bK,append_nil->bV,mem_cons->b7,map_cons->cA,length_cons->cC,eq_nil_of_length_eq_zero->cM,take_append_drop->dR,map_toArray->dW,ext_getElem->fR,length_drop->fW,map_nil->gB,mem_map->gP,mem_range'_1->oA,range'->uC,getElem_mem->yJ,nodup_cons->Bq,flatten_append->DQ
open Nat renaming le_refl->aH,blt->aQ,eq_of_beq_eq_true->bD,mod_eq_of_lt->bR,lt_of_le_of_lt->bX,zero_le->bZ,pow_succ->dD,mod_lt->eJ,add_zero->fN,div_le_self->gD,mul_comm->iH,le_trans->j6,mul_assoc->k6,two_pow_pos->l5,mul_le_mul->m9,le_of_dvd->nP,dvd_of_mod_eq_zero->pB,pow_add->pL,one_mul->rZ,add_mul->sA,gcd->sB,add_mul_mod_self_left->uA,dvd_trans->uH,pow_mul->xJ,pow_le_pow_right->xK,mul_mod->xL,eq_of_testBit_eq->Ac,add_sub_cancel'->Bp,eq_zero_or_pos->BU,div_lt_of_lt_mul->DM,sub_mod_eq_zero_of_mod_eq->F4,testBit_xor->F7,testBit_two_pow_sub_succ->F8,eq_zero_of_dvd_of_lt->L9,mod_eq_zero_of_dvd->NL
open Option.some renaming injEq->bG,inj->fV
open UInt8 renaming ofNat->cR,toNat_ofNat'->Bn
namespace Go.Proofs.YtfkchihlchlfdaaGreatDoor
open Go.RowKit Go.IntWalk
section
variable {P : Program} {b : iI} {T : List TyR} {Q : Exit -> Act -> World -> Prop} {N : Nat} {E E' E2 : SE} {L L' L2 : List LV} {R : List Res} {F M : World -> Prop}
theorem bB {id : Nat} {l : List Oper} {y : Code} (hT : OkT P T) (h : sR T l.toArray N l E L = ([],E',L')) (hn : cS P b y Q N ⟨E',L',R,F,M⟩) : cS P b (.seq (.region id l.toArray false) y) Q N ⟨E,L,R,F,M⟩ :=
 UB λ_ hK=>aR hT h (bJ (hK _ hn))
theorem l7 {id : Nat} {l : List Oper} (hT : OkT P T) (h : sR T l.toArray N l E L = ([],E',L')) (hn : kS b (Q .normal) N ⟨E',L',R,F,M⟩) : cS P b (.region id l.toArray false) Q N ⟨E,L,R,F,M⟩ :=
 tU (aR hT h (bJ hn))
theorem rP {c : Code} (φ : Prop) (h : ∀ w,F w -> M w -> φ) (hn : φ -> cS P b c Q N ⟨E,L,R,F,M⟩) : cS P b c Q N ⟨E,L,R,F,M⟩:=λa w hs=>by
 have hs':=hs;obtain ⟨G,S,h1,h2,h3⟩:=hs;exact hn (h w h3.all.now.1 h3.all.now.2) a w hs'
theorem Aw {ops : Array Oper} {l : List Oper} (φ : Prop) (h : ∀ w,F w -> M w -> φ) (hn : φ -> lS P b ops Q N l ⟨E,L,R,F,M⟩) : lS P b ops Q N l ⟨E,L,R,F,M⟩:=λa w hs=>by
 have hs':=hs;obtain ⟨G,S,h1,h2,h3⟩:=hs;exact hn (h w h3.all.now.1 h3.all.now.2) a w hs'
theorem bS {id : Nat} {l l' : List Oper} {y : Code} (hT : OkT P T) (h : sR T l.toArray N l E L = (l',E',L')) (hn : ∀ K : Act -> World -> Prop,(∀ e',cS P b y Q N e' -> kS b K N e') -> lS P b l.toArray (Exit.then K Q) N l' ⟨E',L',R,F,M⟩) : cS P b (.seq (.region id l.toArray false) y) Q N ⟨E,L,R,F,M⟩ :=
 UB λK hK=>aR hT h (hn K hK)
end
def yH (g : Nat) (t : TypeId) (ps : List Pt) (w : World) : Prop:=Blk w g t (eI ps) /\ OkP ps
instance {g : Nat} {t : TypeId} {ps : List Pt} : Pst (yH g t ps):=⟨λ_ _ h hb=>⟨h.1.later hb,h.2⟩⟩
def DJ (g : Nat) (t : TypeId) (ps : List Pt) : Res where
  holds w S:=yH g t ps w /\ ∀ j,S j ↔ j = g
  mF:=λ⟨h1,h2⟩ hk=>⟨⟨(hk g ((h2 g).2 rfl)).trans h1.1,h1.2⟩,h2⟩
  lt:=λ⟨h1,h2⟩ j hj=>by rw [(h2 j).1 hj]; exact h1.1.lt
section
variable {P : Program} {b : iI} {T : List TyR} {ops : Array Oper} {Q : Exit -> Act -> World -> Prop} {N : Nat} {E : SE} {L : List LV} {R : List Res} {F M : World -> Prop} {o : Oper} {k g off : Nat} {t : TypeId} {x : Operand} {ty : TypeId} {ps : List Pt} {q : SQ}
theorem CJ (hT : OkT P T) (ho : o.op = .load t x) (hx : evS E x = some (.v (.pointer (some ⟨g,off,none⟩)))) (hl : tX T ps t off = some q) {G : Nat -> Nat} {a : Act} {w : World} (ha : Fr N (fS G E) a) (h : yH g ty ps w) : q.Ok /\ (execOp a.eval o).run P w = .ok (.value q.den) w:=by
 obtain ⟨h1,h2⟩:=zG hT h.2 hl;refine ⟨h1,?_⟩;have e:=ha.eval (cU hx)
 unfold execOp
 simp only [ho,e,SV.den,SQ.den,SC.den,h2 h.1,aJ,aK,aF]
theorem tZ {rest : List Oper} (hT : OkT P T) (hg : o.guard = none) (hd : o.dst = some k) (hk : aQ k N = true) (ho : o.op = .load t x) (hx : evS E x = some (.v (.pointer (some ⟨g,off,none⟩)))) (hl : tX T ps t off = some q) (h : ∀ G S w,View G S L R F M w -> yH g ty ps w)
  (hn : lS P b ops Q N rest ⟨(k,.q q) :: E,L,R,F,M⟩) : lS P b ops Q N (o :: rest) ⟨E,L,R,F,M⟩:=λa w ⟨G,S,h1,h2,h3⟩=>by
 obtain ⟨h4,h5⟩:=CJ hT ho hx hl h1 (h G S w h3.view);refine pE (DB hg) h5 ?_;rw [hd];exact hn _ w ⟨G,S,h1.put hk _,h2.cons h4,h3⟩
theorem Bg {T' : List Oper} {G : Nat -> Nat} {S : Nat -> Prop} {w0 : World} {rest : List (Nat × Oper)} {i : Nat} (hT : OkT P T) (hst : StW b G S L R F M w0) (hg : o.guard = none) (hd : o.dst = some k) (hk : aQ k N = true) (ho : o.op = .load t x) (hx : evS E x = some (.v (.pointer (some ⟨g,off,none⟩)))) (hl : tX T ps t off = some q) (h : ∀ G S w,View G S L R F M w -> yH g ty ps w)
  (hn : gS P b ops Q N T' G w0 rest ((k,.q q) :: E)) : gS P b ops Q N T' G w0 ((i,o) :: rest) E:=λhE =>
 cZ rfl (λa ha=>k5 (v:=q.den) (by simp [Region.wanted,hg]) (λw hw=>(CJ hT ho hx hl ha (h G S w (hst.later hw.1).view)).2) (by
  rw [hd]
  exact c9 (o:=o) (hn (hE.cons (zG hT (h G S w0 hst.view).2 hl).1)) _ (ha.put hk _)))
end
theorem iO {g : Nat} {t : TypeId} {ps : List Pt} {L : List LV} {R : List Res} {F M : World -> Prop} (i : Nat) (hi : R[i]? = some (DJ g t ps)) : ∀ G S w,View G S L R F M w -> yH g t ps w:=λ_ _ _ h=>by
 obtain ⟨S1,_,h1,_⟩:=h.res.at hi;exact h1.1
theorem PK {g : Nat} {t : TypeId} {ps : List Pt} {L : List LV} {R : List Res} {F M : World -> Prop} (h : ∀ w,F w -> M w -> yH g t ps w) : ∀ G S w,View G S L R F M w -> yH g t ps w:=λ_ _ w hv=>h w hv.fact hv.fresh
def eB (x : UInt8) : SQ:=.c (.v (.int .u8 (x.toNat : Int)))
def eY (n : Nat) (l : List UInt8) : SQ:=.p [.agg n (By l).toArray]
theorem X0 (x : UInt8) : OkP (eB x).iN /\ (eB x).cl.length = 1:=⟨λp hp=>by rw [bK.1 hp]; exact ⟨trivial,rfl,rfl⟩,rfl⟩
theorem nJ {n : Nat} {l : List UInt8} (h : l.length = n) : OkP (eY n l).iN /\ (eY n l).cl.length = n:=by
 have h1 : (By l).toArray.size = n:=by rw [a9,cD,h]
 exact ⟨λp hp=>by rw [bK.1 hp]; exact ⟨h1,kU l⟩,by rw [SQ.cl,Array.length_toList]; exact h1⟩
theorem uY (l : List UInt8) : OkF 1 eB l:=λx _=>X0 x
theorem UH {n : Nat} {ls : List (List UInt8)} (h : ∀ l ∈ ls,l.length = n) : OkF n (eY n) ls:=λl hl=>nJ (h l hl)
theorem CX : ∀ l : List UInt8,gH eB l = By l
 | []=>rfl
 | x :: l=>by
  have:=CX l;simp only [gH,List.flatMap_cons] at this ⊢;rw [this]
  rfl
theorem Rd.sb {A : Option Addr} {c : Nat} {l : List UInt8} {w : World} (h : Rd 1 eB A c l w) : SB w (.slice A l.length c) l:=by
 obtain ⟨h1,h2,h3,_,h5⟩:=h;refine ⟨A,c,rfl,h1,h2,h3,λhl=>?_⟩;obtain ⟨b,o,e,hb,hr⟩:=h5 hl;refine ⟨⟨b,o,none⟩,e,bZ _,hb,λj x hx=>?_⟩;have:=hr j x hx 0 (.int .u8 (x.toNat : Int)) rfl;rw [iS]
 simpa using this
theorem Rd.Xu {A : Option Addr} {c n : Nat} {l : List UInt8} {w : World} (h : SB w (.slice A n c) l) : n = l.length /\ Rd 1 eB A c l w:=by
 obtain ⟨A',c',e,h1,h2,h3,h4⟩:=h
 injection e with e1 e2 e3
 subst e1 e2 e3;refine ⟨rfl,h1,h2,h3,uY l,λhl=>?_⟩;obtain ⟨ad,e,_,h6,h7⟩:=h4 hl;obtain ⟨b,o,sp⟩:=ad
 have hsp : sp = none:=by
  have h8:=h7 0 l[0] (aX hl)
  cases sp with
  | none=>rfl
  | some s =>
   unfold World.cell? Addr.add at h8
   simp only [if_true] at h8
   split at h8
   ·simp at h8
   ·cases h8
 subst hsp;refine ⟨b,o,e,h6,λi x hi j v hj=>?_⟩;have h8:=h7 i x hi;rw [iS] at h8
 cases j with
 | zero =>
  have e : v = .int .u8 (x.toNat : Int):=by
   have : (eB x).cl[0]? = some (.int .u8 (x.toNat : Int)):=rfl;rw [this] at hj;exact (fV hj).symm
  rw [e,rZ,fN];exact h8
 | succ j =>
  have : (eB x).cl[j + 1]? = none:=rfl;rw [this] at hj
  cases hj
theorem mD {m r : Int} (h : m = r) (h1 : -9223372036854775808 <= r) (h2 : r <= 9223372036854775807) : IntKind.i64.wrap m = r:=by
 rw [h,i64_left,wrap64_in _ ⟨h1,by omega⟩]
theorem jB {v : SQ} (h : v.Ok) : ∀ u ∈ [v],u.Ok:=λu hu=>by rw [bK.1 hu]; exact h
theorem qE {v v2 : SQ} (h : v.Ok) (h2 : v2.Ok) : ∀ u ∈ [v,v2],u.Ok:=λu hu=>by
 rcases b7.1 hu with rfl | hu
 ·exact h
 ·exact jB h2 u hu
theorem Tn {v : SQ} {vs : List SQ} (h : v.Ok) (h2 : ∀ u ∈ vs,u.Ok) : ∀ u ∈ v :: vs,u.Ok:=λu hu=>by
 rcases b7.1 hu with rfl | hu
 ·exact h
 ·exact h2 u hu
instance {p q : World -> Prop} [hp : Pst p] [hq : Pst q] : Pst (λw=>p w /\ q w):=⟨λ_ _ h hb=>⟨hp.later _ _ h.1 hb,hq.later _ _ h.2 hb⟩⟩
instance {α : Type} {p : α -> World -> Prop} {l : List α} [hp : ∀ a,Pst (p a)] : Pst (λw=>∀ a ∈ l,p a w):=⟨λ_ _ h hb a ha=>(hp a).later _ _ (h a ha) hb⟩
theorem eM {b : iI} {ops : Array Oper} {Q : Exit -> Act -> World -> Prop} {N : Nat} {E : SE} {L : List LV} {R : List Res} {F M F' : World -> Prop} {o : Oper} {rest : List Oper} {k : Nat} {α : Type} {post : wX α} {f : FuncId} {xs : Array Operand} {ats : Array TypeId} {svs : List SV}
  (args : List Value) (hg : o.guard = none) (hd : o.dst = some k) (hk : aQ k N = true) (hf : Own f) (ho : o.op = .call { callee:=.value (.func f),args:=xs,argTypes:=ats }) (hx : C5 E xs.toList = some svs)
  (ha : ∀ G : Nat -> Nat,(∀ x ∈ L,∀ g,x.g = some g -> G x.j = g) -> svs.map (SV.den G) = args) (hs : Spec f args [] F' post) (hF : ∀ w,F w -> M w -> F' w)
  (hn : ∀ x,lS Tryz.prog b ops Q N rest ⟨(k,(post.ret x).sv) :: E,L,post.own x ++ R,λw=>post.p x w /\ F w,λw=>post.n x w /\ M w⟩) : lS Tryz.prog b ops Q N (o :: rest) ⟨E,L,R,F,M⟩ :=
 fQ (own:=[]) (R':=R) args hg hd hk hf ho hx ha hs hF hn
theorem XK {P : Program} {b : iI} {ops : Array Oper} {Q : Exit -> Act -> World -> Prop} {N : Nat} {E : SE} {L : List LV} {R : List Res} {F M : World -> Prop} {l : List Oper} (k : Nat) {v : SV} (v' : SV) (h : iU E k = some v) (he : ∀ G,v.den G = v'.den G) (ho : v'.Ok) (hn : lS P b ops Q N l ⟨(k,v') :: E,L,R,F,M⟩) : lS P b ops Q N l ⟨E,L,R,F,M⟩:=λa w ⟨G,S,h1,h2,h3⟩ =>
 hn a w ⟨G,S,h1.more (h1.get k _ (by rw [iK,h]; exact congrArg some (he G))),h2.cons ho,h3⟩
theorem l_R {P : Program} {b : iI} {ops : Array Oper} {Q : Exit -> Act -> World -> Prop} {N : Nat} {E : SE} {L : List LV} {R : List Res} {F M : World -> Prop} {l : List Oper} (R2 : List Res) (h : R = R2) (hn : lS P b ops Q N l ⟨E,L,R2,F,M⟩) : lS P b ops Q N l ⟨E,L,R,F,M⟩:=h ▸ hn
theorem uZ {b : iI} {K : Act -> World -> Prop} {N : Nat} {E : SE} {L : List LV} {R : List Res} {F M : World -> Prop} (i : Nat) {r : Res} (hi : R[i]? = some r) (h : kS b K N ⟨E,L,R.eraseIdx i,F,M⟩) : kS b K N ⟨E,L,R,F,M⟩:=λa w ⟨G,S,h1,h2,h3⟩=>by
 obtain ⟨S1,S2,_,_,_,h4⟩:=h3.let hi;exact h a w ⟨G,S2,h1,h2,h4⟩
structure Seg where
  A : Option Addr
  c : Nat
  l : List UInt8
def zO (s : Seg) : SQ:=.c (.v (.slice s.A s.l.length s.c))
theorem T3 (s : Seg) : OkP (zO s).iN /\ (zO s).cl.length = 1:=⟨λp hp=>by rw [bK.1 hp]; exact ⟨trivial,rfl,rfl⟩,rfl⟩
theorem wD (l : List Seg) : OkF 1 zO l:=λs _=>T3 s
def Seg.rd (s : Seg) (w : World) : Prop:=Rd 1 eB s.A s.c s.l w
instance {s : Seg} : Pst s.rd:=⟨λ_ _ h hb=>h.later hb⟩
theorem Rd.sl {A : Option Addr} {c : Nat} {l : List UInt8} {w : World} (h : Rd 1 eB A c l w) : SL w 0 w.heap.size A l c:=by
 obtain ⟨A',c',e,h1⟩:=h.sb
 injection e with e1 _ e2
 subst e1 e2;exact h1
theorem Pm {A : Option Addr} {c : Nat} {ss : List Seg} {w : World} (h : Rd 1 zO A c ss w) (h2 : ∀ s ∈ ss,s.rd w) : o8 w w.heap.size A (ss.map Seg.l):=λhl=>by
 obtain ⟨b,o,e,hb,hr⟩:=h.2.2.2.2 (by simpa using hl);refine ⟨⟨b,o,none⟩,e,hb,λi l hi=>?_⟩;rw [List.getElem?_map] at hi
 cases hs : ss[i]? with
 | none=>rw [hs] at hi; cases hi
 | some s =>
  rw [hs] at hi;simp only [Option.map_some,bG] at hi;subst hi;refine ⟨s.A,s.c,?_,(h2 s (List.mem_of_getElem? hs)).sl⟩;have:=hr i s hs 0 (.slice s.A s.l.length s.c) rfl;rw [iS]
  simpa using this
end Go.Proofs.YtfkchihlchlfdaaGreatDoor
namespace Go.Proofs.YtfkchihlchlfdaaGreatDoor
abbrev ptr (g : Nat) : Value:=.pointer (some ⟨g,0,none⟩)
end Go.Proofs.YtfkchihlchlfdaaGreatDoor
namespace Go.Proofs.YtfkchihlchlfdaaGreatDoor
open Go.RowKit Go.IntWalk
theorem Wv {n : Nat} {l : List UInt8} (h : OkP (eY n l).iN) : l.length = n:=by
 have h1:=(h (.agg n (By l).toArray) (by simp [eY,SQ.iN])).1
 rwa [a9,cD] at h1
abbrev Rds:=List UInt8 × Nat
def tkO (k : Nat) (s : Rds) : List UInt8:=(tk s.1 s.2 k).1
def tkS (k : Nat) (s : Rds) : Rds:=(tk s.1 s.2 k).2
def nuO (s : Rds) : Nat:=val (tkO 8 s)
def nuS (s : Rds) : Rds:=tkS 8 s
def moO (m : Nat) (s : Rds) : Nat:=if m < nuO s then 0 else nuO s
def moS (m : Nat) (s : Rds) : Rds:=if m < nuO s then ((nuS s).1,12) else nuS s
def A9 (x : List UInt8) : List UInt8:=x ++ aE (64 - x.length) 0
def sgO (s : Rds) : List UInt8:=A9 (tkO 64 s)
def uD (s : Rds) : Rds:=tkS 64 s
def pR (s : Rds) : Nat:=don s.1 s.2
section
variable {k : Nat} {s : Rds}
theorem qF (h : s.2 ≠ 0) : tkO k s = [] /\ tkS k s = s:=by
 unfold tkO tkS
 rw [Sf h];exact ⟨rfl,rfl⟩
theorem BI (h : s.2 = 0) (hk : s.1.length < k) : tkO k s = [] /\ tkS k s = (s.1,10):=by
 unfold tkO tkS
 rw [h,Od hk];exact ⟨rfl,rfl⟩
theorem BH (h : s.2 = 0) (hk : k <= s.1.length) : tkO k s = s.1.take k /\ tkS k s = (s.1.drop k,0):=by
 unfold tkO tkS
 rw [h,Xc hk];exact ⟨rfl,rfl⟩
theorem Oe (k : Nat) (s : Rds) : (tkO k s = [] /\ tkS k s = s /\ s.2 ≠ 0) \/ (tkO k s = [] /\ tkS k s = (s.1,10) /\ s.2 = 0 /\ s.1.length < k) \/ (tkO k s = s.1.take k /\ tkS k s = (s.1.drop k,0) /\ s.2 = 0 /\ k <= s.1.length):=by
 by_cases h : s.2 = 0
 ·by_cases hk : s.1.length < k
  ·exact .inr (.inl ⟨(BI h hk).1,(BI h hk).2,h,hk⟩)
  ·exact .inr (.inr ⟨(BH h (by omega)).1,(BH h (by omega)).2,h,by omega⟩)
 ·exact .inl ⟨(qF h).1,(qF h).2,h⟩
theorem I9 (h : (tkS k s).2 = 0) : s.2 = 0 /\ (tkO k s).length = k /\ s.1 = tkO k s ++ (tkS k s).1:=by
 rcases Oe k s with ⟨h1,h2,h3⟩ | ⟨h1,h2,h3,h4⟩ | ⟨h1,h2,h3,h4⟩
 ·rw [h2] at h
  exact absurd h h3
 ·rw [h2] at h
  cases h
 ·rw [h1,h2]
  exact ⟨h3,by rw [aY]; omega,(dR k s.1).symm⟩
theorem xR (k : Nat) (s : Rds) : (tkO k s).length <= k /\ (tkO k s).length <= s.1.length:=by
 rcases Oe k s with ⟨h1,_⟩ | ⟨h1,_⟩ | ⟨h1,_⟩ <;> rw [h1] <;> simp
 omega
theorem VI (s : Rds) : nuO s < 18446744073709551616:=U7 _
theorem Uk {l : List UInt8} (h : l.length = 8) : be8 (val l) = l:=by
 match l,h with
 | [a,b,c,d,e,f,g,i],_ =>
  have ha:=a.toNat_lt;have hb:=b.toNat_lt;have hc:=c.toNat_lt;have hd:=d.toNat_lt;have he:=e.toNat_lt;have hf:=f.toNat_lt;have hg:=g.toNat_lt;have hi:=i.toNat_lt
  have hv : val [a,b,c,d,e,f,g,i] = a.toNat * 72057594037927936 + b.toNat * 281474976710656 + c.toNat * 1099511627776 + d.toNat * 4294967296 + e.toNat * 16777216 + f.toNat * 65536 + g.toNat * 256 + i.toNat:=by
   simp only [val,List.foldl_cons,List.foldl_nil,step]
   omega
  have key : ∀ (x : UInt8) (n : Nat),n % 256 = x.toNat -> cR n = x:=λx n h=>by
   apply UInt8.toNat_inj.1
   rw [Bn,h]
  rw [hv]
  unfold be8
  rw [key a _ (by omega),key b _ (by omega),key c _ (by omega),key d _ (by omega),key e _ (by omega),key f _ (by omega),key g _ (by omega),key i _ (by omega)]
theorem PO (h : (nuS s).2 = 0) : s.2 = 0 /\ s.1 = be8 (nuO s) ++ (nuS s).1:=by
 obtain ⟨h1,h2,h3⟩:=I9 h;refine ⟨h1,?_⟩
 unfold nuO
 rw [Uk h2];exact h3
theorem VP {m : Nat} (h : (moS m s).2 = 0) : s.2 = 0 /\ moO m s = nuO s /\ moO m s <= m /\ s.1 = be8 (moO m s) ++ (moS m s).1:=by
 unfold moS moO at *
 split at h
 ·cases h
 ·rename_i hm
  rw [if_neg hm,if_neg hm];obtain ⟨h1,h2⟩:=PO h;exact ⟨h1,rfl,by omega,h2⟩
theorem JM (m : Nat) (s : Rds) : moO m s <= m:=by
 unfold moO
 split <;> omega
theorem Pq {x : List UInt8} (h : x.length = 64) : A9 x = x:=by simp [A9,h]
theorem ML {x : List UInt8} (h : x.length <= 64) : (A9 x).length = 64:=by simp [A9]; omega
theorem EW (s : Rds) : (sgO s).length = 64:=ML (xR 64 s).1
theorem Vl (h : (uD s).2 = 0) : s.2 = 0 /\ s.1 = sgO s ++ (uD s).1:=by
 obtain ⟨h1,h2,h3⟩:=I9 h;refine ⟨h1,?_⟩
 unfold sgO
 rw [Pq h2];exact h3
end
theorem Mb (v : Nat) (h : v < 18446744073709551616) : wrap64 (v : Int) = (v : Int) \/ wrap64 (v : Int) = (v : Int) - 18446744073709551616:=by
 unfold wrap64
 omega
theorem Ag (z : Int) : IntKind.u64.wrap z = z % 18446744073709551616:=rfl
theorem Ma {v : Nat} (h : v < 18446744073709551616) : (IntKind.u64.wrap (IntKind.i64.wrap (v : Int))).toNat = v:=by
 have h1:=Mb v h;rw [i64_left];generalize wrap64 (v : Int) = z at h1;rw [Ag]
 omega
theorem QV {s : Rds} (h : pR s = 0) : s.2 = 0 /\ s.1 = []:=by
 unfold pR don at h
 split at h
 ·split at h
  ·exact ⟨by assumption,cM (by assumption)⟩
  ·cases h
 ·exact absurd h (by assumption)
theorem Mr {r : Res} {w : World} {S : Nat -> Prop} : gU [r] w S ↔ r.holds w S:=by
 constructor
 ·rintro ⟨S1,S2,h1,h2,h3,_⟩
  have e : S = S1:=funext λk=>propext ⟨λh=>((h3 k).1 h).resolve_right (h2 k),λh=>(h3 k).2 (.inl h)⟩;rw [e];exact h1
 ·exact λh=>⟨S,λ_=>False,h,λ_ h=>h,λk=>⟨.inl,λh=>h.elim id False.elim⟩,λ_ _ h=>h⟩
section
variable {P : Program} {b : iI} {ops : Array Oper} {Q : Exit -> Act -> World -> Prop} {N : Nat} {E : SE} {L : List LV} {R : List Res} {F M : World -> Prop} {o : Oper} {k : Nat} {rest : List Oper}
theorem D5 {G : Nat -> Nat} : ∀ (ps : List (Nat × Operand)) (vs : List (Nat × SC)),ps.map (λp=>(p.1,evS E p.2)) = vs.map (λx=>(x.1,some (.q (.c x.2)))) -> ps.map (λp=>(p.1,ev (fS G E) p.2)) = (vs.map λx=>(x.1,x.2.den)).map λp=>(p.1,some p.2)
 | [],[],_=>rfl
 | [],_ :: _,h=>by cases h
 | _ :: _,[],h=>by cases h
 | p :: ps,v :: vs,h=>by
  simp only [cA,List.cons.injEq,Prod.mk.injEq] at h ⊢;exact ⟨⟨h.1.1,cU h.1.2⟩,D5 ps vs h.2⟩
theorem CL {t : TypeId} {parts : Array (Nat × Operand)} (vs : List (Nat × SC)) (n : Nat) (l : List UInt8) (hg : o.guard = none) (hd : o.dst = some k) (hk : aQ k N = true) (ho : o.op = .build t parts) (hv : parts.toList.map (λp=>(p.1,evS E p.2)) = vs.map (λx=>(x.1,some (.q (.c x.2)))))
  (hb : P.built t (vs.map λx=>(x.1,x.2.den)) = some (By l).toArray) (hl : l.length = n) (hn : lS P b ops Q N rest ⟨(k,.q (eY n l)) :: E,L,R,F,M⟩) : lS P b ops Q N (o :: rest) ⟨E,L,R,F,M⟩ :=
 l_f (.q (eY n l)) (nJ hl).1 (λG S w C0 Q' _ _ hQ=>g7 _ _ hg hd hk ho (D5 _ _ hv) hb hQ) (by rw [ho]; rfl) hn
end
end Go.Proofs.YtfkchihlchlfdaaGreatDoor
namespace Nums
def dQ (p : Nat) : Prop:=1 < p /\ ∀ m,m ∣ p -> m = 1 \/ m = p
theorem dQ.pos {p : Nat} (h : dQ p) : 0 < p:=by have:=h.1; omega
theorem dQ.coprime {p a : Nat} (h : dQ p) (ha : ¬ p ∣ a) : Nat.Coprime p a:=by
 have hd : sB p a ∣ p:=Nat.gcd_dvd_left p a
 rcases h.2 _ hd with h1 | h1
 ·exact h1
 ·exact absurd (h1 ▸ Nat.gcd_dvd_right p a) ha
theorem dQ.dvd_mul {p a b : Nat} (h : dQ p) (hd : p ∣ a * b) : p ∣ a \/ p ∣ b:=by
 by_cases ha : p ∣ a
 ·exact .inl ha
 ·exact .inr ((h.coprime ha).dvd_of_dvd_mul_left hd)
theorem sL : ∀ (n : Nat),1 < n -> ∃ r,dQ r /\ r ∣ n:=by
 intro n
 induction n using Nat.strongRecOn with
 | ind n ih =>
  intro hn
  by_cases hp : ∃ m,m ∣ n /\ m ≠ 1 /\ m ≠ n
  ·obtain ⟨m,hm,h1,h2⟩:=hp
   have hle:=nP (by omega) hm;have hpos:=Nat.pos_of_dvd_of_pos hm (by omega);obtain ⟨r,hr,hrm⟩:=ih m (by omega) (by omega);exact ⟨r,hr,uH hrm hm⟩
  ·refine ⟨n,⟨hn,λm hm=>?_⟩,Nat.dvd_refl n⟩
   by_cases h1 : m = 1
   ·exact .inl h1
   ·by_cases h2 : m = n
    ·exact .inr h2
    ·exact absurd ⟨m,hm,h1,h2⟩ hp
theorem AY {n : Nat} (hn : 1 < n) (hp : ¬ dQ n) : ∃ r,dQ r /\ r ∣ n /\ r * r <= n:=by
 have : ∃ m,m ∣ n /\ m ≠ 1 /\ m ≠ n:=by
  by_cases h : ∃ m,m ∣ n /\ m ≠ 1 /\ m ≠ n
  ·exact h
  ·refine absurd ⟨hn,λm hm=>?_⟩ hp
   by_cases h1 : m = 1
   ·exact .inl h1
   ·by_cases h2 : m = n
    ·exact .inr h2
    ·exact absurd ⟨m,hm,h1,h2⟩ h
 obtain ⟨m,⟨k,hk⟩,h1,h2⟩:=this
 have hm0 : 0 < m:=by
  rcases BU m with h | h
  ·subst h; simp at hk; omega
  ·exact h
 have hk0 : 0 < k:=by
  rcases BU k with h | h
  ·subst h; simp at hk; omega
  ·exact h
 have hk1 : k ≠ 1:=λh=>by subst h; simp at hk; omega
 rcases Nat.le_total m k with hle | hle
 ·obtain ⟨r,hr,hrm⟩:=sL m (by omega)
  have hrle:=nP hm0 hrm;exact ⟨r,hr,uH hrm ⟨k,hk⟩,by rw [hk]; exact m9 hrle (j6 hrle hle)⟩
 ·obtain ⟨r,hr,hrk⟩:=sL k (by omega)
  have hrle:=nP hk0 hrk;exact ⟨r,hr,uH hrk ⟨m,by rw [hk,iH]⟩,by rw [hk]; exact m9 (j6 hrle hle) hrle⟩
def prod (l : List Nat) : Nat:=l.foldr (· * ·) 1
theorem prod_cons (a : Nat) (l : List Nat) : prod (a :: l) = a * prod l:=rfl
theorem MF {l1 l2 : List Nat} (h : l1.Perm l2) : prod l1 = prod l2:=by
 induction h with
 | nil=>rfl
 | cons x _ ih=>rw [prod_cons,prod_cons,ih]
 | swap x y l=>rw [prod_cons,prod_cons,prod_cons,prod_cons,<-k6,<-k6,iH x y]
 | trans _ _ ih1 ih2=>rw [ih1,ih2]
theorem Le : ∀ {l1 l2 : List Nat},l1.Nodup -> (∀ x ∈ l1,x ∈ l2) -> l2.length <= l1.length -> l1.Perm l2
 | [],l2,_,_,hl=>by
  have : l2 = []:=cM (by simpa using hl);subst this;exact List.Perm.refl _
 | x :: l1,l2,hn,hs,hl=>by
  have hx : x ∈ l2:=hs x (by simp);have hp:=List.perm_cons_erase hx;obtain ⟨hx1,hn1⟩:=Bq.1 hn
  have h1 : l1.Perm (l2.erase x):=Le hn1 (λy hy=>(List.mem_erase_of_ne (λ(e : y = x)=>hx1 (e ▸ hy))).2 (hs y (by simp [hy]))) (by
   rw [List.length_erase_of_mem hx]
   simp at hl
   omega)
  exact (List.Perm.cons x h1).trans hp.symm
theorem y6 (a r : Nat) : ∀ (l : List Nat),prod (l.map λi=>a * i % r) % r = a ^ l.length * prod l % r
 | []=>by simp [prod]
 | i :: l=>by
  rw [cA,prod_cons,prod_cons,cC,xL,y6 a r l,Nat.mod_mod,<-xL,dD]
  congr 1
  rw [k6,k6];rw [Nat.mul_left_comm i,<-k6 a (a ^ l.length),iH a (a ^ l.length),k6]
theorem zR {r : Nat} (hr : dQ r) : ∀ (l : List Nat),(∀ x ∈ l,¬ r ∣ x) -> ¬ r ∣ prod l
 | [],_,h=>by
  have:=nP (by simp [prod]) h
  simp [prod] at this
  have:=hr.1
  omega
 | x :: l,hl,h=>by
  rw [prod_cons] at h
  rcases hr.dvd_mul h with h1 | h1
  ·exact hl x (by simp) h1
  ·exact zR hr l (λy hy=>hl y (by simp [hy])) h1
theorem CG {r a b c : Nat} (hr : dQ r) (hc : ¬ r ∣ c) (h : a * c % r = b * c % r) : a % r = b % r:=by
 have key : ∀ {x y : Nat},y <= x -> x * c % r = y * c % r -> x % r = y % r:=λ{x y} hle h=>by
  have h1 : r ∣ x * c - y * c:=pB (F4 h);rw [<-Nat.sub_mul] at h1
  rcases hr.dvd_mul h1 with ⟨t,ht⟩ | h2
  ·have : x = y + r * t:=by omega
   rw [this,uA]
  ·exact absurd h2 hc
 rcases Nat.le_total b a with hle | hle
 ·exact key hle h
 ·exact (key hle h.symm).symm
theorem El {f : Nat -> Nat} : ∀ {l : List Nat},l.Nodup -> (∀ x ∈ l,∀ y ∈ l,f x = f y -> x = y) -> (l.map f).Nodup
 | [],_,_=>by simp
 | a :: l,hn,hi=>by
  obtain ⟨h1,h2⟩:=Bq.1 hn;rw [cA,Bq];refine ⟨λh=>?_,El h2 (λx hx y hy=>hi x (by simp [hx]) y (by simp [hy]))⟩;obtain ⟨b,hb,e⟩:=gP.1 h;have:=hi b (by simp [hb]) a (by simp) e;subst this;exact h1 hb
theorem J0 {r a : Nat} (hr : dQ r) (ha : ¬ r ∣ a) : a ^ (r - 1) % r = 1:=by
 have hr1:=hr.1
 have hnd : ∀ i ∈ uC 1 (r - 1),¬ r ∣ i:=λi hi hd=>by
  have hi':=oA.1 hi;have:=nP (by omega) hd
  omega
 have hperm : ((uC 1 (r - 1)).map λi=>a * i % r).Perm (uC 1 (r - 1)):=by
  refine Le ?_ ?_ (by simp)
  ·refine El List.nodup_range' λx hx y hy h=>?_
   have hx':=oA.1 hx;have hy':=oA.1 hy;rw [iH a x,iH a y] at h;have:=CG hr ha h
   rwa [bR (by omega),bR (by omega)] at this
  ·intro x hx
   obtain ⟨i,hi,rfl⟩:=gP.1 hx;have hlt : a * i % r < r:=eJ _ hr.pos
   have hne : a * i % r ≠ 0:=λh0=>by
    rcases hr.dvd_mul (pB h0) with h1 | h1
    ·exact ha h1
    ·exact hnd i hi h1
   exact oA.2 ⟨by omega,by omega⟩
 have h1:=y6 a r (uC 1 (r - 1));rw [MF hperm,List.length_range'] at h1
 have h2 : 1 * prod (uC 1 (r - 1)) % r = a ^ (r - 1) * prod (uC 1 (r - 1)) % r:=by rw [rZ]; exact h1
 have h3:=CG hr (zR hr _ hnd) h2;rw [<-h3,bR hr1]
def pm (n a : Nat) : Nat -> Nat -> Nat
  | 0,_=>1 % n
  | k + 1,e=>if e % 2 = 1 then pm n a k (e / 2) * pm n a k (e / 2) % n * a % n else pm n a k (e / 2) * pm n a k (e / 2) % n
theorem Pd (n a : Nat) : ∀ (k e : Nat),e < 2 ^ k -> pm n a k e = a ^ e % n
 | 0,e,h=>by
  have : e = 0:=by simpa using h
  subst this
  simp [pm]
 | k + 1,e,h=>by
  have h1 : e / 2 < 2 ^ k:=by rw [dD] at h; omega
  have ih:=Pd n a k (e / 2) h1
  unfold pm
  rw [ih]
  have e2 : a ^ (e / 2) % n * (a ^ (e / 2) % n) % n = a ^ (2 * (e / 2)) % n:=by
   rw [<-xL,<-pL]
   congr 2
   omega
  rw [e2]
  split
  ·rw [Nat.mod_mul_mod,<-dD]
   congr 2
   omega
  ·congr 2
   omega
theorem SW {r a : Nat} (hr : 1 < r) : ∀ (m n : Nat),a ^ m % r = 1 -> a ^ n % r = 1 -> a ^ sB m n % r = 1:=by
 intro m n
 induction m,n using Nat.gcd.induction with
 | H0 n=>intro _ h; simpa using h
 | H1 m n hm ih =>
  intro h1 h2
  rw [Nat.gcd_rec];refine ih ?_ h1
  have e : a ^ n = (a ^ m) ^ (n / m) * a ^ (n % m):=by
   rw [<-xJ,<-pL,Nat.div_add_mod]
  have h3 : (a ^ m) ^ (n / m) % r = 1:=by
   rw [Nat.pow_mod,h1,Nat.one_pow,bR hr]
  rw [e,xL,h3,rZ,Nat.mod_mod] at h2;exact h2
theorem G3 {n q a m r : Nat} (hq : dQ q) (hn : n - 1 = q * m) (hn1 : 1 < n) (h1 : a ^ (n - 1) % n = 1) (g1 : sB (a ^ m % n + n - 1) n = 1) (hr : dQ r) (hrn : r ∣ n) : q ∣ r - 1:=by
 have hr1:=hr.1;have hmod : ∀ x,x % n % r = x % r:=λx=>Nat.mod_mod_of_dvd x hrn
 have h1r : a ^ (n - 1) % r = 1:=by rw [<-hmod,h1,bR hr1]
 have hra : ¬ r ∣ a:=λhd=>by
  have h0 : a ^ (n - 1) % r = 0:=by
   refine NL (uH hd ?_);exact ⟨a ^ (n - 2),by rw [<-Nat.pow_succ']; congr 1; omega⟩
  omega
 by_cases hqr : q ∣ r - 1
 ·exact hqr
 ·have hf:=J0 hr hra
  have hg:=SW hr1 (n - 1) (r - 1) h1r hf
  have hcop : Nat.Coprime (sB (n - 1) (r - 1)) q:=by
   have:=hq.coprime (a:=sB (n - 1) (r - 1)) (λhd=>hqr (uH hd (Nat.gcd_dvd_right _ _)));exact this.symm
  have hdm : sB (n - 1) (r - 1) ∣ m:=by
   have : sB (n - 1) (r - 1) ∣ q * m:=hn ▸ Nat.gcd_dvd_left (n - 1) (r - 1);exact hcop.dvd_of_dvd_mul_left this
  obtain ⟨t,ht⟩:=hdm
  have hm : a ^ m % r = 1:=by
   rw [ht,xJ,Nat.pow_mod,hg,Nat.one_pow,bR hr1]
  exfalso
  have hlt : a ^ m % n < n:=eJ _ (by omega)
  have hd : r ∣ a ^ m % n + n - 1:=by
   have e1 : a ^ m % n % r = 1:=by rw [hmod]; exact hm
   have e2 : 1 <= a ^ m % n:=by
    rcases BU (a ^ m % n) with h0 | h0
    ·rw [h0] at e1; simp at e1
    ·exact h0
   have e3 : r ∣ a ^ m % n - 1:=pB (by
    have:=F4 (m:=a ^ m % n) (n:=1) (k:=r) (by rw [e1,bR hr1])
    exact this)
   have e4 : a ^ m % n + n - 1 = (a ^ m % n - 1) + n:=by omega
   rw [e4];exact Nat.dvd_add e3 hrn
  have:=Nat.dvd_gcd hd hrn;rw [g1] at this;have:=nP (by omega) this
  omega
theorem G2 {n q1 q2 m1 m2 a : Nat} (hq1 : dQ q1) (hq2 : dQ q2) (hne : q1 ≠ q2) (hn1 : 1 < n) (hm1 : n - 1 = q1 * m1) (hm2 : n - 1 = q2 * m2) (hsz : n < (q1 * q2 + 1) * (q1 * q2 + 1))
  (h1 : a ^ (n - 1) % n = 1) (g1 : sB (a ^ m1 % n + n - 1) n = 1) (g2 : sB (a ^ m2 % n + n - 1) n = 1) : dQ n:=by
 by_cases hp : dQ n
 ·exact hp
 ·exfalso
  obtain ⟨r,hr,hrn,hrr⟩:=AY hn1 hp;have d1:=G3 hq1 hm1 hn1 h1 g1 hr hrn;have d2:=G3 hq2 hm2 hn1 h1 g2 hr hrn
  have hcop : Nat.Coprime q1 q2:=hq1.coprime (λhd=>by
   rcases hq2.2 _ hd with h | h
   ·have:=hq1.1; omega
   ·exact hne h)
  have hd : q1 * q2 ∣ r - 1:=hcop.mul_dvd_of_dvd_of_dvd d1 d2;have hr1:=hr.1;have hle:=nP (by omega) hd
  have h2 : q1 * q2 + 1 <= r:=by omega
  have:=m9 h2 h2
  omega
def UE (n q1 q2 a k : Nat) : Bool :=
  decide (1 < n) && decide (n - 1 = q1 * ((n - 1) / q1)) && decide (n - 1 = q2 * ((n - 1) / q2)) && decide (n < (q1 * q2 + 1) * (q1 * q2 + 1)) && decide (q1 ≠ q2) && decide (n < 2 ^ k) &&
  (pm n a k (n - 1) == 1) && (sB (pm n a k ((n - 1) / q1) + n - 1) n == 1) && (sB (pm n a k ((n - 1) / q2) + n - 1) n == 1)
theorem mL {n q1 q2 a k : Nat} (hq1 : dQ q1) (hq2 : dQ q2) (h : UE n q1 q2 a k = true) : dQ n:=by
 simp only [UE,aW,decide_eq_true_eq,beq_iff_eq] at h;obtain ⟨⟨⟨⟨⟨⟨⟨⟨h1,h2⟩,h3⟩,h4⟩,h5⟩,h6⟩,h7⟩,h8⟩,h9⟩:=h;have hd1 : (n - 1) / q1 <= n - 1:=gD _ _;have hd2 : (n - 1) / q2 <= n - 1:=gD _ _;rw [Pd n a k _ (by omega)] at h7 h8 h9;exact G2 hq1 hq2 h5 h1 h2 h3 h4 h7 h8 h9
def KG (n : Nat) : Nat -> Bool
  | 0=>true
  | k + 1=>KG n k && (decide (k < 2) || decide (n % k ≠ 0))
theorem DW {n : Nat} : ∀ {k m : Nat},KG n k = true -> 2 <= m -> m < k -> ¬ m ∣ n
 | k + 1,m,h,h2,hm,hd=>by
  simp only [KG,aW,Bool.or_eq_true,decide_eq_true_eq] at h
  by_cases e : m = k
  ·subst e
   rcases h.2 with h3 | h3
   ·omega
   ·exact h3 (NL hd)
  ·exact DW h.1 h2 (by omega) hd
theorem gQ {n k : Nat} (hn : 1 < n) (hk : n < k * k) (h : KG n k = true) : dQ n:=by
 by_cases hp : dQ n
 ·exact hp
 ·exfalso
  obtain ⟨r,hr,hrn,hrr⟩:=AY hn hp;have hr1:=hr.1
  have : r < k:=by
   rcases Nat.lt_or_ge r k with h1 | h1
   ·exact h1
   ·have:=m9 h1 h1; omega
  exact DW h (by omega) this hrn
theorem MH : dQ 127:=gQ (k:=12) (by decide) (by decide) (by decide +kernel)
theorem Dy : dQ 8574133:=gQ (k:=2929) (by decide) (by decide +kernel) (by decide +kernel)
theorem GZ : dQ 75707:=gQ (k:=276) (by decide) (by decide +kernel) (by decide +kernel)
theorem G0 : dQ 65147:=gQ (k:=256) (by decide) (by decide +kernel) (by decide +kernel)
theorem Dz : dQ 1923133:=gQ (k:=1387) (by decide) (by decide +kernel) (by decide +kernel)
theorem SS : dQ 1919519569386763:=mL (q1:=8574133) (q2:=127) (a:=2) (k:=51) Dy MH (by decide +kernel)
theorem SR : dQ 75445702479781427272750846543864801:=mL (q1:=1919519569386763) (q2:=75707) (a:=7) (k:=116) SS GZ (by decide +kernel)
theorem SP : dQ 74058212732561358302231226437062788676166966415465897661863160754340907:=mL (q1:=75445702479781427272750846543864801) (q2:=1923133) (a:=2) (k:=236) SR Dz (by decide +kernel)
def p : Nat:=57896044618658097711785492504343953926634992332820282019728792003956564819949
theorem iF : dQ p:=mL (q1:=74058212732561358302231226437062788676166966415465897661863160754340907) (q2:=65147) (a:=2) (k:=255) SP G0 (by decide +kernel)
end Nums
namespace Nums
section
variable {n : Nat} [NeZero n]
omit [NeZero n] in
theorem val_mul (a b : Fin n) : (a * b).val = a.val * b.val % n:=rfl
theorem val_zero : ((0 : Fin n)).val = 0:=by simp
theorem val_one (hn : dQ n) : ((1 : Fin n)).val = 1:=by
 show 1 % n = 1
 exact bR hn.1
theorem xY (hn : dQ n) : (0 : Fin n) ≠ 1:=by
 intro h
 have:=congrArg Fin.val h;rw [val_one hn,val_zero] at this
 omega
theorem zero_or (hn : dQ n) {a b : Fin n} (h : a * b = 0) : a = 0 \/ b = 0:=by
 have h1 : a.val * b.val % n = 0:=by rw [<-val_mul,h]; exact val_zero
 have z : ∀ c : Fin n,n ∣ c.val -> c = 0:=λc hc=>by
  apply nU
  rw [val_zero];exact L9 hc c.isLt
 rcases hn.dvd_mul (pB h1) with h2 | h2
 ·exact .inl (z a h2)
 ·exact .inr (z b h2)
theorem eQ (hn : dQ n) {a b : Fin n} (ha : a ≠ 0) (hb : b ≠ 0) : a * b ≠ 0:=λh=>by
 rcases zero_or hn h with h | h
 ·exact ha h
 ·exact hb h
def gC (a : Fin n) : Nat -> Fin n
  | 0=>1
  | k + 1=>gC a k * a
theorem pW (a : Fin n) : gC a 0 = 1:=rfl
theorem iG (a : Fin n) (k : Nat) : gC a (k + 1) = gC a k * a:=rfl
theorem sI (a : Fin n) (j k : Nat) : gC a (j + k) = gC a j * gC a k:=by
 induction k with
 | zero=>rw [fN,pW]; grind
 | succ k ih=>rw [Nat.add_succ,iG,iG,ih]; grind
theorem zL (a : Fin n) : gC a 1 = a:=by rw [iG,pW]; grind
theorem Xr (k : Nat) : gC (1 : Fin n) k = 1:=by
 induction k with
 | zero=>rfl
 | succ k ih=>rw [iG,ih]; grind
theorem CV (a : Fin n) (j k : Nat) : gC a (j * k) = gC (gC a j) k:=by
 induction k with
 | zero=>rfl
 | succ k ih=>rw [Nat.mul_succ,sI,iG,ih]
theorem PX (a b : Fin n) (k : Nat) : gC (a * b) k = gC a k * gC b k:=by
 induction k with
 | zero=>rw [pW,pW,pW]; grind
 | succ k ih=>rw [iG,iG,iG,ih]; grind
theorem QC (hn : dQ n) (a : Fin n) (k : Nat) : (gC a k).val = a.val ^ k % n:=by
 induction k with
 | zero=>rw [pW,val_one hn,Nat.pow_zero,bR hn.1]
 | succ k ih=>rw [iG,val_mul,ih,dD,Nat.mod_mul_mod]
theorem Bh (hn : dQ n) {a : Fin n} (ha : a ≠ 0) : gC a (n - 1) = 1:=by
 apply nU
 rw [QC hn,val_one hn]
 apply J0 hn
 intro hd
 apply ha
 apply nU
 rw [val_zero];exact L9 hd a.isLt
def lE (a : Fin n) : Fin n:=gC a (n - 2)
theorem nH (hn : dQ n) {a : Fin n} (ha : a ≠ 0) : a * lE a = 1:=by
 have h:=Bh hn ha
 have h2 : n - 1 = (n - 2) + 1:=by have:=hn.1; omega
 rw [h2,iG] at h
 unfold lE
 rw [<-h]; grind
theorem cancel (hn : dQ n) {a b c : Fin n} (hc : c ≠ 0) (h : a * c = b * c) : a = b:=by
 have h1:=nH hn hc
 have : a * c * lE c = b * c * lE c:=by rw [h]
 grind
theorem LB (hn : dQ n) {a b : Fin n} (h : a * b = 1) : lE a = b:=by
 have ha : a ≠ 0:=by
  rintro rfl
  exact xY hn (by rw [<-h]; grind)
 apply cancel hn ha
 have:=nH hn ha
 grind
theorem KY (hn : dQ n) {a b : Fin n} (h : a * a = b * b) : a = b \/ a = -b:=by
 have : (a - b) * (a + b) = 0:=by grind
 rcases zero_or hn this with h | h
 ·left; grind
 ·right; grind
end
end Nums
namespace Nums
theorem Ed.closed {n : Nat} [NeZero n] (x1 y1 x2 y2 d : Fin n) (h1 : y1*y1 - x1*x1 = 1 + d*x1*x1*y1*y1) (h2 : y2*y2 - x2*x2 = 1 + d*x2*x2*y2*y2) :
  (y1*y2+x1*x2)*(y1*y2+x1*x2)*(1+d*x1*x2*y1*y2)*(1+d*x1*x2*y1*y2) - (x1*y2+y1*x2)*(x1*y2+y1*x2)*(1-d*x1*x2*y1*y2)*(1-d*x1*x2*y1*y2)
   = (1+d*x1*x2*y1*y2)*(1+d*x1*x2*y1*y2)*(1-d*x1*x2*y1*y2)*(1-d*x1*x2*y1*y2) + d*(y1*y2+x1*x2)*(y1*y2+x1*x2)*(x1*y2+y1*x2)*(x1*y2+y1*x2):=by grind
theorem Ed.Uu {n : Nat} [NeZero n] (x1 y1 x2 y2 x3 y3 d : Fin n) (h1 : y1*y1 - x1*x1 = 1 + d*x1*x1*y1*y1) (h2 : y2*y2 - x2*x2 = 1 + d*x2*x2*y2*y2) (h3 : y3*y3 - x3*x3 = 1 + d*x3*x3*y3*y3) :
 ((x1*y2+y1*x2)*(1-d*x1*x2*y1*y2)*y3 + (y1*y2+x1*x2)*(1+d*x1*x2*y1*y2)*x3) * ((1+d*x2*x3*y2*y3)*(1-d*x2*x3*y2*y3) + d*x1*y1*(x2*y3+y2*x3)*(y2*y3+x2*x3))
 = (x1*(y2*y3+x2*x3)*(1+d*x2*x3*y2*y3) + y1*(x2*y3+y2*x3)*(1-d*x2*x3*y2*y3)) * ((1+d*x1*x2*y1*y2)*(1-d*x1*x2*y1*y2) + d*(x1*y2+y1*x2)*(y1*y2+x1*x2)*x3*y3):=by grind
theorem Ed.Ut {n : Nat} [NeZero n] (x1 y1 x2 y2 x3 y3 d : Fin n) (h1 : y1*y1 - x1*x1 = 1 + d*x1*x1*y1*y1) (h2 : y2*y2 - x2*x2 = 1 + d*x2*x2*y2*y2) (h3 : y3*y3 - x3*x3 = 1 + d*x3*x3*y3*y3) :
 ((y1*y2+x1*x2)*(1+d*x1*x2*y1*y2)*y3 + (x1*y2+y1*x2)*(1-d*x1*x2*y1*y2)*x3) * ((1+d*x2*x3*y2*y3)*(1-d*x2*x3*y2*y3) - d*x1*y1*(x2*y3+y2*x3)*(y2*y3+x2*x3))
 = (y1*(y2*y3+x2*x3)*(1+d*x2*x3*y2*y3) + x1*(x2*y3+y2*x3)*(1-d*x2*x3*y2*y3)) * ((1+d*x1*x2*y1*y2)*(1-d*x1*x2*y1*y2) - d*(x1*y2+y1*x2)*(y1*y2+x1*x2)*x3*y3):=by grind
theorem Ed.key {n : Nat} [NeZero n] {X1 Y1 X2 Y2 D e s : Fin n} (h1 : X1*X1 + Y1*Y1 = 1 + D*X1*X1*Y1*Y1) (h2 : X2*X2 + Y2*Y2 = 1 + D*X2*X2*Y2*Y2) (h : D*X1*X2*Y1*Y2 = e) (he : e * e = 1) (hs : s * s = 1) :
  (X1 + s*e*Y1) * (X1 + s*e*Y1) = D * ((X1*Y1*(X2+s*Y2)) * (X1*Y1*(X2+s*Y2))):=by
 have l : (X1 + s*e*Y1) * (X1 + s*e*Y1) = X1*X1 + (s*s)*(e*e)*(Y1*Y1) + 2*s*e*X1*Y1:=by grind only
 have r : D * ((X1*Y1*(X2+s*Y2)) * (X1*Y1*(X2+s*Y2))) = D*X1*X1*Y1*Y1*(X2*X2 + (s*s)*(Y2*Y2)) + 2*s*(D*X1*X2*Y1*Y2)*X1*Y1:=by grind only
 rw [l,r,hs,he,h]
 have e1 : (1 : Fin n) * 1 * (Y1*Y1) = Y1 * Y1:=by grind only
 have e2 : (1 : Fin n) * (Y2*Y2) = Y2 * Y2:=by grind only
 have e3 : D*X1*X1*Y1*Y1*(1 + D*X2*X2*Y2*Y2) = D*X1*X1*Y1*Y1 + (D*X1*X2*Y1*Y2) * (D*X1*X2*Y1*Y2):=by grind only
 rw [e1,e2,h1,h2,e3,h,he]
 grind only
section
variable {n : Nat} [NeZero n]
structure Ed.Pt (n : Nat) where
  x : Fin n
  y : Fin n
structure Ed.Good (n : Nat) [NeZero n] (d : Fin n) : Prop where
  pr : dQ n
  two : (2 : Fin n) ≠ 0
  i : ∃ i : Fin n,i * i = -1
  d : ∀ t : Fin n,t * t ≠ d
namespace Ed
variable {d : Fin n}
def On (d : Fin n) (P : Pt n) : Prop:=P.y*P.y - P.x*P.x = 1 + d*P.x*P.x*P.y*P.y
theorem complete (g : Good n d) {x1 y1 x2 y2 e : Fin n} (h1 : y1*y1 - x1*x1 = 1 + d*x1*x1*y1*y1) (h2 : y2*y2 - x2*x2 = 1 + d*x2*x2*y2*y2) (he : e * e = 1) :
  d*x1*x2*y1*y2 ≠ e:=by
 intro h
 obtain ⟨i,hi⟩:=g.i
 have e0 : e ≠ 0:=by rintro rfl; exact xY g.pr (by grind only)
 have hx1 : x1 ≠ 0:=by rintro rfl; exact e0 (by grind only)
 have hy1 : y1 ≠ 0:=by rintro rfl; exact e0 (by grind only)
 have hx2 : x2 ≠ 0:=by rintro rfl; exact e0 (by grind only)
 have hi0 : i ≠ 0:=by
  rintro rfl
  exact xY g.pr (by grind only)
 have g1 : (i*x1)*(i*x1) + y1*y1 = 1 + (-d)*(i*x1)*(i*x1)*y1*y1:=by
  have a : (i*x1)*(i*x1) + y1*y1 = (i*i)*(x1*x1) + y1*y1:=by grind only
  have b : 1 + (-d)*(i*x1)*(i*x1)*y1*y1 = 1 + (-d)*(i*i)*(x1*x1)*y1*y1:=by grind only
  rw [a,b,hi]
  grind only
 have g2 : (i*x2)*(i*x2) + y2*y2 = 1 + (-d)*(i*x2)*(i*x2)*y2*y2:=by
  have a : (i*x2)*(i*x2) + y2*y2 = (i*i)*(x2*x2) + y2*y2:=by grind only
  have b : 1 + (-d)*(i*x2)*(i*x2)*y2*y2 = 1 + (-d)*(i*i)*(x2*x2)*y2*y2:=by grind only
  rw [a,b,hi]
  grind only
 have g3 : (-d)*(i*x1)*(i*x2)*y1*y2 = e:=by
  have a : (-d)*(i*x1)*(i*x2)*y1*y2 = (-d)*(i*i)*x1*x2*y1*y2:=by grind only
  rw [a,hi,<-h]
  grind only
 have key : ∀ s : Fin n,s * s = 1 -> i*x2 + s*y2 = 0:=by
  intro s hs
  by_cases hz : i*x2 + s*y2 = 0
  ·exact hz
  exfalso
  have hw : i*x1*y1*(i*x2+s*y2) ≠ 0:=eQ g.pr (eQ g.pr (eQ g.pr hi0 hx1) hy1) hz;have hm:=nH g.pr hw;have hk:=Ed.key g1 g2 g3 he hs;generalize i*x1*y1*(i*x2+s*y2) = w at hm hk;generalize i*x1 + s*e*y1 = v at hk;refine g.d (i * (v * lE w)) ?_
  have a : i * (v * lE w) * (i * (v * lE w)) = (i*i)*(v*v)*(lE w)*(lE w):=by grind only
  have b : (-1) * ((-d) * (w*w)) * lE w * lE w = d * (w * lE w) * (w * lE w):=by grind only
  rw [a,hi,hk,b,hm]
  grind only
 have k1:=key 1 (by grind only);have k2:=key (-1) (by grind only)
 have : (2 : Fin n) * (i * x2) = 0:=by grind only
 rcases zero_or g.pr this with h3 | h3
 ·exact g.two h3
 ·exact eQ g.pr hi0 hx2 h3
end Ed
end
end Nums
namespace Nums
namespace Ed
variable {n : Nat} [NeZero n] {d : Fin n}
def kk (d : Fin n) (P Q : Pt n) : Fin n:=d * P.x * Q.x * P.y * Q.y
theorem rC (g : Good n d) {P Q : Pt n} (hP : On d P) (hQ : On d Q) : 1 + kk d P Q ≠ 0:=λh =>
 complete g hP hQ (e := -1) (by grind only) (by unfold kk at h; grind only)
theorem nI (g : Good n d) {P Q : Pt n} (hP : On d P) (hQ : On d Q) : 1 - kk d P Q ≠ 0:=λh =>
 complete g hP hQ (e:=1) (by grind only) (by unfold kk at h; grind only)
def add (d : Fin n) (P Q : Pt n) : Pt n :=
  ⟨(P.x*Q.y + P.y*Q.x) * lE (1 + kk d P Q),(P.y*Q.y + P.x*Q.x) * lE (1 - kk d P Q)⟩
def zero : Pt n:=⟨0,1⟩
def neg (P : Pt n) : Pt n:=⟨-P.x,P.y⟩
theorem tD : On d (zero : Pt n):=by
 show (1 : Fin n) * 1 - 0 * 0 = 1 + d * 0 * 0 * 1 * 1
 grind only
theorem uX {P : Pt n} (h : On d P) : On d (neg P):=by
 unfold On neg at *
 show P.y * P.y - -P.x * -P.x = 1 + d * -P.x * -P.x * P.y * P.y
 grind only
theorem Dh (g : Good n d) {P Q : Pt n} (hP : On d P) (hQ : On d Q) : (add d P Q).x * (1 + kk d P Q) = P.x*Q.y + P.y*Q.x:=by
 have:=nH g.pr (rC g hP hQ)
 show (P.x*Q.y + P.y*Q.x) * lE (1 + kk d P Q) * (1 + kk d P Q) = _
 generalize lE (1 + kk d P Q) = u at *;generalize 1 + kk d P Q = v at *
 have a : (P.x*Q.y + P.y*Q.x) * u * v = (P.x*Q.y + P.y*Q.x) * (v * u):=by grind only
 rw [a,this]
 grind only
theorem Dg (g : Good n d) {P Q : Pt n} (hP : On d P) (hQ : On d Q) : (add d P Q).y * (1 - kk d P Q) = P.y*Q.y + P.x*Q.x:=by
 have:=nH g.pr (nI g hP hQ)
 show (P.y*Q.y + P.x*Q.x) * lE (1 - kk d P Q) * (1 - kk d P Q) = _
 generalize lE (1 - kk d P Q) = u at *;generalize 1 - kk d P Q = v at *
 have a : (P.y*Q.y + P.x*Q.x) * u * v = (P.y*Q.y + P.x*Q.x) * (v * u):=by grind only
 rw [a,this]
 grind only
theorem qN (g : Good n d) {P Q : Pt n} (hP : On d P) (hQ : On d Q) : On d (add d P Q):=by
 have hx:=Dh g hP hQ;have hy:=Dg g hP hQ;have h1:=rC g hP hQ;have h2:=nI g hP hQ;have c:=closed P.x P.y Q.x Q.y d hP hQ;have k1 : (1 : Fin n) + d*P.x*Q.x*P.y*Q.y = 1 + kk d P Q:=rfl;have k2 : (1 : Fin n) - d*P.x*Q.x*P.y*Q.y = 1 - kk d P Q:=rfl;rw [k1,k2] at c
 show (add d P Q).y * (add d P Q).y - (add d P Q).x * (add d P Q).x = 1 + d * (add d P Q).x * (add d P Q).x * (add d P Q).y * (add d P Q).y
 rw [<-hx,<-hy] at c;generalize (add d P Q).x = x at *;generalize (add d P Q).y = y at *;generalize 1 + kk d P Q = u at *;generalize 1 - kk d P Q = v at *
 apply cancel g.pr (eQ g.pr (eQ g.pr h1 h1) (eQ g.pr h2 h2))
 clear hP hQ hx hy
 grind only
theorem add_comm (P Q : Pt n) : add d P Q = add d Q P:=by
 unfold add kk
 have a : d * P.x * Q.x * P.y * Q.y = d * Q.x * P.x * Q.y * P.y:=by grind only
 have b : P.x*Q.y + P.y*Q.x = Q.x*P.y + Q.y*P.x:=by grind only
 have c : P.y*Q.y + P.x*Q.x = Q.y*P.y + Q.x*P.x:=by grind only
 rw [a,b,c]
theorem zero_add (g : Good n d) (P : Pt n) : add d zero P = P:=by
 unfold add kk zero
 have a : d * 0 * P.x * 1 * P.y = 0:=by grind only
 have f1 : lE (1 + 0 : Fin n) = 1:=LB g.pr (by grind only);have f2 : lE (1 - 0 : Fin n) = 1:=LB g.pr (by grind only)
 show Pt.mk ((0 * P.y + 1 * P.x) * lE (1 + d * 0 * P.x * 1 * P.y)) ((1 * P.y + 0 * P.x) * lE (1 - d * 0 * P.x * 1 * P.y)) = P
 rw [a,f1,f2]
 have b : (0 * P.y + 1 * P.x) * 1 = P.x:=by grind only
 have c : (1 * P.y + 0 * P.x) * 1 = P.y:=by grind only
 rw [b,c]
theorem add_zero (g : Good n d) (P : Pt n) : add d P zero = P:=by rw [add_comm,zero_add g]
theorem add_neg (g : Good n d) {P : Pt n} (hP : On d P) : add d P (neg P) = zero:=by
 have hm:=nI g hP (uX hP);have:=nH g.pr hm
 unfold add zero
 have a : (P.x * (neg P).y + P.y * (neg P).x) = 0:=by show P.x * P.y + P.y * -P.x = 0; grind only
 have b : P.y * (neg P).y + P.x * (neg P).x = 1 - kk d P (neg P):=by
  show P.y * P.y + P.x * -P.x = 1 - d * P.x * -P.x * P.y * P.y
  unfold On at hP
  grind only
 rw [a,b,this]
 have c : 0 * lE (1 + kk d P (neg P)) = 0:=by grind only
 rw [c]
theorem Xm (sx sy rx ry px py tx ty a b e f d : Fin n) : (sx * a * b * ry + sy * b * a * rx) * (e * f + d * px * py * (tx * e) * (ty * f))
   = (a * b * e * f) * ((sx * ry + sy * rx) * (1 + d * px * tx * py * ty)):=by grind only
theorem Xl (sx sy rx ry px py tx ty a b e f d : Fin n) : (px * (ty * f) * e + py * (tx * e) * f) * (a * b + d * (sx * a) * (sy * b) * rx * ry)
   = (a * b * e * f) * ((px * ty + py * tx) * (1 + d * sx * rx * sy * ry)):=by grind only
theorem Xk (sx sy rx ry px py tx ty a b e f d : Fin n) : (sy * b * a * ry + sx * a * b * rx) * (e * f - d * px * py * (tx * e) * (ty * f))
   = (a * b * e * f) * ((sy * ry + sx * rx) * (1 - d * px * tx * py * ty)):=by grind only
theorem Xj (sx sy rx ry px py tx ty a b e f d : Fin n) : (py * (ty * f) * e + px * (tx * e) * f) * (a * b - d * (sx * a) * (sy * b) * rx * ry)
   = (a * b * e * f) * ((py * ty + px * tx) * (1 - d * sx * rx * sy * ry)):=by grind only
theorem Xo (u z w v : Fin n) : u * (z * (w * v)) = z * (u * w * v):=by grind only
theorem Xn (t z w v : Fin n) : t * (z * (w * v)) = z * (t * v * w):=by grind only
theorem add_assoc (g : Good n d) {P Q R : Pt n} (hP : On d P) (hQ : On d Q) (hR : On d R) : add d (add d P Q) R = add d P (add d Q R):=by
 have hPQ:=qN g hP hQ;have hQR:=qN g hQ hR;have x1:=Dh g hP hQ;have y1:=Dg g hP hQ;have p1:=rC g hP hQ;have m1:=nI g hP hQ;have x2:=Dh g hQ hR;have y2:=Dg g hQ hR;have p2:=rC g hQ hR;have m2:=nI g hQ hR;have x3:=Dh g hPQ hR;have y3:=Dg g hPQ hR;have p3:=rC g hPQ hR;have m3:=nI g hPQ hR;have x4:=Dh g hP hQR;have y4:=Dg g hP hQR;have p4:=rC g hP hQR;have m4:=nI g hP hQR;have ax:=Uu P.x P.y Q.x Q.y R.x R.y d hP hQ hR;have ay:=Ut P.x P.y Q.x Q.y R.x R.y d hP hQ hR;clear hP hQ hR hPQ hQR;have c1 : (1 : Fin n) + d*P.x*Q.x*P.y*Q.y = 1 + kk d P Q:=rfl;have c2 : (1 : Fin n) - d*P.x*Q.x*P.y*Q.y = 1 - kk d P Q:=rfl;have c3 : (1 : Fin n) + d*Q.x*R.x*Q.y*R.y = 1 + kk d Q R:=rfl;have c4 : (1 : Fin n) - d*Q.x*R.x*Q.y*R.y = 1 - kk d Q R:=rfl;rw [c1,c2,c3,c4,<-x1,<-y1,<-x2,<-y2] at ax ay
 have ex : (add d (add d P Q) R).x = (add d P (add d Q R)).x:=by
  generalize add d (add d P Q) R = U at *;generalize add d P (add d Q R) = V at *
  unfold kk at x3 p3 x4 p4
  generalize add d P Q = S at *;generalize add d Q R = T at *;generalize 1 + kk d P Q = a at *;generalize 1 - kk d P Q = b at *;generalize 1 + kk d Q R = e at *;generalize 1 - kk d Q R = f at *
  -- ax: (S.x a b R.y + S.y b a R.x) (e f + d P.x P.y (T.x e)(T.y f)) = (P.x T.y f e + P.y T.x e f) (a b + d (S.x a)(S.y b) R.x R.y)
  rw [Xm,Xl,<-x3,<-x4] at ax;have hne:=eQ g.pr (eQ g.pr (eQ g.pr p1 m1) p2) m2
  apply cancel g.pr (eQ g.pr hne (eQ g.pr p3 p4))
  clear x1 y1 x2 y2 x3 y3 x4 y4 ay c1 c2 c3 c4 hne p1 p2 m1 m2 m3 m4;generalize a * b * e * f = z at *;generalize 1 + d * S.x * R.x * S.y * R.y = w at *;generalize 1 + d * P.x * T.x * P.y * T.y = v at *;generalize U.x = u at *;generalize V.x = t at *;clear g p3 p4;rw [Xo,Xn,ax]
 have ey : (add d (add d P Q) R).y = (add d P (add d Q R)).y:=by
  generalize add d (add d P Q) R = U at *;generalize add d P (add d Q R) = V at *
  unfold kk at y3 m3 y4 m4
  generalize add d P Q = S at *;generalize add d Q R = T at *;generalize 1 + kk d P Q = a at *;generalize 1 - kk d P Q = b at *;generalize 1 + kk d Q R = e at *;generalize 1 - kk d Q R = f at *;rw [Xk,Xj,<-y3,<-y4] at ay;have hne:=eQ g.pr (eQ g.pr (eQ g.pr p1 m1) p2) m2
  apply cancel g.pr (eQ g.pr hne (eQ g.pr m3 m4))
  clear x1 y1 x2 y2 x3 y3 x4 y4 ax c1 c2 c3 c4 hne p1 p2 m1 m2 p3 p4;generalize a * b * e * f = z at *;generalize 1 - d * S.x * R.x * S.y * R.y = w at *;generalize 1 - d * P.x * T.x * P.y * T.y = v at *;generalize U.y = u at *;generalize V.y = t at *;clear g m3 m4;rw [Xo,Xn,ay]
 have eta : ∀ A B : Pt n,A.x = B.x -> A.y = B.y -> A = B:=by
  rintro ⟨_,_⟩ ⟨_,_⟩ h1 h2
  simp only at h1 h2;rw [h1,h2]
 exact eta _ _ ex ey
end Ed
end Nums
namespace Nums
namespace Ed
variable {n : Nat} [NeZero n] {d : Fin n}
def mul (d : Fin n) : Nat -> Pt n -> Pt n
  | 0,_=>zero
  | k + 1,P=>add d (mul d k P) P
theorem zF (P : Pt n) : mul d 0 P = zero:=rfl
theorem mul_succ (k : Nat) (P : Pt n) : mul d (k + 1) P = add d (mul d k P) P:=rfl
theorem kN (g : Good n d) {P : Pt n} (hP : On d P) (k : Nat) : On d (mul d k P):=by
 induction k with
 | zero=>exact tD
 | succ k ih=>exact qN g ih hP
theorem Hs (g : Good n d) (P : Pt n) : mul d 1 P = P:=by rw [mul_succ,zF,zero_add g]
theorem XA (g : Good n d) (P : Pt n) : mul d 2 P = add d P P:=by rw [mul_succ,Hs g]
theorem mul_add (g : Good n d) {P : Pt n} (hP : On d P) (j k : Nat) : mul d (j + k) P = add d (mul d j P) (mul d k P):=by
 induction k with
 | zero=>rw [fN,zF,add_zero g]
 | succ k ih=>rw [<-Nat.add_assoc,mul_succ,mul_succ,ih,add_assoc g (kN g hP j) (kN g hP k) hP]
theorem mul_zero (g : Good n d) (k : Nat) : mul d k (zero : Pt n) = zero:=by
 induction k with
 | zero=>rfl
 | succ k ih=>rw [mul_succ,ih,zero_add g]
theorem wF (g : Good n d) {P : Pt n} (hP : On d P) (j k : Nat) : mul d (j * k) P = mul d k (mul d j P):=by
 induction k with
 | zero=>rw [Nat.mul_zero,zF,zF]
 | succ k ih=>rw [Nat.mul_succ,mul_add g hP,ih,mul_succ]
theorem IP (g : Good n d) {A B C D : Pt n} (hA : On d A) (hB : On d B) (hC : On d C) (hD : On d D) :
  add d (add d A B) (add d C D) = add d (add d A C) (add d B D):=by
 rw [add_assoc g hA hB (qN g hC hD),add_assoc g hA hC (qN g hB hD),<-add_assoc g hB hC hD,<-add_assoc g hC hB hD,add_comm B C]
theorem VN (g : Good n d) {P Q : Pt n} (hP : On d P) (hQ : On d Q) (h : add d P Q = zero) : Q = neg P:=by
 have a : add d (neg P) (add d P Q) = Q:=by
  rw [<-add_assoc g (uX hP) hP hQ,add_comm (neg P) P,add_neg g hP,zero_add g]
 rw [h,add_zero g] at a;exact a.symm
theorem neg_zero : neg (zero : Pt n) = zero:=by
 show Pt.mk (-0 : Fin n) 1 = Pt.mk 0 1
 have : (-0 : Fin n) = 0:=by grind only
 rw [this]
theorem neg_add (g : Good n d) {P Q : Pt n} (hP : On d P) (hQ : On d Q) : neg (add d P Q) = add d (neg P) (neg Q):=by
 symm
 apply VN g (qN g hP hQ) (qN g (uX hP) (uX hQ))
 rw [IP g hP hQ (uX hP) (uX hQ),add_neg g hP,add_neg g hQ,zero_add g]
theorem mul_neg (g : Good n d) {P : Pt n} (hP : On d P) (k : Nat) : mul d k (neg P) = neg (mul d k P):=by
 induction k with
 | zero=>rw [zF,zF,neg_zero]
 | succ k ih=>rw [mul_succ,mul_succ,ih,neg_add g (kN g hP k) hP]
theorem mul_mod (g : Good n d) {P : Pt n} (hP : On d P) {L : Nat} (hL : mul d L P = zero) (k : Nat) : mul d k P = mul d (k % L) P:=by
 have h:=mul_add g hP (L * (k / L)) (k % L);rw [wF g hP,hL,mul_zero g,zero_add g,Nat.div_add_mod] at h;exact h
theorem Em (g : Good n d) {P : Pt n} (hP : On d P) (a b : Nat) : mul d a (mul d b P) = mul d (a * b) P:=by
 rw [iH,wF g hP]
theorem RR (g : Good n d) {P : Pt n} (hP : On d P) {j k a b : Nat} (hj : mul d j P = zero) (hk : mul d k P = zero) (h : j * a = k * b + 1) : P = zero:=by
 have h1 : mul d (j * a) P = zero:=by rw [wF g hP,hj,mul_zero g]
 rw [h,mul_add g hP,wF g hP,hk,mul_zero g,zero_add g,Hs g] at h1;exact h1
structure Rep (X Y Z : Fin n) (P : Pt n) : Prop where
  z : Z ≠ 0
  x : X = P.x * Z
  y : Y = P.y * Z
theorem Rep.zero (hn : dQ n) : Rep (0 : Fin n) 1 1 zero where
 z:=λh=>xY hn h.symm
 x:=by show (0 : Fin n) = 0 * 1; grind only
 y:=by show (1 : Fin n) = 1 * 1; grind only
theorem Rep.neg {X Y Z : Fin n} {P : Pt n} (r : Rep X Y Z P) : Rep (-X) Y Z (neg P) where
 z:=r.z
 x:=by
  rw [r.x]
  show -(P.x * Z) = -P.x * Z
  grind only
 y:=r.y
theorem V5 {X1 Y1 Z1 X2 Y2 Z2 : Fin n} {P Q : Pt n} (r : Rep X1 Y1 Z1 P) (s : Rep X2 Y2 Z2 Q) :
  d * ((X1 * X2) * (Y1 * Y2)) = kk d P Q * ((Z1 * Z2) * (Z1 * Z2)):=by
 rw [r.x,r.y,s.x,s.y]
 unfold kk
 grind only
theorem Rep.add (g : Good n d) {X1 Y1 Z1 X2 Y2 Z2 : Fin n} {P Q : Pt n} (hP : On d P) (hQ : On d Q) (r : Rep X1 Y1 Z1 P) (s : Rep X2 Y2 Z2 Q)
  {z m : Fin n} (hz : z = Z1 * Z2) (hm : m = d * ((X1 * X2) * (Y1 * Y2))) :
  Rep (((X1 * Y2 + Y1 * X2) * z) * (z * z - m)) (((Y1 * Y2 + X1 * X2) * z) * (z * z + m)) ((z * z + m) * (z * z - m)) (add d P Q):=by
 have hzn : z ≠ 0:=hz ▸ eQ g.pr r.z s.z
 have hm2 : m = kk d P Q * (z * z):=by rw [hm,hz,V5 r s]
 have p1 : z * z + m = (1 + kk d P Q) * (z * z):=by rw [hm2]; grind only
 have p2 : z * z - m = (1 - kk d P Q) * (z * z):=by rw [hm2]; grind only
 have nx : X1 * Y2 + Y1 * X2 = (P.x * Q.y + P.y * Q.x) * z:=by rw [r.x,r.y,s.x,s.y,hz]; grind only
 have ny : Y1 * Y2 + X1 * X2 = (P.y * Q.y + P.x * Q.x) * z:=by rw [r.x,r.y,s.x,s.y,hz]; grind only
 have hx:=Dh g hP hQ;have hy:=Dg g hP hQ;have n1:=rC g hP hQ;have n2:=nI g hP hQ
 constructor
 ·rw [p1,p2]
  exact eQ g.pr (eQ g.pr n1 (eQ g.pr hzn hzn)) (eQ g.pr n2 (eQ g.pr hzn hzn))
 ·rw [p1,p2,nx,<-hx]
  grind only
 ·rw [p1,p2,ny,<-hy]
  grind only
theorem Rep.same (hn : dQ n) {X Y Z : Fin n} {P Q : Pt n} (r : Rep X Y Z P) (s : Rep X Y Z Q) : P = Q:=by
 have hx : P.x = Q.x:=cancel hn r.z (r.x.symm.trans s.x);have hy : P.y = Q.y:=cancel hn r.z (r.y.symm.trans s.y)
 cases P
 cases Q
 simp only at hx hy;rw [hx,hy]
theorem Rep.aff (hn : dQ n) {X Y Z : Fin n} {P : Pt n} (r : Rep X Y Z P) : X * lE Z = P.x /\ Y * lE Z = P.y:=by
 have h:=nH hn r.z
 have a : ∀ u : Fin n,u * Z * lE Z = u * (Z * lE Z):=λu=>by grind only
 have b : ∀ u : Fin n,u * 1 = u:=λu=>by grind only
 rw [r.x,r.y,a,a,h,b,b];exact ⟨rfl,rfl⟩
end Ed
end Nums
namespace Nums
instance : NeZero p:=⟨by decide⟩
abbrev F:=Fin p
def fof (k : Nat) : F:=⟨k % p,eJ _ (by decide)⟩
theorem wL (k : Nat) : (fof k).val = k % p:=rfl
theorem pQ (a b : Nat) : fof (a + b) = fof a + fof b:=by
 apply nU
 show (a + b) % p = (a % p + b % p) % p
 rw [<-Nat.add_mod]
theorem jV (a b : Nat) : fof (a * b) = fof a * fof b:=by
 apply nU
 show (a * b) % p = (a % p * (b % p)) % p
 rw [<-xL]
theorem zN (a : Nat) : fof (a % p) = fof a:=by
 apply nU
 show a % p % p = a % p
 rw [Nat.mod_mod]
theorem qU {a b : Nat} (h : a % p = b % p) : fof a = fof b:=nU h
theorem vB : fof 0 = 0:=by
 apply nU
 show 0 % p = 0 % p
 rfl
theorem oT : fof 1 = 1:=by
 apply nU
 show 1 % p = 1 % p
 rfl
theorem Wd (a : F) : fof a.val = a:=by
 apply nU
 exact bR a.isLt
theorem BQ {a b : Nat} (h : b <= a) : fof (a - b) = fof a - fof b:=by
 have : fof a = fof (a - b) + fof b:=by rw [<-pQ,Nat.sub_add_cancel h]
 rw [this];generalize fof (a - b) = u;generalize fof b = v
 grind only
theorem TL (a k : Nat) : fof (a ^ k) = gC (fof a) k:=by
 induction k with
 | zero=>exact oT
 | succ k ih=>rw [dD,jV,ih,iG]
theorem QD {a e : Nat} (k : Nat) (h : e < 2 ^ k) : gC (fof a) e = fof (pm p a k e):=by
 rw [Pd p a k e h,zN,TL]
def ph : Nat:=28948022309329048855892746252171976963317496166410141009864396001978282409974
def pq : Nat:=14474011154664524427946373126085988481658748083205070504932198000989141204987
def pe : Nat:=7237005577332262213973186563042994240829374041602535252466099000494570602494
theorem VA : pq * 2 = ph:=by decide
def im : F:=gC (fof 2) pq
theorem UP : im * im = -1:=by
 unfold im
 rw [<-sI,show pq + pq = ph from by decide,QD 255 (by decide)];have : fof (pm p 2 255 ph) = fof (p - 1):=qU (by decide +kernel);rw [this,BQ (by decide),oT,show fof p = 0 from qU (a:=p) (b:=0) (by decide)];generalize (1 : F) = u
 grind only
theorem Va : (2 : F) ≠ 0:=by
 intro h
 have h1 : (2 : F).val = (0 : F).val:=by rw [h]
 revert h1
 decide
theorem Ip {a : F} (ha : a ≠ 0) : gC (a * a) ph = 1:=by
 rw [PX,<-sI,show ph + ph = p - 1 from by decide];exact Bh iF ha
theorem Ti {w : F} (h0 : w ≠ 0) (h : gC w ph ≠ 1) (x : F) : x * x ≠ w:=by
 rintro rfl
 apply h
 apply Ip
 rintro rfl
 exact h0 (by grind only)
theorem Tl {a : F} (h : a ≠ 0) : (-a).val = p - a.val:=by
 have h1 : a.val ≠ 0:=λh2=>h (nU h2);have h2:=a.isLt
 have h3 : fof (p - a.val) = -a:=by
  rw [BQ (by omega),Wd,show fof p = 0 from qU (a:=p) (b:=0) (by decide)]
  grind only
 rw [<-h3,wL];exact bR (by omega)
theorem Xq : p % 2 = 1:=by decide
theorem BP {a : F} (h : a ≠ 0) : (-a).val % 2 = 1 - a.val % 2:=by
 rw [Tl h];have h2:=a.isLt;have h3:=Xq
 omega
def dn : Nat:=37095705934669439343138083508754565189542113879843219016388785533085940283555
def dd : F:=fof dn
theorem X4 : dd ≠ 0:=λh=>by
 have:=congrArg Fin.val h
 revert this
 decide
theorem Wy : gC dd ph ≠ 1:=by
 unfold dd
 rw [QD 255 (by decide)]
 intro h
 have:=congrArg Fin.val h
 revert this
 rw [wL]
 decide +kernel
theorem jC : Ed.Good p dd where
 pr:=iF
 two:=Va
 i:=⟨im,UP⟩
 d:=Ti X4 Wy
def bx : Nat:=15112221349535400772501151409588531511454012693041857206046113283949847762202
def bY : Nat:=46316835694926478169428394003475163141307993866256225615783033603165251855960
def base : Ed.Pt p:=⟨fof bx,fof bY⟩
theorem mO : Ed.On dd base:=by
 show fof bY * fof bY - fof bx * fof bx = 1 + dd * fof bx * fof bx * fof bY * fof bY
 unfold dd
 have h : fof (bY * bY) = fof (bx * bx + (1 + dn * bx * bx * bY * bY)):=qU (by decide +kernel);rw [jV,pQ,pQ,jV,jV,jV,jV,jV,oT] at h;rw [h];generalize fof bx = u;generalize fof bY = v;generalize fof dn = w
 grind only
end Nums
namespace Nums
def forced {α : Type} (x : Nat) (f : Nat -> α) : α :=
  match x with
  | 0=>f 0
  | k + 1=>f (k + 1)
theorem pZ {α : Type} (x : Nat) (f : Nat -> α) : forced x f = f x:=by cases x <;> rfl
structure Tri where
  x : Nat
  y : Nat
  z : Nat
def s7 (a b : Tri) : Tri :=
  forced (a.z * b.z % p) λz=>forced (z * z % p) λzz=>forced (dn * (a.x * b.x % p * (a.y * b.y % p) % p) % p) λm =>
  forced ((zz + m) % p) λpl=>forced ((zz + p - m) % p) λmi =>
  forced ((a.x * b.y + a.y * b.x) % p * z % p * mi % p) λx=>forced ((a.y * b.y + a.x * b.x) % p * z % p * pl % p) λy =>
  forced (pl * mi % p) λw=>⟨x,y,w⟩
def Cc : Nat -> Nat -> Tri -> Tri -> Tri
  | 0,_,acc,_=>acc
  | n + 1,k,acc,q=>Cc n (k / 2) (if k % 2 = 1 then s7 acc q else acc) (s7 q q)
def qV (t : Tri) (P : Ed.Pt p) : Prop:=Ed.Rep (fof t.x) (fof t.y) (fof t.z) P
theorem Cd {a b : Tri} {P Q : Ed.Pt p} (hP : Ed.On dd P) (hQ : Ed.On dd Q) (ha : qV a P) (hb : qV b Q) : qV (s7 a b) (Ed.add dd P Q):=by
 unfold s7
 simp only [pZ];have h:=Ed.Rep.add jC hP hQ ha hb rfl rfl
 unfold qV
 simp only
 generalize hz : a.z * b.z % p = z;generalize hm : dn * (a.x * b.x % p * (a.y * b.y % p) % p) % p = m
 have ez : fof z = fof a.z * fof b.z:=by rw [<-hz,zN,jV]
 have em : fof m = dd * ((fof a.x * fof b.x) * (fof a.y * fof b.y)):=by
  rw [<-hm];simp only [zN,jV]
  rfl
 have hmp : m < p:=by rw [<-hm]; exact eJ _ (by decide)
 have es : fof (z * z % p + p - m) = fof z * fof z - fof m:=by
  rw [BQ (by omega),pQ,zN,jV,show fof p = 0 from qU (a:=p) (b:=0) (by decide)]
  grind only
 rw [<-ez,<-em] at h;simp only [zN,jV,pQ,es];exact h
theorem xQ : ∀ (n k : Nat) (acc q : Tri) (A Q : Ed.Pt p),k < 2 ^ n -> Ed.On dd A -> Ed.On dd Q -> qV acc A -> qV q Q -> qV (Cc n k acc q) (Ed.add dd A (Ed.mul dd k Q))
 | 0,k,acc,q,A,Q,hk,hA,hQ,ha,hq=>by
  have : k = 0:=by simp at hk; omega
  subst this;rw [Ed.zF,Ed.add_zero jC];exact ha
 | n + 1,k,acc,q,A,Q,hk,hA,hQ,ha,hq=>by
  have hk2 : k / 2 < 2 ^ n:=by rw [dD] at hk; omega
  have h2:=Cd hQ hQ hq hq;have o2:=Ed.qN jC hQ hQ
  have e2 : Ed.mul dd (k / 2) (Ed.add dd Q Q) = Ed.mul dd (2 * (k / 2)) Q:=by
   rw [Ed.wF jC hQ,Ed.XA jC]
  show qV (Cc n (k / 2) (if k % 2 = 1 then s7 acc q else acc) (s7 q q)) _
  by_cases h : k % 2 = 1
  ·rw [if_pos h]
   have ih:=xQ n (k / 2) (s7 acc q) (s7 q q) (Ed.add dd A Q) (Ed.add dd Q Q) hk2 (Ed.qN jC hA hQ) o2 (Cd hA hQ ha hq) h2;rw [e2,Ed.add_assoc jC hA hQ (Ed.kN jC hQ _),Ed.add_comm Q,<-Ed.mul_succ,show 2 * (k / 2) + 1 = k by omega] at ih;exact ih
  ·rw [if_neg h]
   have ih:=xQ n (k / 2) acc (s7 q q) A (Ed.add dd Q Q) hk2 hA o2 ha h2;rw [e2,show 2 * (k / 2) = k by omega] at ih;exact ih
def LL : Nat:=7237005577332262213973186563042994240857116359379907606001950938285454250989
def ending : Bool :=
  let t:=Cc 253 LL ⟨0,1,1⟩ ⟨bx,bY,1⟩
  forced t.x λx=>forced t.y λy=>forced t.z λz=>Nat.beq (x % p) 0 && Nat.beq (y % p) (z % p)
theorem Ir : ending = true:=by decide +kernel
theorem order : Ed.mul dd LL base = Ed.zero:=by
 have ha : qV ⟨0,1,1⟩ Ed.zero:=by
  have:=Ed.Rep.zero iF
  unfold qV
  rw [vB,oT];exact this
 have hq : qV ⟨bx,bY,1⟩ base:=by
  refine ⟨?_,?_,?_⟩
  ·show fof 1 ≠ 0
   rw [oT];exact λh=>xY iF h.symm
  ·show fof bx = fof bx * fof 1
   rw [oT]
   grind only
  ·show fof bY = fof bY * fof 1
   rw [oT]
   grind only
 have h:=xQ 253 LL _ _ Ed.zero base (by decide) Ed.tD mO ha hq;rw [Ed.zero_add jC] at h;have e:=Ir
 unfold ending at e
 simp only [pZ] at e;generalize Cc 253 LL ⟨0,1,1⟩ ⟨bx,bY,1⟩ = t at h e;rw [aW] at e;obtain ⟨e1,e2⟩:=e;have e1:=bD e1;have e2:=bD e2;have x0 : fof t.x = 0:=nU e1;have yz : fof t.y = fof t.z:=nU e2
 have hz : Ed.Rep (fof t.x) (fof t.y) (fof t.z) Ed.zero:=by
  refine ⟨h.z,?_,?_⟩
  ·rw [x0]
   show (0 : F) = 0 * fof t.z
   grind only
  ·rw [yz]
   show fof t.z = 1 * fof t.z
   grind only
 exact Ed.Rep.same iF h hz
end Nums
namespace Nums
def Small (l : List Int) : Prop:=∀ x ∈ l,0 <= x /\ x < 65536
end Nums
namespace Nums
end Nums
namespace Nums
def le : List UInt8 -> Nat
  | []=>0
  | b :: bs=>b.toNat + 256 * le bs
def split : List Int -> List UInt8
  | []=>[]
  | d :: ds=>cR (d % 256).toNat :: cR (d / 256).toNat :: split ds
theorem x9 : ∀ {a b : List UInt8},a.length = b.length -> le a = le b -> a = b
 | [],[],_,_=>rfl
 | x :: a,y :: b,hl,h=>by
  have h1:=x.toNat_lt;have h2:=y.toNat_lt;have h3 : x.toNat + 256 * le a = y.toNat + 256 * le b:=h;have h4 : x = y:=UInt8.toNat.inj (by omega);have h5:=x9 (a:=a) (b:=b) (by simpa using hl) (by omega);rw [h4,h5]
def bytes : Nat -> Nat -> List UInt8
  | 0,_=>[]
  | k + 1,v=>cR v :: bytes k (v / 256)
theorem cP : ∀ k v,(bytes k v).length = k
 | 0,_=>rfl
 | k + 1,v=>by show (bytes k (v / 256)).length + 1 = k + 1; rw [cP]
theorem o5 : ∀ k v,le (bytes k v) = v % 256 ^ k
 | 0,v=>by show 0 = v % 1; omega
 | k + 1,v=>by
  show (cR v).toNat + 256 * le (bytes k (v / 256)) = v % 256 ^ (k + 1)
  rw [o5,Bn,show 256 ^ (k + 1) = 256 * 256 ^ k by rw [dD,iH],Nat.mod_mul]
def enc (x : F) : List UInt8:=bytes 32 x.val
theorem lI (x : F) : (enc x).length = 32:=cP _ _
theorem yA (x : F) : le (enc x) = x.val:=by
 unfold enc
 rw [o5];exact bR (Nat.lt_trans x.isLt (by decide))
theorem TZ {x y : F} (h : enc x = enc y) : x = y:=by
 apply nU
 rw [<-yA,<-yA,h]
theorem Wu {b : List UInt8} (hb : b.length = 32) {x : F} (h : le b = x.val) : b = enc x :=
 x9 (by rw [hb,lI]) (by rw [h,yA])
end Nums
namespace Go.Proofs.YtfkchihlchlfdaaGreatDoor
open Go.RowKit Go.IntWalk
theorem oN : ∀ (k v : Nat) {m : Nat},m < k -> ((Nums.bytes k v)[m]!).toNat = v / 256 ^ m % 256
 | k + 1,v,0,_=>by
  show (cR v).toNat = v / 1 % 256
  rw [Bn,Nat.div_one]
 | k + 1,v,m + 1,h=>by
  have ih:=oN k (v / 256) (m:=m) (by omega)
  show ((Nums.bytes k (v / 256))[m]!).toNat = v / 256 ^ (m + 1) % 256
  rw [ih,Nat.div_div_eq_div_mul,dD,iH 256]
end Go.Proofs.YtfkchihlchlfdaaGreatDoor
namespace Nums
def eD (w n x : Nat) : Nat:=x / 2 ^ n + x % 2 ^ n * 2 ^ (w - n)
def chw (w e f g : Nat) : Nat:=(e &&& f) ^^^ ((2 ^ w - 1 - e) &&& g)
def maw (a b c : Nat) : Nat:=(a &&& b) ^^^ (a &&& c) ^^^ (b &&& c)
structure Sha where
  w : Nat
  n : Nat
  big1 : Nat × Nat × Nat
  big0 : Nat × Nat × Nat
  JP : Nat × Nat × Nat
  low0 : Nat × Nat × Nat
  k : Nat -> Nat
  start : List Nat
def pI (w : Nat) (t : Nat × Nat × Nat) (x : Nat) : Nat:=eD w t.1 x ^^^ eD w t.2.1 x ^^^ eD w t.2.2 x
def pO (w : Nat) (t : Nat × Nat × Nat) (x : Nat) : Nat:=eD w t.1 x ^^^ eD w t.2.1 x ^^^ x / 2 ^ t.2.2
def sqs : List Nat:=[7640891576956012808,13503953896175478587,4354685564936845355,11912009170470909681,5840696475078001361,11170449401992604703,2270897969802886507,6620516959819538809]
def cbs : List Nat:=[4794697086780616226,8158064640168781261,13096744586834688815,16840607885511220156,4131703408338449720,6480981068601479193,10538285296894168987,12329834152419229976,15566598209576043074,1334009975649890238,2608012711638119052,6128411473006802146,8268148722764581231,9286055187155687089,11230858885718282805,13951009754708518548,16472876342353939154,17275323862435702243,1135362057144423861,2597628984639134821,3308224258029322869,5365058923640841347,6679025012923562964,8573033837759648693,10970295158949994411,12119686244451234320,12683024718118986047,13788192230050041572,14330467153632333762,15395433587784984357,489312712824947311,1452737877330783856,2861767655752347644,3322285676063803686,5560940570517711597,5996557281743188959,7280758554555802590,8532644243296465576,9350256976987008742,10552545826968843579,11727347734174303076,12113106623233404929,14000437183269869457,14369950271660146224,15101387698204529176,15463397548674623760,17586052441742319658,1182934255886127544,1847814050463011016,2177327727835720531,2830643537854262169,3796741975233480872,4115178125766777443,5681478168544905931,6601373596472566643,7507060721942968483,8399075790359081724,8693463985226723168,9568029438360202098,10144078919501101548,10430055236837252648,11840083180663258601,13761210420658862357,14299343276471374635,14566680578165727644,15097957966210449927,16922976911328602910,17689382322260857208,500013540394364858,748580250866718886,1242879168328830382,1977374033974150939,2944078676154940804,3659926193048069267,4368137639120453308,4836135668995329356,5532061633213252278,6448918945643986474,6902733635092675308,7801388544844847127]
def eT : Sha where
  w:=64
  n:=80
  big1:=(14,18,41)
  big0:=(28,34,39)
  JP:=(19,61,6)
  low0:=(1,8,7)
  k:=λt=>cbs[t]!
  start:=sqs
def cH : Sha where
  w:=32
  n:=64
  big1:=(6,11,25)
  big0:=(2,13,22)
  JP:=(17,19,10)
  low0:=(7,18,3)
  k:=λt=>cbs[t]! / 4294967296
  start:=sqs.map (· / 4294967296)
def ben (f : Nat -> Nat) : Nat -> Nat
  | 0=>0
  | j + 1=>ben f j * 256 + f j
theorem FU {f : Nat -> Nat} (h : ∀ j,f j < 256) : ∀ j,ben f j < 256 ^ j
 | 0=>Nat.one_pos
 | j + 1=>by
  have h1:=FU h j;have h2:=h j
  show ben f j * 256 + f j < 256 ^ (j + 1)
  rw [dD]
  omega
def IE (s : Sha) (b : List UInt8) (t : Nat) : Nat:=ben (λk=>(b[t * (s.w / 8) + k]!).toNat) (s.w / 8)
def sx (s : Sha) (b : List UInt8) (t : Nat) : Nat :=
  if _h : t < 16 then IE s b t else (pO s.w s.JP (sx s b (t - 2)) + sx s b (t - 7) + pO s.w s.low0 (sx s b (t - 15)) + sx s b (t - 16)) % 2 ^ s.w
termination_by t
decreasing_by all_goals omega
structure Oct where
  a : Nat
  b : Nat
  c : Nat
  d : Nat
  e : Nat
  f : Nat
  g : Nat
  h : Nat
def Oct.list (o : Oct) : List Nat:=[o.a,o.b,o.c,o.d,o.e,o.f,o.g,o.h]
def t1w (s : Sha) (k x : Nat) (o : Oct) : Nat:=o.h + pI s.w s.big1 o.e + chw s.w o.e o.f o.g + k + x
def t2w (s : Sha) (o : Oct) : Nat:=pI s.w s.big0 o.a + maw o.a o.b o.c
def rnd (s : Sha) (k x : Nat) (o : Oct) : Oct:=⟨(t1w s k x o + t2w s o) % 2 ^ s.w,o.a,o.b,o.c,(o.d + t1w s k x o) % 2 ^ s.w,o.e,o.f,o.g⟩
def oI (s : Sha) (b : List UInt8) (o : Oct) : Nat -> Oct
  | 0=>o
  | t + 1=>rnd s (s.k t) (sx s b t) (oI s b o t)
def Di (w : Nat) (o p : Oct) : Oct:=⟨(o.a + p.a) % 2 ^ w,(o.b + p.b) % 2 ^ w,(o.c + p.c) % 2 ^ w,(o.d + p.d) % 2 ^ w,(o.e + p.e) % 2 ^ w,(o.f + p.f) % 2 ^ w,(o.g + p.g) % 2 ^ w,(o.h + p.h) % 2 ^ w⟩
def iT (s : Sha) (o : Oct) (b : List UInt8) : Oct:=Di s.w o (oI s b o s.n)
theorem gY {a b w : Nat} (ha : a < 2 ^ w) (hb : b < 2 ^ w) : a ^^^ b < 2 ^ w:=Nat.xor_lt_two_pow ha hb
theorem iC {a b w : Nat} (ha : a < 2 ^ w) : a &&& b < 2 ^ w:=bX Nat.and_le_left ha
theorem eL {w n x : Nat} (hn : n <= w) (hx : x < 2 ^ w) : eD w n x < 2 ^ w:=by
 have e : (2 : Nat) ^ w = 2 ^ n * 2 ^ (w - n):=by rw [<-pL,Bp hn]
 have h1 : x / 2 ^ n < 2 ^ (w - n):=DM (by rw [<-e]; exact hx);have h2 : x % 2 ^ n + 1 <= 2 ^ n:=eJ _ (l5 n);have h3:=Nat.mul_le_mul_right (2 ^ (w - n)) h2;rw [<-e,sA,rZ] at h3
 unfold eD
 omega
theorem wV {w x : Nat} {t : Nat × Nat × Nat} (h : t.1 <= w /\ t.2.1 <= w /\ t.2.2 <= w) (hx : x < 2 ^ w) : pI w t x < 2 ^ w :=
 gY (gY (eL h.1 hx) (eL h.2.1 hx)) (eL h.2.2 hx)
theorem Li {w x : Nat} {t : Nat × Nat × Nat} (h : t.1 <= w /\ t.2.1 <= w) (hx : x < 2 ^ w) : pO w t x < 2 ^ w :=
 gY (gY (eL h.1 hx) (eL h.2 hx)) (bX (gD _ _) hx)
theorem Kf {w e f g : Nat} (he : e < 2 ^ w) : chw w e f g < 2 ^ w:=gY (iC he) (iC (by have:=l5 w; omega))
theorem JN {w a b c : Nat} (ha : a < 2 ^ w) (hb : b < 2 ^ w) : maw a b c < 2 ^ w:=gY (gY (iC ha) (iC ha)) (iC hb)
theorem Gu (s : Sha) (b : List UInt8) (hw : s.w / 8 * 8 = s.w) (t : Nat) : sx s b t < 2 ^ s.w:=by
 rw [sx]
 split
 ·have h:=FU (f:=λk=>(b[t * (s.w / 8) + k]!).toNat) (λj=>UInt8.toNat_lt _) (s.w / 8)
  rw [show (256 : Nat) = 2 ^ 8 from rfl,<-xJ,iH 8,hw] at h;exact h
 ·exact eJ _ (l5 _)
structure OB (w : Nat) (o : Oct) : Prop where
  a : o.a < 2 ^ w
  b : o.b < 2 ^ w
  c : o.c < 2 ^ w
  d : o.d < 2 ^ w
  e : o.e < 2 ^ w
  f : o.f < 2 ^ w
  g : o.g < 2 ^ w
  h : o.h < 2 ^ w
theorem OB.rnd {s : Sha} {o : Oct} (h : OB s.w o) (k x : Nat) : OB s.w (rnd s k x o) :=
 ⟨eJ _ (l5 _),h.a,h.b,h.c,eJ _ (l5 _),h.e,h.f,h.g⟩
theorem OB.oI {s : Sha} {b : List UInt8} {o : Oct} (h : OB s.w o) : ∀ t,OB s.w (oI s b o t)
 | 0=>h
 | t + 1=>(OB.oI h t).rnd _ _
theorem OB.Di (w : Nat) (o p : Oct) : OB w (Di w o p):=by
 constructor <;> exact eJ _ (l5 _)
theorem OB.iT (s : Sha) (o : Oct) (b : List UInt8) : OB s.w (iT s o b):=OB.Di _ _ _
theorem Yb {w e f g : Nat} (he : e < 2 ^ w) : (e &&& f) ||| ((2 ^ w - 1 - e) &&& g) = chw w e f g:=by
 unfold chw
 apply Ac
 intro i
 simp only [Nat.testBit_or,F7,Nat.testBit_and];have h:=F8 he i;rw [show 2 ^ w - 1 - e = 2 ^ w - (e + 1) by omega,h]
 cases e.testBit i <;> cases f.testBit i <;> cases g.testBit i <;> simp
theorem XD (a b c : Nat) : (a &&& b) ||| (a &&& c) ||| (b &&& c) = maw a b c:=by
 unfold maw
 apply Ac
 intro i
 simp only [Nat.testBit_or,F7,Nat.testBit_and]
 cases a.testBit i <;> cases b.testBit i <;> cases c.testBit i <;> rfl
def kC (s : Sha) (B : Nat) (o : Oct) (l : List UInt8) : Oct :=
  if _h : B = 0 \/ l.length < B then o else kC s B (iT s o (l.take B)) (l.drop B)
termination_by l.length
decreasing_by
  rw [fW]
  omega
theorem jP {s : Sha} {B : Nat} {o : Oct} {l : List UInt8} (h : l.length < B) : kC s B o l = o:=by
 rw [kC,dif_pos (.inr h)]
theorem lR {s : Sha} {B : Nat} {o : Oct} {b l : List UInt8} (hB : 0 < B) (h : b.length = B) : kC s B o (b ++ l) = kC s B (iT s o b) l:=by
 rw [kC,dif_neg (by rw [aI]; omega),<-h,List.take_left,List.drop_left]
theorem rB {s : Sha} {B : Nat} (hB : 0 < B) : ∀ (n : Nat) {o : Oct} {a l : List UInt8},a.length = n * B -> kC s B o (a ++ l) = kC s B (kC s B o a) l
 | 0,o,a,l,h=>by
  have h0 : a = []:=cM (by omega);subst h0;rw [List.nil_append,jP (l:=[]) (by simpa using hB)]
 | n + 1,o,a,l,h=>by
  have hl : (a.take B).length = B:=by rw [aY,h,sA]; omega
  have hd : (a.drop B).length = n * B:=by rw [fW,h,sA]; omega
  have e : a = a.take B ++ a.drop B:=(dR B a).symm;rw [e,aU,lR hB hl,lR hB hl,rB hB n hd]
def tP (v : Nat) : List UInt8:=(bytes 8 v).reverse
def jY (B r v : Nat) : List UInt8:=128 :: (aE ((if r + 1 <= B - B / 8 then B else 2 * B) - 9 - r) 0 ++ tP v)
def Oi (s : Sha) (m : List UInt8) : Oct:=kC s (2 * s.w) (⟨s.start[0]!,s.start[1]!,s.start[2]!,s.start[3]!,s.start[4]!,s.start[5]!,s.start[6]!,s.start[7]!⟩) (m ++ jY (2 * s.w) (m.length % (2 * s.w)) (8 * m.length))
def nR (s : Sha) (x : Nat) : List UInt8:=(bytes (s.w / 8) x).reverse
def eO (s : Sha) (m : List UInt8) : List UInt8:=((Oi s m).list.map (nR s)).flatten
end Nums
namespace Go.Proofs.YtfkchihlchlfdaaGreatDoor
open Go.RowKit Go.IntWalk Nums
theorem KW (w n x : Nat) (hn : n <= w) (hx : x < 2 ^ w) : x * 2 ^ (w - n) % 2 ^ w = x % 2 ^ n * 2 ^ (w - n) /\ x / 2 ^ n < 2 ^ (w - n):=by
 have e : (2 : Nat) ^ w = 2 ^ n * 2 ^ (w - n):=by rw [<-pL,Bp hn]
 refine ⟨?_,DM (by rw [<-e]; exact hx)⟩;rw [e,Nat.mul_mod_mul_right]
theorem MA (x n : Nat) (hx : x < 4294967296) (hn : n < 32) : (x * 2 ^ (32 - n) + x / 2 ^ n) % 4294967296 = eD 32 n x:=by
 obtain ⟨e1,e2⟩:=KW 32 n x (by omega) hx;have h4 : x % 2 ^ n + 1 <= 2 ^ n:=eJ _ (l5 n);have h5:=Nat.mul_le_mul_right (2 ^ (32 - n)) h4
 have h6 : (2 : Nat) ^ n * 2 ^ (32 - n) = 4294967296:=by
  rw [<-pL,Bp (show n <= 32 by omega)]
 rw [h6,sA,rZ] at h5;rw [show (2 : Nat) ^ 32 = 4294967296 from rfl] at e1
 unfold eD
 generalize x / 2 ^ n = d at *;generalize x * 2 ^ (32 - n) = y at *;generalize x % 2 ^ n * 2 ^ (32 - n) = z at *;generalize (2 : Nat) ^ (32 - n) = c at *
 omega
theorem sD (x n : Nat) (hx : x < 4294967296) (hn : n < 32) (w : World) :
  Calls Tryz.prog 59 #[.int .u64 (x : Int),.int .u64 (n : Int),.int .u64 32] w λe w'=>e = .returned (.int .u64 ((eD 32 n x : Nat) : Int)) /\ w' = w:=by
 obtain ⟨e1,e2⟩:=KW 32 n x (by omega) hx;have hp : (2 : Nat) ^ (32 - n) <= 2 ^ 32:=xK (by decide) (by omega)
 have hb : x * 2 ^ (32 - n) < 18446744073709551616:=by
  have h1:=m9 (show x <= 4294967295 by omega) hp
  have : (4294967295 : Nat) * 2 ^ 32 < 18446744073709551616:=by decide
  omega
 have q3 : IntKind.u64.wrap ((x : Int) * 2 ^ (32 - n)) = ((x * 2 ^ (32 - n) : Nat) : Int):=by
  rw [show ((x : Int) * 2 ^ (32 - n)) = ((x * 2 ^ (32 - n) : Nat) : Int) by simp];exact sC _ hb
 have q4 : IntKind.u64.wrap (32 - (n : Int)) = ((32 - n : Nat) : Int):=by
  rw [IntKind.wrap_u64]
  omega
 have f1 : ((x : Int) / 2 ^ n) = ((x / 2 ^ n : Nat) : Int):=by simp
 have hd : x / 2 ^ n < 18446744073709551616:=bX (gD _ _) (by omega)
 have q5 : bits .or .u64 ((x / 2 ^ n : Nat) : Int) ((x * 2 ^ (32 - n) : Nat) : Int) = ((x * 2 ^ (32 - n) + x / 2 ^ n : Nat) : Int):=by
  rw [u64_or_nat _ _ hd hb,Nat.or_comm,nat_join (32 - n) _ _ (Nat.mul_mod_left _ _) e2]
 have q6:=MA x n hx hn
 have q7 : ((x * 2 ^ (32 - n) + x / 2 ^ n : Nat) : Int).tmod 4294967296 = ((eD 32 n x : Nat) : Int):=by
  rw [<-q6]
  rfl
 have g1 : ((32 - n : Nat) : Int) <= 64:=by omega
 have g2 : (n : Int) <= 64:=by omega
 clear e1 e2 hb hd q6 hp;generalize eD 32 n x = r at *;generalize x * 2 ^ (32 - n) + x / 2 ^ n = y at *;generalize x * 2 ^ (32 - n) = m at *;generalize x / 2 ^ n = d at *;generalize hs : 32 - n = s at *;clear hs
 go_enter Tryz.func59,Tryz.ntmps59
 go_wp2
 go_ret
 exact ⟨rfl,rfl⟩
theorem tB : Own 40:=λ_ _=>by go_simp
theorem uT : Own 39:=λ_ _=>by go_simp
theorem MU : Own 41:=λ_ _=>by go_simp
theorem Ha : Own 38:=λ_ _=>by go_simp
theorem sF (x : Nat) (w : World) : Calls Tryz.prog 39 #[.int .u64 (x : Int),.int .u64 32] w λe w'=>e = .returned (.int .u64 ((x % 4294967296 : Nat) : Int)) /\ w' = w:=by
 have q : (x : Int).tmod 4294967296 = ((x % 4294967296 : Nat) : Int):=rfl;generalize x % 4294967296 = y at *
 go_enter Tryz.func39,Tryz.ntmps39
 go_wp2
 go_ret
 exact ⟨rfl,rfl⟩
theorem SK (i : Nat) (hi : i < 80) (w : World) :
  Calls Tryz.prog 41 #[.int .i64 (i : Int)] w λe w'=>e = .returned (.int .u64 (cbs[i]! : Nat)) /\ Below w.heap.size w w':=by
 go_enter Tryz.func41,Tryz.ntmps41
 go_wp2
 go_ret
 refine ⟨?_,(Below.refl _ _).alloc (aH _) _⟩;have hod : i < cbs.length:=hi
 have e : (Us cbs)[i]'(by rw [dB]; exact hod) = .int .u64 (cbs[i]! : Nat):=by
  rw [getElem!_pos cbs i hod]
  simp [Us]
 exact congrArg oB e
theorem My (i : Nat) (hi : i < 8) (w : World) :
  Calls Tryz.prog 38 #[.int .i64 (i : Int)] w λe w'=>e = .returned (.int .u64 (sqs[i]! : Nat)) /\ Below w.heap.size w w':=by
 go_enter Tryz.func38,Tryz.ntmps38
 go_wp2
 go_ret
 refine ⟨?_,(Below.refl _ _).alloc (aH _) _⟩;have hod : i < sqs.length:=hi
 have e : (Us sqs)[i]'(by rw [dB]; exact hod) = .int .u64 (sqs[i]! : Nat):=by
  rw [getElem!_pos sqs i hod]
  simp [Us]
 exact congrArg oB e
end Go.Proofs.YtfkchihlchlfdaaGreatDoor
namespace Nums
def ws (n : Nat) : List Nat:=[n % 18446744073709551616,n / 18446744073709551616 % 18446744073709551616,n / 340282366920938463463374607431768211456 % 18446744073709551616,n / 6277101735386680763835789423207666416102355444464034512896 % 18446744073709551616]
def v4 (a b c d : Nat) : Nat:=a + 18446744073709551616 * b + 340282366920938463463374607431768211456 * c + 6277101735386680763835789423207666416102355444464034512896 * d
theorem fA (n : Nat) : (ws n).length = 4:=rfl
theorem NT {a b c d : Nat} (h0 : a < 18446744073709551616) (h1 : b < 18446744073709551616) (h2 : c < 18446744073709551616) (h3 : d < 18446744073709551616) : ws (v4 a b c d) = [a,b,c,d]:=by
 unfold ws v4
 have e0 : (a + 18446744073709551616 * b + 340282366920938463463374607431768211456 * c + 6277101735386680763835789423207666416102355444464034512896 * d) % 18446744073709551616 = a:=by omega
 have e1 : (a + 18446744073709551616 * b + 340282366920938463463374607431768211456 * c + 6277101735386680763835789423207666416102355444464034512896 * d) / 18446744073709551616 % 18446744073709551616 = b:=by omega
 have e2 : (a + 18446744073709551616 * b + 340282366920938463463374607431768211456 * c + 6277101735386680763835789423207666416102355444464034512896 * d) / 340282366920938463463374607431768211456 % 18446744073709551616 = c:=by omega
 have e3 : (a + 18446744073709551616 * b + 340282366920938463463374607431768211456 * c + 6277101735386680763835789423207666416102355444464034512896 * d) / 6277101735386680763835789423207666416102355444464034512896 % 18446744073709551616 = d:=by omega
 rw [e0,e1,e2,e3]
theorem uJ {n : Nat} (h : n < 115792089237316195423570985008687907853269984665640564039457584007913129639936) :
  ∃ a b c d,n = v4 a b c d /\ ws n = [a,b,c,d] /\ a < 18446744073709551616 /\ b < 18446744073709551616 /\ c < 18446744073709551616 /\ d < 18446744073709551616:=by
 refine ⟨_,_,_,_,?_,rfl,eJ _ (by decide),eJ _ (by decide),eJ _ (by decide),eJ _ (by decide)⟩
 unfold v4
 omega
theorem WY (n : Nat) : ∀ y ∈ ws n,y < 18446744073709551616:=by
 intro y hy
 simp only [ws,b7,List.not_mem_nil,or_false] at hy
 rcases hy with rfl | rfl | rfl | rfl <;> exact eJ _ (by decide)
theorem pT (n : Nat) {k : Nat} (hk : k < 4) : (ws n)[k]! < 18446744073709551616 :=
 WY n _ (by rw [getElem!_pos (ws n) k hk]; exact yJ _)
def mxl (f : Nat -> Nat) (l : List Nat) (k : Nat) : List Nat:=(List.range l.length).map λj=>if j < k then f j else l[j]!
theorem eF (f : Nat -> Nat) (l : List Nat) (k : Nat) : (mxl f l k).length = l.length:=by simp [mxl]
theorem qO (f : Nat -> Nat) (l : List Nat) : mxl f l 0 = l:=by
 apply fR (by simp [mxl])
 intro i h1 h2
 simp [mxl,h2]
theorem zE (f : Nat -> Nat) (l : List Nat) {k : Nat} (h : k < l.length) : (mxl f l k)[k]! = l[k]!:=by
 rw [getElem!_pos _ k (by rw [eF]; exact h)]
 simp [mxl]
theorem nG (f : Nat -> Nat) (l : List Nat) {k : Nat} : (mxl f l k).set k (f k) = mxl f l (k + 1):=by
 apply fR (by simp [mxl])
 intro j h1 h2
 rw [List.getElem_set];simp only [mxl,List.getElem_map,List.getElem_range]
 by_cases hjk : k = j
 ·subst hjk
  simp
 ·rw [if_neg hjk]
  by_cases hlt : j < k
  ·rw [if_pos hlt,if_pos (by omega)]
  ·rw [if_neg hlt,if_neg (by omega)]
def sup (a b : List Nat) : Nat -> Nat
  | 0=>0
  | k + 1=>(a[k]! + b[k]! + sup a b k) / 18446744073709551616
def swd (a b : List Nat) (k : Nat) : Nat:=(a[k]! + b[k]! + sup a b k) % 18446744073709551616
theorem sup_le {a b : List Nat} (ha : ∀ k,k < 4 -> a[k]! < 18446744073709551616) (hb : ∀ k,k < 4 -> b[k]! < 18446744073709551616) : ∀ k,k <= 4 -> sup a b k <= 1
 | 0,_=>bZ _
 | k + 1,hk=>by
  have:=sup_le ha hb k (by omega);have:=ha k (by omega);have:=hb k (by omega)
  show (a[k]! + b[k]! + sup a b k) / 18446744073709551616 <= 1
  omega
theorem Ve {A B : Nat} (hA : A < 115792089237316195423570985008687907853269984665640564039457584007913129639936) (hB : B < 115792089237316195423570985008687907853269984665640564039457584007913129639936) :
  mxl (swd (ws A) (ws B)) (ws A) 4 = ws ((A + B) % 115792089237316195423570985008687907853269984665640564039457584007913129639936):=by
 obtain ⟨a0,a1,a2,a3,eA,wA,p0,p1,p2,p3⟩:=uJ hA;obtain ⟨b0,b1,b2,b3,eB,wB,q0,q1,q2,q3⟩:=uJ hB;rw [wA,wB];have e : mxl (swd [a0,a1,a2,a3] [b0,b1,b2,b3]) [a0,a1,a2,a3] 4 = [swd [a0,a1,a2,a3] [b0,b1,b2,b3] 0,swd [a0,a1,a2,a3] [b0,b1,b2,b3] 1,swd [a0,a1,a2,a3] [b0,b1,b2,b3] 2,swd [a0,a1,a2,a3] [b0,b1,b2,b3] 3]:=rfl;have g0 : sup [a0,a1,a2,a3] [b0,b1,b2,b3] 0 = 0:=rfl;have g1 : sup [a0,a1,a2,a3] [b0,b1,b2,b3] 1 = (a0 + b0 + sup [a0,a1,a2,a3] [b0,b1,b2,b3] 0) / 18446744073709551616:=rfl;have g2 : sup [a0,a1,a2,a3] [b0,b1,b2,b3] 2 = (a1 + b1 + sup [a0,a1,a2,a3] [b0,b1,b2,b3] 1) / 18446744073709551616:=rfl;have g3 : sup [a0,a1,a2,a3] [b0,b1,b2,b3] 3 = (a2 + b2 + sup [a0,a1,a2,a3] [b0,b1,b2,b3] 2) / 18446744073709551616:=rfl;have s0 : swd [a0,a1,a2,a3] [b0,b1,b2,b3] 0 = (a0 + b0 + sup [a0,a1,a2,a3] [b0,b1,b2,b3] 0) % 18446744073709551616:=rfl;have s1 : swd [a0,a1,a2,a3] [b0,b1,b2,b3] 1 = (a1 + b1 + sup [a0,a1,a2,a3] [b0,b1,b2,b3] 1) % 18446744073709551616:=rfl;have s2 : swd [a0,a1,a2,a3] [b0,b1,b2,b3] 2 = (a2 + b2 + sup [a0,a1,a2,a3] [b0,b1,b2,b3] 2) % 18446744073709551616:=rfl;have s3 : swd [a0,a1,a2,a3] [b0,b1,b2,b3] 3 = (a3 + b3 + sup [a0,a1,a2,a3] [b0,b1,b2,b3] 3) % 18446744073709551616:=rfl;rw [e];generalize swd [a0,a1,a2,a3] [b0,b1,b2,b3] 0 = x0 at *;generalize swd [a0,a1,a2,a3] [b0,b1,b2,b3] 1 = x1 at *;generalize swd [a0,a1,a2,a3] [b0,b1,b2,b3] 2 = x2 at *;generalize swd [a0,a1,a2,a3] [b0,b1,b2,b3] 3 = x3 at *;generalize sup [a0,a1,a2,a3] [b0,b1,b2,b3] 0 = c0 at *;generalize sup [a0,a1,a2,a3] [b0,b1,b2,b3] 1 = c1 at *;generalize sup [a0,a1,a2,a3] [b0,b1,b2,b3] 2 = c2 at *;generalize sup [a0,a1,a2,a3] [b0,b1,b2,b3] 3 = c3 at *
 have hx : (A + B) % 115792089237316195423570985008687907853269984665640564039457584007913129639936 = v4 x0 x1 x2 x3:=by
  rw [eA,eB]
  unfold v4
  clear e wA wB hA hB eA eB
  omega
 rw [hx,NT (by omega) (by omega) (by omega) (by omega)]
theorem zZ : LL = 7237005577332262213973186563042994240857116359379907606001950938285454250989:=rfl
theorem Vz {v0 v1 v2 v3 t m0 m1 p1 r0 r1 r2 r3 l0 l1 l2 l3 V : Nat} (h0 : v0 < 18446744073709551616) (h1 : v1 < 18446744073709551616) (h2 : v2 < 18446744073709551616) (h3 : v3 < 1152921504606846976) (ht : t < 34359738368)
  (hm0 : m0 = t * 6346243789798364141) (hm1 : m1 = t * 1503914060200516822) (hp1 : p1 = m1 % 18446744073709551616 + m0 / 18446744073709551616)
  (hl0 : l0 = if v0 < m0 % 18446744073709551616 + 0 then 1 else 0) (hr0 : r0 = (v0 + 18446744073709551616 - m0 % 18446744073709551616 - 0) % 18446744073709551616)
  (hl1 : l1 = if v1 < p1 % 18446744073709551616 + l0 then 1 else 0) (hr1 : r1 = (v1 + 18446744073709551616 - p1 % 18446744073709551616 - l0) % 18446744073709551616)
  (hl2 : l2 = if v2 < m1 / 18446744073709551616 + p1 / 18446744073709551616 + l1 then 1 else 0) (hr2 : r2 = (v2 + 18446744073709551616 - (m1 / 18446744073709551616 + p1 / 18446744073709551616) - l1) % 18446744073709551616)
  (hl3 : l3 = if v3 < 0 + l2 then 1 else 0) (hr3 : r3 = (v3 + 18446744073709551616 - 0 - l2) % 18446744073709551616)
  (hV : V = v4 v0 v1 v2 v3 + 7237005577332262213973186563042994240829374041602535252466099000494570602496 * t) :
  (l3 = 0 -> v4 r0 r1 r2 r3 = V % LL) /\ (l3 = 1 -> (v4 r0 r1 r2 r3 + LL) % 115792089237316195423570985008687907853269984665640564039457584007913129639936 = V % LL) /\ l3 <= 1 /\ l0 <= 1 /\ l1 <= 1 /\ l2 <= 1 /\
   r0 < 18446744073709551616 /\ r1 < 18446744073709551616 /\ r2 < 18446744073709551616 /\ r3 < 18446744073709551616:=by
 have b0 : l0 <= 1:=by rw [hl0]; split <;> omega
 have b1 : l1 <= 1:=by rw [hl1]; split <;> omega
 have b2 : l2 <= 1:=by rw [hl2]; split <;> omega
 have b3 : l3 <= 1:=by rw [hl3]; split <;> omega
 have d0 : r0 + m0 % 18446744073709551616 = v0 + 18446744073709551616 * l0:=by rw [hr0,hl0]; split <;> omega
 have d1 : r1 + p1 % 18446744073709551616 + l0 = v1 + 18446744073709551616 * l1:=by rw [hr1,hl1]; split <;> omega
 have hm : m1 / 18446744073709551616 < 17179869184:=by omega
 have hp : p1 / 18446744073709551616 < 2:=by omega
 have d2 : r2 + (m1 / 18446744073709551616 + p1 / 18446744073709551616) + l1 = v2 + 18446744073709551616 * l2:=by rw [hr2,hl2]; split <;> omega
 have d3 : r3 + l2 = v3 + 18446744073709551616 * l3:=by rw [hr3,hl3]; split <;> omega
 have c0 : r0 < 18446744073709551616:=by omega
 have c1 : r1 < 18446744073709551616:=by omega
 have c2 : r2 < 18446744073709551616:=by omega
 have c3 : r3 < 18446744073709551616:=by omega
 clear hr0 hr1 hr2 hr3 hl0 hl1 hl2 hl3
 have key : v4 r0 r1 r2 r3 + m0 + 18446744073709551616 * m1 = v4 v0 v1 v2 v3 + 115792089237316195423570985008687907853269984665640564039457584007913129639936 * l3:=by
  unfold v4
  omega
 have hlow : v4 v0 v1 v2 v3 < 7237005577332262213973186563042994240829374041602535252466099000494570602496:=by
  unfold v4
  omega
 have hR : v4 r0 r1 r2 r3 < 115792089237316195423570985008687907853269984665640564039457584007913129639936:=by
  unfold v4
  omega
 clear d0 d1 d2 d3 hp1 hm hp;refine ⟨λh=>?_,λh=>?_,b3,b0,b1,b2,c0,c1,c2,c3⟩
 ·have e : V = v4 r0 r1 r2 r3 + LL * t:=by
   rw [hV,zZ]
   omega
  rw [e,uA,bR];rw [zZ]
  omega
 ·have hg : 115792089237316195423570985008687907853269984665640564039457584007913129639936 <= v4 r0 r1 r2 r3 + LL:=by
   rw [zZ]
   omega
  have e : V + LL = (v4 r0 r1 r2 r3 + LL - 115792089237316195423570985008687907853269984665640564039457584007913129639936) + LL * t:=by
   rw [hV,zZ] at *
   omega
  have e2 : V % LL = (V + LL) % LL:=by rw [Nat.add_mod_right]
  rw [e2,e,uA,Nat.mod_eq_sub_mod hg,bR,bR]
  ·rw [zZ] at *
   omega
  ·rw [zZ] at *
   omega
end Nums
namespace Go.Proofs.YtfkchihlchlfdaaGreatDoor
open Go.RowKit Go.IntWalk Nums
noncomputable def dl (k : Nat) : Code:=((Tryz.f21.body.map pP).getD [])[k]?.getD .skip
theorem PW {f : Nat -> Nat} {l : List Nat} {k j : Nat} (h : j < k) (hj : j < l.length) : (mxl f l k)[j]! = f j:=by
 rw [getElem!_pos _ j (by rw [eF]; exact hj)]
 simp [mxl,h]
theorem VJ {e : Nat} (he : e < 18446744073709551616) : bits .xor .u64 (if IntKind.u64.signed = true then -1 else IntKind.u64.max) (e : Int) = ((2 ^ 64 - 1 - e : Nat) : Int):=by
 have h:=u64_xor_nat 18446744073709551615 e (by omega) he
 have h2 : 18446744073709551615 ^^^ e = 2 ^ 64 - 1 - e:=by
  apply Ac
  intro i
  rw [show 2 ^ 64 - 1 - e = 2 ^ 64 - (e + 1) by omega,F8 he,F7,show 18446744073709551615 = 2 ^ 64 - 1 from rfl,Nat.testBit_two_pow_sub_one]
  by_cases hi : i < 64
  ·simp [hi]
  ·have h3 : e.testBit i = false:=Nat.testBit_lt_two_pow (Nat.lt_of_lt_of_le he (xK (n:=2) (by decide) (show 64 <= i by omega)))
   simp [hi,h3]
 rw [h2] at h;exact h
theorem Ub {t : Nat} (h : t < 80) : cbs[t]! < 18446744073709551616:=by
 have h1 : ∀ x ∈ cbs,x < 18446744073709551616:=by decide
 have h2 : t < cbs.length:=h;rw [getElem!_pos cbs t h2];exact h1 _ (yJ _)
theorem Xz (f : Nat -> Nat) (a b c d e g h i : Nat) : mxl f [a,b,c,d,e,g,h,i] 8 = [f 0,f 1,f 2,f 3,f 4,f 5,f 6,f 7]:=rfl
def pad (l : List UInt8) (k : Nat) : List UInt8:=l ++ 128 :: aE k 0
theorem Ff (l : List UInt8) (k : Nat) : (pad l k).length = l.length + 1 + k:=by
 unfold pad
 rw [aI,cC,List.length_replicate]
 omega
theorem Pr (l : List UInt8) (k : Nat) : By (pad l k) ++ [.int .u8 0] = By (pad l (k + 1)):=by
 have e : pad l (k + 1) = pad l k ++ [0]:=by
  unfold pad
  rw [List.replicate_succ',aU,List.cons_append]
 rw [e,vN]
 rfl
theorem cP : ∀ (k v : Nat),(Nums.bytes k v).length = k
 | 0,_=>rfl
 | k + 1,v=>by
  show (Nums.bytes k (v / 256)).length + 1 = k + 1
  rw [cP k]
theorem RQ (l : List UInt8) (k : Nat) (x : UInt8) : (By l).set k (.int .u8 (x.toNat : Int)) = By (l.set k x):=by
 simp [By,List.map_set]
def z8 : List Nat:=aE 8 0
theorem U4 : z8.length = 8:=rfl
theorem Mm {R : List UInt8} {n : Nat} (h : n < R.length) : R.take n ++ [R[n]!] = R.take (n + 1):=by
 rw [getElem!_pos R n h,List.take_add_one,aX h]
 rfl
section
variable {ops : Array Oper} {C0 : World -> Prop} {Q : Act -> Prop} {N : Nat} {E : List (Nat × Value)} {o : Oper} {rest : List Oper} {k : Nat}
theorem Wr {x y : Operand} {t : TypeId} (m n : Int) (q : Bool) (hg : o.guard = none) (hd : o.dst = some k) (hk : aQ k N = true) (ho : o.op = .binOp .eql 53 x y t) (hx : ev E x = some (.int .u64 m)) (hy : ev E y = some (.int .u64 n))
  (hr : decide (m = n) = q) (hn : bF Tryz.prog ops C0 Q rest N ((k,.bool q) :: E)) : bF Tryz.prog ops C0 Q (o :: rest) N E :=
 dP _ hg hd hk (λa ha w _=>by
  have h1:=ha.eval hx;have h2:=ha.eval hy;subst hr
  unfold execOp
  simp only [ho,h1,h2]
  by_cases e : m = n <;> go_simp) hn
theorem Wg {x y : Operand} {t : TypeId} (m n r : Int) (hz : n ≠ 0) (hg : o.guard = none) (hd : o.dst = some k) (hk : aQ k N = true) (ho : o.op = .binOp .quo 53 x y t) (hx : ev E x = some (.int .u64 m)) (hy : ev E y = some (.int .u64 n))
  (hr : IntKind.u64.wrap (m.tdiv n) = r) (hn : bF Tryz.prog ops C0 Q rest N ((k,.int .u64 r) :: E)) : bF Tryz.prog ops C0 Q (o :: rest) N E :=
 dP _ hg hd hk (λa ha w _=>by
  have h1:=ha.eval hx;have h2:=ha.eval hy;subst hr
  unfold execOp
  simp only [ho,h1,h2]
  go_simp) hn
theorem Wo {x : Operand} (m r : Int) (hg : o.guard = none) (hd : o.dst = some k) (hk : aQ k N = true) (ho : o.op = .convert 53 3 x) (hx : ev E x = some (.int .u64 m))
  (hr : IntKind.i64.wrap m = r) (hn : bF Tryz.prog ops C0 Q rest N ((k,.int .i64 r) :: E)) : bF Tryz.prog ops C0 Q (o :: rest) N E :=
 dP _ hg hd hk (λa ha w _=>by
  have h1:=ha.eval hx
  unfold execOp
  simp only [ho,h1]
  go_simp) hn
end
theorem GH (a b c d e f g h i j k l : Int) (w : World) :
  (Instr.buildSlice 78 12 #[(0,.int .u64 a),(1,.int .u64 b),(2,.int .u64 c),(3,.int .u64 d),(4,.int .u64 e),(5,.int .u64 f),(6,.int .u64 g),(7,.int .u64 h),(8,.int .u64 i),(9,.int .u64 j),(10,.int .u64 k),(11,.int .u64 l)]).run Tryz.prog w =
   .ok (.slice (some ⟨w.heap.size,0,none⟩) 12 12) (w.alloc (.cells #[.int .u64 a,.int .u64 b,.int .u64 c,.int .u64 d,.int .u64 e,.int .u64 f,.int .u64 g,.int .u64 h,.int .u64 i,.int .u64 j,.int .u64 k,.int .u64 l] 53)):=by
 go_simp
section
variable {ops : Array Oper} {Q : Exit -> Act -> World -> Prop} {N : Nat} {E : List (Nat × Value)} {w : World} {o : Oper} {rest : List Oper} {k : Nat}
theorem Na (a b c d e f g h i j k' l : Int) (hg : o.guard = none) (hd : o.dst = some k) (hk : aQ k N = true)
  (ho : o.op = .buildSlice 78 12 #[(0,.const (.int .u64 a)),(1,.const (.int .u64 b)),(2,.const (.int .u64 c)),(3,.const (.int .u64 d)),(4,.const (.int .u64 e)),(5,.const (.int .u64 f)),(6,.const (.int .u64 g)),(7,.const (.int .u64 h)),(8,.const (.int .u64 i)),(9,.const (.int .u64 j)),(10,.const (.int .u64 k')),(11,.const (.int .u64 l))])
  (hn : lF Tryz.prog ops Q rest N ((k,.slice (some ⟨w.heap.size,0,none⟩) 12 12) :: E) (w.alloc (.cells #[.int .u64 a,.int .u64 b,.int .u64 c,.int .u64 d,.int .u64 e,.int .u64 f,.int .u64 g,.int .u64 h,.int .u64 i,.int .u64 j,.int .u64 k',.int .u64 l] 53))) : lF Tryz.prog ops Q (o :: rest) N E w :=
 nZ _ hg hd hk (λac _=>by
  have hr:=GH a b c d e f g h i j k' l w
  unfold execOp
  simp only [ho,dW,cA,gB,Act.eval,aJ,hr,aF,aK]) hn
end
def RB (w : World) (A : Option Addr) (d : Nat) (l : List UInt8) : Prop:=(A = none /\ l = [] /\ d = 0) \/ ∃ ad,A = some ad /\ ∀ j v,(By l)[j]? = some v -> w.cell? (ad.add j) = some v
theorem RB.up {w w' : World} {A : Option Addr} {d : Nat} {l : List UInt8} (h : RB w A d l) (hu : Up w w') : RB w' A d l:=by
 rcases h with h | ⟨ad,h1,h2⟩
 ·exact .inl h
 ·exact .inr ⟨ad,h1,λj v hj=>(hu.cell (World.block_lt_of_cell? w _ (h2 j v hj))).trans (h2 j v hj)⟩
section
variable {ops : Array Oper} {Q : Exit -> Act -> World -> Prop} {N : Nat} {E : List (Nat × Value)} {w : World} {o : Oper} {rest : List Oper} {k : Nat}
theorem Qj {s x : Operand} {base c d : Nat} {A X : Option Addr} {xs l : List UInt8} (hg : o.guard = none) (hd : o.dst = some k) (hk : aQ k N = true) (ho : o.op = .call { callee:=.builtin .append,args:=#[s,x],argTypes:=#[23,23] })
  (hs : ev E s = some (.slice A (By xs).length c)) (hx : ev E x = some (.slice X l.length d)) (hown : GS w base 5 A c (By xs)) (hR : RB w X d l) (hbytes : xs.length + l.length <= 140737488355328) (hbase : base <= w.heap.size)
  (hn : ∀ A' c' w',GS w' base 5 A' c' (By (xs ++ l)) -> w.grownBy w' (A.map (·.block)) -> lF Tryz.prog ops Q rest N ((k,.slice A' (By (xs ++ l)).length c') :: E) w') :
  lF Tryz.prog ops Q (o :: rest) N E w:=by
 rcases hR with ⟨rfl,rfl,rfl⟩ | ⟨ad,rfl,h2⟩
 ·obtain ⟨i,hi0,hz,hs0,hb⟩:=info_parts mB
  have hr:=run_append_owned_none (P:=Tryz.prog) w base 23 o.type 5 i 1 Tryz.underlying23 hi0 _ (By xs).length (By xs) hown;have h1:=hn A c w (by rw [bV]; exact hown) (World.grownBy.refl _ _);rw [bV] at h1;refine nZ _ hg hd hk (λa ha=>?_) h1;have h2:=ha.eval hs;have h3:=ha.eval hx
  unfold execOp
  simp only [ho,resolve,invoke,builtin,aJ,aK,aF,dW,cA,gB,h2,h3,List.length_nil,hr]
 ·refine CM (bytes:=1) (z:=.int .u8 0) (news:=By l) (base:=base) (e:=5) (xs:=By xs) (A:=A) (c:=c) (ad:=ad) (m:=l.length) (d:=d) hg hd hk ho hs hx Tryz.underlying23 mB rfl hown (cD l) h2 (kU _) (by rw [cD]; omega) (by rw [cD]; unfold maxLen; omega) hbase ?_
  intro A' c' w' h3 h4 _
  rw [<-vN] at h3 ⊢;exact hn A' c' w' h3 h4
end
def Ym (w : World) (l : List UInt8) (e : Ending) (w' : World) : Prop :=
  ∃ A c,e = .returned (.slice A (By l).length c) /\ GS w' w.heap.size 5 A c (By l) /\ Below w.heap.size w w'
theorem GS.less {w : World} {base base' e c : Nat} {A : Option Addr} {xs : List Value} (h : GS w base e A c xs) (hb : base' <= base) : GS w base' e A c xs:=by
 refine ⟨h.1,?_⟩
 rcases h.2 with h1 | ⟨g,cap,cur,hv,hg,hr⟩
 ·exact .inl h1
 ·exact .inr ⟨g,cap,cur,hv,j6 hb hg,hr⟩
section
variable {ops : Array Oper} {C0 : World -> Prop} {Q : Act -> Prop} {N : Nat} {E : List (Nat × Value)} {o : Oper} {rest : List Oper} {k : Nat}
theorem Wm {x : Operand} (p : Option Addr) (n c : Nat) (hg : o.guard = none) (hd : o.dst = some k) (hk : aQ k N = true) (ho : o.op = .call { callee:=.builtin .len,args:=#[x],argTypes:=#[30] }) (hx : ev E x = some (.slice p n c))
  (hn : bF Tryz.prog ops C0 Q rest N ((k,.int .i64 (n : Int)) :: E)) : bF Tryz.prog ops C0 Q (o :: rest) N E :=
 dP _ hg hd hk (λa ha w _=>by
  have h1:=ha.eval hx
  unfold execOp
  simp only [ho,resolve,invoke,builtin,aJ,aK,aF,dW,cA,gB,h1]
  go_simp) hn
theorem Wp {x y : Operand} (ad : Addr) (n c i : Nat) (hi : i < n) (hg : o.guard = none) (hd : o.dst = some k) (hk : aQ k N = true) (ho : o.op = .indexAddr 30 x y)
  (hx : ev E x = some (.slice (some ad) n c)) (hy : ev E y = some (.int .i64 (i : Int))) (hn : bF Tryz.prog ops C0 Q rest N ((k,.pointer (some (ad.add i))) :: E)) : bF Tryz.prog ops C0 Q (o :: rest) N E :=
 dP _ hg hd hk (λa ha w _=>by
  have h1:=ha.eval hx;have h2:=ha.eval hy
  have h3 : (i : Int) < (n : Int):=by omega
  have h4 : (0 : Int) <= (i : Int):=by omega
  unfold execOp
  simp only [ho,h1,h2]
  go_simp) hn
theorem TU {x : Operand} (p : Addr) (v : Value) (hg : o.guard = none) (hd : o.dst = some k) (hk : aQ k N = true) (ho : o.op = .load 23 x) (hx : ev E x = some (.pointer (some p)))
  (hc : ∀ w,C0 w -> w.cell? p = some v) (hn : bF Tryz.prog ops C0 Q rest N ((k,v) :: E)) : bF Tryz.prog ops C0 Q (o :: rest) N E :=
 dP _ hg hd hk (λa ha w hw=>by
  have h1:=ha.eval hx;have h2:=hc w hw
  unfold execOp
  simp only [ho,h1]
  go_simp) hn
end
theorem Hd : Own 21:=λ_ _=>by go_simp
theorem Ni (ls : List (List UInt8)) (k : Nat) (h : k < ls.length) : (ls.take (k + 1)).flatten = (ls.take k).flatten ++ ls[k]:=by
 rw [List.take_succ_eq_append_getElem h,DQ,List.flatten_cons,List.flatten_nil,bV]
theorem TM (ls : List (List UInt8)) (k : Nat) : (ls.take k).flatten.length <= ls.flatten.length:=by
 have h : ls.flatten = (ls.take k).flatten ++ (ls.drop k).flatten:=by rw [<-DQ,dR]
 rw [h,aI]
 omega
end Go.Proofs.YtfkchihlchlfdaaGreatDoor
